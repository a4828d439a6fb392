import Derived.Test.YtbhbjhejkamlnaaGreatZx16
import Derived.Test.YtbhbjhejkamlnaaGreatZx15
namespace Go.Proofs.YtbhbjhejkamlnaaGreat.Sx
open Go.RowKit
def mG (T:TypeId) (ms:List AM) (g:FuncId) (aps:List AP) (spec:List Dat->Option (Eff × List Seg)):Con:=fun hp fr args=>match args with
 | .one (.sc (.ptr id (.lit 0))) :: .one (.sc (.bm g' id'))::rest=>if Nat.beq g g'&&Nat.beq id id' then jt T ms aps spec hp fr id rest else none
 |_=>none
theorem G1 {P:Program} {tt:TT} (htt:aP P tt) (hm:P.follows .mixedOrders=true) {f:FuncId} {fn:Func} {c:Code} (hf:P.funcs[f]? = some fn) (hb:fn.body=some c) (hen:∀ (args:Array Value) (w:World),(callFunc f args).run P w = .ok (.enter f args) w)
 {A:List Dat->Ann} (hC:∀ ds id,cZ P ((A ds).C id)) {T:TypeId} {ms:List AM} {g:FuncId} {aps:List AP} {spec:List Dat->Option (Eff × List Seg)} (hn:Nat.ble (aps.length+2) fn.ntmps=true)
 (H:∀ ds e sg sM hM rest id1 svs h id,spec ds=some (e,sg)->All e.vc->unM ms ds 1=some (sM,hM,rest,id1)->unP aps rest id1=some (svs,h,id) ->
   sx tt fn.ntmps (A ds) (LFb true) c (il tt fn.results.toList e T sg) {tm:=fo (.one (.sc (.ptr 0 (.lit 0))) :: .one (.sc (.bm g 0))::svs) 0,hp:=(0,.own T sM)::(hM++h),nx:=id}):ConOK P f (mG T ms g aps spec):=by
 refine ⟨hen,?_,fun hp fr caps e h=>by cases h⟩;intro hp fr args e0 h0 hvc w0 w ρ vs hw hfr hargs;unfold mG at h0
 split at h0
 ·rename_i id g' id' rest;have hgi:(Nat.beq g g'&&Nat.beq id id')=true:=by
   cases hb:(Nat.beq g g'&&Nat.beq id id') with
   |true=>rfl
   |false=>rw[hb] at h0;cases h0
  rw[if_pos hgi] at h0;simp only[Bool.and_eq_true] at hgi;obtain rfl:=Nat.eq_of_beq_eq_true hgi.1;obtain rfl:=Nat.eq_of_beq_eq_true hgi.2;unfold jt at h0
  split at h0
  ·rename_i T' segs hlk
   split at h0
   ·rename_i hTT;obtain rfl:=Nat.eq_of_beq_eq_true hTT
    split at h0
    ·rename_i ds1 ps1 rs ds2 ps2 hflM hflP
     split at h0
     ·rename_i hck;simp only[Bool.and_eq_true,Bool.not_eq_true'] at hck;obtain ⟨⟨hdist,hnid⟩,hdis⟩:=hck
      split at h0
      ·rename_i e sg hspec;obtain rfl:=Option.some.inj h0;obtain ⟨hpM,hp2⟩:=all_append.1 hvc;obtain ⟨hpP,hpE⟩:=all_append.1 hp2
       match vs,hargs with
       | [],hargs=>exact hargs.elim
       | [_],hargs=>exact hargs.2.elim
       |v0::vb::vr,hargs=>
        obtain ⟨⟨hid,hv0⟩,⟨_,hvb⟩,hargs⟩:=hargs;obtain ⟨_,hoff,hMine,vs0,hcs0,hheap⟩:=hw.ents id _ hlk;have hnid':id ∉ bq rs:=fun h=>by rw[oW.2 h] at hnid;cases hnid
        obtain ⟨sM,hM,hunM,hMe,hMc⟩:=kA hw ms segs ds1 ds2 ps1 rs hflM hpM vs0 hcs0 1;have hidsAll:∀ i∈be hp rest,bE hp i=true->i∈aw hp (be hp rest):=fun i hi ho=>cE.2 ⟨hi,ho⟩
        obtain ⟨svs,h,ρ1,idE,hun,hleE,hin,hrel⟩:=gC hw aps rest ds2 ps2 hflP hpP vr hargs hidsAll (1+rs.length);have hsx:=H (ds1++ds2) e sg sM hM ds2 _ svs h idE hspec hpE hunM hun;have hlen:vr.length+2<=fn.ntmps:=by
         have h1:=jm aps ds2 _ svs h idE hun;have h2:=mC hrel;have:=Nat.le_of_ble_eq_true hn;omega
        have hsz:((v0::vb::vr).toArray++Array.replicate (fn.ntmps-(v0::vb::vr).toArray.size) undef).size=fn.ntmps:=by simp;omega
        have own_k:∀ k∈id::bq rs,(ρ k).isSome=true->∃ x,ad hp k=some x/\x.isOwn=true:=fun k hk hks=>by
         rcases List.mem_cons.1 hk with rfl |hk
         ·exact ⟨_,hlk,rfl⟩
         ·obtain ⟨a,ha⟩:=fq.1 hk;have:∃ E d,ad hp k=some (.orow E d):=kz hflM ha;obtain ⟨E,d,hl⟩:=this;exact ⟨_,hl,rfl⟩
        have fzNone:∀ k∈id::bq rs,(ρ k).isSome=true->bp ρ w (aw hp (be hp rest)) (ρ.blk k)=none:=fun k hk hks=>by
         cases hc:bp ρ w (aw hp (be hp rest)) (ρ.blk k) with
         |none=>rfl
         |some cs=>
          exfalso;obtain ⟨x,hx,hxo⟩:=own_k k hk hks
          rcases g8 hc with h1 |⟨⟨j,hj,hjs,hjb⟩,_⟩
          ·have:=(fh (hw.ents k x hx) hxo hks).1.2;rw[h1] at this;cases this
          ·obtain ⟨hj1,hj2⟩:=cE.1 hj;unfold bE at hj2
           split at hj2
           ·rename_i y hy;exact hw.apart j k y x hy hx hj2 hxo (fun e=>oY hdis hj1 (e ▸ hk)) hjs hks hjb
           ·cases hj2
        generalize hF:bp ρ w (aw hp (be hp rest))=F at *
        let mu:Nat->Bool:=fun b=>j5 ρ b (id::bq rs)
        have muK:∀ k∈id::bq rs,(ρ k).isSome=true->mu (ρ.blk k)=true:=fun k hk hks=>fS.2 ⟨k,hk,hks,rfl⟩
        let ρc:Map:={m:=fun i=>if i=0 then some (ρ.blk id,0) else if i<1+rs.length then cu ρ rs 1 i else ρ1 i,cap:=fun i=>if i<1+rs.length then dx ρ rs 1 i else ρ1.cap i,fz:=F,f0:=F,mu:=mu}
        have c0:ρc 0=some (ρ.blk id,0):=rfl;have cM:∀ i,1<=i->i<1+rs.length -> ρc i=cu ρ rs 1 i /\ ρc.cap i=dx ρ rs 1 i:=fun i g1 g2=>by
         refine ⟨?_,?_⟩
         ·show (if i=0 then some (ρ.blk id,0) else if i<1+rs.length then cu ρ rs 1 i else ρ1 i)=_;rw[if_neg (by omega),if_pos g2]
         ·show (if i<1+rs.length then dx ρ rs 1 i else ρ1.cap i)=_;rw[if_pos g2]
        have cH:∀ i,1+rs.length<=i -> ρc i=ρ1 i /\ ρc.cap i=ρ1.cap i:=fun i g=>by
         refine ⟨?_,?_⟩
         ·show (if i=0 then some (ρ.blk id,0) else if i<1+rs.length then cu ρ rs 1 i else ρ1 i)=_;rw[if_neg (by omega),if_neg (by omega)]
         ·show (if i<1+rs.length then dx ρ rs 1 i else ρ1.cap i)=_;rw[if_neg (by omega)]
        have hfzle:FzLe ρ.fz F:=by rw[<- hF];exact eI ρ w _
        have holds:sm ρ ρc rs 1:=⟨hfzle,fun i g1 g2=>cM i g1 g2⟩;have ext1:Ext {ρ1 with mu:=mu} ρc:=by
         have ge:∀ i,(ρ1 i).isSome=true->1+rs.length<=i:=fun i hi=>by
          rcases Nat.lt_or_ge i (1+rs.length) with h |h
          ·rw[hin.out i (.inl h)] at hi;cases hi
          ·exact h
         refine ⟨fun i p hi=>?_,fun i hi=>?_,fun b cs hc=>?_,rfl,?_⟩
         ·have hi:ρ1 i=some p:=hi;rw[(cH i (ge i (by rw[hi];rfl))).1];exact hi
         ·exact (cH i (ge i hi)).2
         ·have hc:ρ1.fz b=some cs:=hc;rw[hin.hfz] at hc;exact hc
         ·show F=ρ1.f0;rw[hin.hf0]
        have hargsC:dD ρc (.one (.sc (.ptr 0 (.lit 0))) :: .one (.sc (.bm g 0))::svs) (v0::vb::vr):=by
         refine ⟨⟨rfl,?_⟩,⟨rfl,?_⟩,ko ext1 (so mu hrel)⟩
         ·rw[hv0];simp only[Map.at,SO.v,hoff];rfl
         ·rw[hvb];simp only[Map.at,hoff];rfl
        have lookT:∀ i x,ad ((0,Ent.own T sM)::(hM++h)) i=some x->(i=0/\x = .own T sM) ∨ (1<=i/\i<1+rs.length/\ad hM i=some x) ∨ (1+rs.length<=i/\i<idE/\ad h i=some x):=fun i x hx=>by
         simp only[ad] at hx
         split at hx
         ·rename_i hi;exact .inl ⟨(by simpa using hi:0=i).symm,by simpa using hx.symm⟩
         ·rw[co] at hx
          cases hl:ad hM i with
          |some y=>
           rw[hl] at hx;obtain rfl:=by simpa using hx
           obtain ⟨g1,g2,_⟩:=hMe i y hl;exact .inr (.inl ⟨g1,g2,rfl⟩)
          |none=>
           rw[hl] at hx;obtain ⟨_,_,g1,g2⟩:=hin.ents i x hx;exact .inr (.inr ⟨g1,g2,hx⟩)
        have src:∀ i x,ad ((0,Ent.own T sM)::(hM++h)) i=some x->x.isOwn=true->(ρc i).isSome=true->∃ k∈id::bq rs,(ρ k).isSome=true /\ ρc.blk i=ρ.blk k/\((i=0/\k=id) ∨ (1<=i/\rs[i-1]? = some (some k))):=fun i x hx ho hi=>by
         rcases lookT i x hx with ⟨rfl,_⟩ |⟨g1,g2,hl⟩ |⟨g1,g2,hl⟩
         ·exact ⟨id,List.mem_cons_self ..,hid,rfl,.inl ⟨rfl,rfl⟩⟩
         ·obtain ⟨_,_,E,d,rfl,h1⟩:=hMe i x hl;rw[(cM i g1 g2).1] at hi
          rcases h1 with ⟨h1,_⟩ |⟨r,h1,h2⟩
          ·rw[h1] at hi;cases hi
          ·have hm:cu ρ rs 1 i=ρ r:=by unfold cu;rw[if_pos g1,h1]
           refine ⟨r,List.mem_cons_of_mem _ (fq.2 ⟨_,h1⟩),by rw[<- hm];exact hi,?_,.inr ⟨g1,h1⟩⟩;unfold Map.blk;rw[(cM i g1 g2).1,hm]
         ·have:=(hin.ents i x hl).2.1;rw[this] at ho;cases ho
        have hwh:WH ⟨w,F,mu,some (ρ.blk id,0)⟩ ρc ((0,.own T sM)::(hM++h)) w:=by
         refine ⟨BelowM.refl _ _ _,fun i x hx=>?_,fun i j x y hx hy hxo hyo hne hi hj=>?_,fun b cs hb=>?_,fun _ _ h=>h,rfl,rfl,fun b cs hb=>.inl hb,fun p hp=>hp,by rw[<- hF];exact hw.tabP _⟩
         ·rcases lookT i x hx with ⟨rfl,rfl⟩ |⟨g1,g2,hl⟩ |⟨g1,g2,hl⟩
          ·exact ⟨rfl,rfl,⟨.inr (muK id (List.mem_cons_self ..) hid),fzNone id (List.mem_cons_self ..) hid⟩,vs0,hMc ρc holds,hheap⟩
          ·obtain ⟨_,_,E,d,rfl,h1⟩:=hMe i x hl
           rcases h1 with ⟨h1,h2⟩ |⟨r,h1,h2⟩
           ·exact .inl ⟨by rw[(cM i g1 g2).1];exact h1,h2⟩
           ·have hm:cu ρ rs 1 i=ρ r:=by unfold cu;rw[if_pos g1,h1]
            have hcp:dx ρ rs 1 i=ρ.cap r:=by unfold dx;rw[h1]
            have hr:r∈id::bq rs:=List.mem_cons_of_mem _ (fq.2 ⟨_,h1⟩)
            rcases hw.ents r _ h2 with ⟨q1,q2⟩ |⟨q1,q2,q3,q4⟩
            ·exact .inl ⟨by rw[(cM i g1 g2).1,hm];exact q1,q2⟩
            ·have hbk:ρc.blk i=ρ.blk r:=by unfold Map.blk;rw[(cM i g1 g2).1,hm]
             refine .inr ⟨by rw[(cM i g1 g2).1,hm];exact q1,by unfold Map.off;rw[(cM i g1 g2).1,hm];exact q2,by rw[hbk];exact ⟨.inr (muK r hr q1),fzNone r hr q1⟩,?_⟩;rw[hbk,(cM i g1 g2).2,hcp];exact vV hfzle rfl q4
          ·obtain ⟨he,ho,_,_⟩:=hin.ents i x hl
           cases x with
           |own=>cases ho
           |row=>cases ho
           |orow=>cases ho
           |gone=>trivial
           |ro l=>
            obtain ⟨q1,us,q2,q3⟩:=he 0 w;refine ⟨by rw[(cH i g1).1];exact q1,us,dc ext1 (sn mu q2),fun o v hv=>?_⟩;have:=q3 o v hv;rw[hin.hfz] at this;unfold Map.blk Map.off at this ⊢;rw[(cH i g1).1];exact this
         ·obtain ⟨k,hk,hks,hkb,hki⟩:=src i x hx hxo hi;obtain ⟨l,hl,hls,hlb,hlj⟩:=src j y hy hyo hj;rw[hkb,hlb];obtain ⟨x',hx',hxo'⟩:=own_k k hk hks;obtain ⟨y',hy',hyo'⟩:=own_k l hl hls;refine hw.apart k l x' y' hx' hy' hxo' hyo' (fun e=>?_) hks hls;subst e
          rcases hki with ⟨rfl,rfl⟩ |⟨a1,a2⟩<;>rcases hlj with ⟨rfl,b1⟩ |⟨b1,b2⟩
          ·exact hne rfl
          ·exact hnid' (fq.2 ⟨_,b2⟩)
          ·subst b1;exact hnid' (fq.2 ⟨_,a2⟩)
          ·have:=sk hdist _ _ _ a2 b2;omega
         ·have hb:F b=some cs:=hb;rw[<- hF] at hb;exact qY hw.froz hb
        refine calls_of_wp hf hb ?_
        refine oF htt hm (hC _) (w0:=⟨w,F,mu,some (ρ.blk id,0)⟩) (rW (fun _=>rfl)) c _ _ hsx _ ?_ ρc _ w ⟨⟨hsz,rfl,?_⟩,hwh,fun i hi=>by rw[(cH i (by show 1+rs.length<=i;have:idE<=i:=hi;omega)).1];exact hin.out i (.inr hi)⟩
        ·intro ex xx s' ρ' a w' hex hk hs';have done:il tt fn.results.toList e T sg .ret s'->a.defers=[]/\∃ v,(results fn a.tmps).run P w' = .ok v w'/\∃ ρ'' u,Ending.returned v = .returned u/\UR ρ'' (e.val.sh fr) u/\Fr w0.heap.size ρ ρ'' w w' {val:=e.val.sh fr,nw:=shH fr e.nw,vc:=ps1++(ps2++e.vc),st:=(id,.own T (shS fr sg))::(aL (bq rs)++(if bJ (e.sh fr)&&du (shS fr sg) then [] else aL (aw hp (be hp rest))))}:=by
          intro hk;simp only[il] at hk
          split at hk
          ·rename_i v qs hres;rw[ey] at hk;obtain ⟨hq,hk⟩:=hk;generalize hfrz:dv s'.hp v e.val=fz3 at hk;obtain ⟨v',fs,ids⟩:=fz3;dsimp only at hk;rw[ey] at hk;obtain ⟨hfs,hk⟩:=hk
           split at hk
           rename_i la lb hla hlb
           split at hk
           rename_i hok;obtain ⟨hk1,hk2⟩:=all_append.1 (kj hk);obtain ⟨u,hu1,hu2⟩:=oS htt hs' hres hq;have hu2':=mz hs'.mem hfrz hfs (fun i hi ho=>cE.2 ⟨hi,ho⟩) hu2;have hfr0:=cF (B:=w.heap.size) hs'.mem.froz (aw s'.hp ids) .junk [];have hmem':WH ⟨w,F,mu,some (ρ.blk id,0)⟩ (ρ'.frz w' (aw s'.hp ids)) (aL (aw s'.hp ids)++s'.hp) w':=by
            have:=gZ hs'.mem hfr0 (fun i x hx=>lX i x hx) (fun _ _ h=>by simp [ad] at h);exact this
           have hanc:(ρ'.frz w' (aw s'.hp ids)) 0=some (ρ.blk id,0):=hmem'.anc _ rfl;have hs2:SH ⟨w,F,mu,none⟩ 0 {tm:=[],hp:=aL (aw s'.hp ids)++s'.hp,nx:=s'.nx} (ρ'.frz w' (aw s'.hp ids)) {a with tmps:=#[]} w':=⟨⟨rfl,hs'.slots.defers,fun t x hx=>by simp [ad] at hx⟩,yh hmem',hs'.fresh⟩;generalize hρ3:ρ'.frz w' (aw s'.hp ids)=ρ3 at hu2' hmem' hs2 hanc;have hle:=mq hla hk1;have hhe:=jg hlb hk2;generalize eQ (aL (aw s'.hp ids)++s'.hp) ((8,.own T sg)::e.nw) ((8,0)::mSV v' e.val)=δ at *;simp only[Bool.and_eq_true] at hok;obtain ⟨⟨⟨hinj,hnew⟩,hsv⟩,hsg,hd8⟩:=hok;have hd8:=Nat.eq_of_beq_eq_true hd8;have hnj:e.val ≠ .junk:=fun hj=>by rw[hj] at hsv;cases hsv
           have hu3:=ov hle hu2' hnj;have hw2:=(ki (δ:=δ) (t:={tm:=[],hp:=(8,.own T sg)::e.nw,nx:=9}) ⟨trivial,hhe,hinj⟩ (fun h=>by cases h) hs2).mem;have hB:w0.heap.size<=w.heap.size:=hw.below.size;have h8:(ρ3.ren δ 9) 8=some (ρ.blk id,0):=by
            simp only[Map.ren];rw[if_pos (by decide),hd8];exact hanc
           generalize hρr:ρ3.ren δ 9=ρr at hu3 hw2 h8;have hmu:ρr.mu=mu:=by rw[<- hρr,<- hρ3];exact hs'.mem.mu0
           have hf0:ρr.f0=F:=by rw[<- hρr,<- hρ3];exact hs'.mem.f00
           replace hu3:=sd (n:=fr) hu3
           replace hw2:=si fr rfl hw2
           replace hnew:=ky (n:=fr) hnew
           replace hsv:=sj (n:=fr) hsv
           replace hsg:=jp (n:=fr) hsg
           replace hmu:(ρr.sh fr).mu=mu:=hmu
           replace hf0:(ρr.sh fr).f0=F:=hf0
           replace h8:(ρr.sh fr) (fr+8)=some (ρ.blk id,0):=by rw[dU];exact h8
           clear hρr hinj hnj hle hhe;generalize ρr.sh fr=ρr at *;have hw2:WH ⟨w,F,mu,none⟩ ρr ((fr+8,.own T (shS fr sg))::shH fr e.nw) w':=hw2;generalize hNW:shH fr e.nw=nw at *;generalize hSG:shS fr sg=sg' at *;generalize hVL:e.val.sh fr=vl at *;generalize hPL:(bJ (e.sh fr)&&du sg')=pl at *;have plOK:pl=true->oL vl=true/\fV nw=true/\du sg'=true:=fun hpl=>by
            rw[<- hPL] at hpl;simp only[Bool.and_eq_true] at hpl;have h1:bJ (e.sh fr)=true:=hpl.1;unfold bJ at h1;simp only[Bool.and_eq_true] at h1;exact ⟨by rw[<- hVL];exact h1.1,by rw[<- hNW];exact h1.2,hpl.2⟩
           have look2:∀ i x,ad nw i=some x->ad ((fr+8,Ent.own T sg')::nw) i=some x:=fun i x hx=>by
            obtain ⟨_,_,h2,_⟩:=cJ hnew i x hx;simp only[ad];rw[if_neg (by simp;omega)];exact hx
           have lookS:ad ((fr+8,Ent.own T sg')::nw) (fr+8)=some (.own T sg'):=by simp [ad]
           obtain ⟨e1s,e2s,e3s,us,e4s,e5s⟩:=hw2.ents _ _ lookS;have hb8:ρr.blk (fr+8)=ρ.blk id:=by simp [Map.blk,h8]
           have ho8:ρr.off (fr+8)=0:=by simp [Map.off,h8]
           rw[hb8] at e3s e5s
           let ST:ah:=(id,.own T sg')::(aL (bq rs)++(if pl then [] else aL (aw hp (be hp rest))))
           have stRow:∀ k,k∈bq rs->ad ST k=some .gone:=fun k hk=>by
            simp only[ST,ad];rw[if_neg (by simp;rintro rfl;exact hnid' hk),co,g9 hk]
           have stKeep:pl=false->∀ k,k∈aw hp (be hp rest)->ad ST k=some .gone:=fun hpl k hk=>by
            have hne:id≠k:=fun h=>oY hdis (cE.1 hk).1 (h ▸ List.mem_cons_self ..)
            simp only[ST,ad];rw[if_neg (by simpa using hne),co]
            cases hq:ad (aL (bq rs)) k with
            |some y=>rw[(c7 hq).1]
            |none=>simp only[hpl];exact g9 hk
           let ρ2:Map:={m:=fun i=>if nin i (aB nw) then ρr i else ρ i,cap:=fun i=>if nin i (aB nw) then ρr.cap i else ρ.cap i,fz:=if pl then ρ.fz else ρr.fz,f0:=ρ.f0,mu:=ρ.mu}
           have ag:∀ i,nin i (aB nw)=true -> ρ2 i=ρr i /\ ρ2.cap i=ρr.cap i:=fun i hi=>⟨by simp only[ρ2];rw[if_pos hi],by simp only[ρ2];rw[if_pos hi]⟩
           have off:∀ i,nin i (aB nw)=false -> ρ2 i=ρ i:=fun i hi=>by simp only[ρ2];rw[if_neg (by rw[hi];simp)]
           have oldKey:∀ i,(ρ i).isSome=true->nin i (aB nw)=false:=fun i hi=>by
            cases hn:nin i (aB nw) with
            |false=>rfl
            |true=>
             obtain ⟨x,hx⟩:=Option.isSome_iff_exists.1 (ce.1 hn);rw[hfr i x hx] at hi;cases hi
           have fzle:FzLe ρ.fz ρr.fz:=fun b cs hb=>hw2.sub b cs (by rw[hf0];exact hfzle b cs hb)
           have ownNew:∀ i x,ad nw i=some x->(ρr i).isSome=true->(w.heap.size<=ρr.blk i ∨ j3 ρ ST (ρr.blk i)) /\ ρr.fz (ρr.blk i)=none /\ ρr.blk i≠ρ.blk id:=fun i x hx hi=>by
            obtain ⟨ho,_,hlt,_⟩:=cJ hnew i x hx;obtain ⟨hM,_⟩:=fh (hw2.ents i x (look2 i x hx)) ho hi;have hne:ρr.blk i≠ρ.blk id:=by
             rw[<- hb8];exact hw2.apart i (fr+8) x _ (look2 i x hx) lookS ho rfl (by omega) hi e1s
            refine ⟨?_,hM.2,hne⟩
            rcases hM.1 with h |h
            ·exact .inl h
            ·rw[hmu] at h;obtain ⟨k,hk,hks,hkb⟩:=fS.1 h
             rcases List.mem_cons.1 hk with rfl |hk
             ·exact absurd hkb.symm hne
             ·exact .inr ⟨k,stRow k hk,hks,hkb.symm⟩
           have blk2:∀ i,nin i (aB nw)=true -> ρ2.blk i=ρr.blk i:=fun i hi=>by simp [Map.blk,(ag i hi).1]
           have hzz:ρ2.fz=ρr.fz ∨ pl=true:=by
            cases hpl:pl with
            |true=>exact .inr rfl
            |false=>left;simp only[ρ2,hpl];rfl
           have hidB:ρ2 id=ρ id:=off id (oldKey id hid);have hbid:ρ2.blk id=ρ.blk id:=by simp [Map.blk,hidB]
           refine ⟨hs'.slots.defers,u,hu1,ρ2,u,rfl,oO ag (hzz.imp (fun h=>h) fun h=>(plOK h).1) hsv hu3,?_⟩;refine ⟨⟨fun i p hi=>?_,fun i hi=>?_,?_,rfl,rfl⟩,fun i hi=>?_,⟨hs'.mem.below.os,hs'.mem.below.tape,hs'.mem.below.output,hs'.mem.below.size,fun k hk=>absurd hk (Nat.not_lt_zero k)⟩,fun b hb' hno=>hs'.mem.below.block b hb' ?_,fun i x hx=>?_,fun i x hx=>?_,fun i j x y hx hy hne hii hjj=>?_,fun b cs hb=>?_⟩
           ·rw[off i (oldKey i (by rw[hi];rfl))];exact hi
           ·have:=oldKey i hi;simp only[ρ2];rw[if_neg (by rw[this];simp)]
           ·simp only[ρ2];split
            ·exact fun _ _ h=>h
            ·exact fzle
           ·have hi':ad nw i=none:=hi;refine off i ?_
            cases hn:nin i (aB nw) with
            |false=>rfl
            |true=>rw[ce,hi'] at hn;cases hn
           ·rw[hs'.mem.mu0];show mu b=false
            cases hmb:mu b with
            |false=>rfl
            |true=>
             exfalso;obtain ⟨k,hk,hks,hkb⟩:=fS.1 hmb
             rcases List.mem_cons.1 hk with rfl |hk
             ·exact hno k _ (by show ad ST k=_;simp only[ST,ad];rw[if_pos (by simp)]) hks hkb
             ·exact hno k _ (stRow k hk) hks hkb
           ·have hx':ad ST i=some x:=hx;simp only[ST,ad] at hx'
            split at hx'
            ·rename_i hi;obtain rfl:id=i:=by simpa using hi
             obtain rfl:=by simpa using hx'
             refine ⟨by rw[hidB];exact hid,by simp [Map.off,hidB];exact hoff,?_,us,mx ag (hzz.imp (fun h=>h) fun h=>(plOK h).2.2) hsg e4s,by rw[hbid];exact e5s⟩;rw[hbid];refine ⟨hMine.1,?_⟩;simp only[ρ2];split
             ·exact hMine.2
             ·exact e3s.2
            ·rw[co] at hx'
             cases hq:ad (aL (bq rs)) i with
             |some y=>
              rw[hq] at hx';obtain rfl:=by simpa using hx'
              rw[(c7 hq).1];trivial
             |none=>
              rw[hq] at hx';dsimp only at hx'
              split at hx'
              ·simp [ad] at hx'
              ·rw[(c7 hx').1];trivial
           ·have hx':ad nw i=some x:=hx;obtain ⟨ho,_,_,hni⟩:=cJ hnew i x hx';have hki:nin i (aB nw)=true:=ce.2 (by rw[hx'];rfl);refine ⟨oP ag hki (hzz.imp (fun h=>h) fun h=>my (plOK h).2.1 i x hx') hni (fun hi=>?_) (hw2.ents i x (look2 i x hx')),fun hi=>?_,ho⟩
            ·obtain ⟨g1,g2,_⟩:=ownNew i x hx' hi;refine ⟨?_,?_⟩
             ·rcases g1 with g1 |⟨k,hk,hks,hkb⟩
              ·exact .inl (by omega)
              ·have hk2:k∈id::bq rs ∨ k∈aw hp (be hp rest):=by
                have hk:ad ST k=some .gone:=hk;simp only[ST,ad] at hk
                split at hk
                ·cases hk
                ·rw[co] at hk
                 cases hq:ad (aL (bq rs)) k with
                 |some y=>exact .inl (List.mem_cons_of_mem _ (c7 hq).2)
                 |none=>
                  rw[hq] at hk;dsimp only at hk
                  split at hk
                  ·simp [ad] at hk
                  ·exact .inr (c7 hk).2
               have:∃ x,ad hp k=some x/\x.isOwn=true:=by
                rcases hk2 with h |h
                ·exact own_k k h hks
                ·have:=(cE.1 h).2;unfold bE at this
                 split at this
                 ·rename_i y hy;exact ⟨y,hy,this⟩
                 ·cases this
               obtain ⟨y,hy,hyo⟩:=this;rw[hkb];exact (fh (hw.ents k y hy) hyo hks).1.1
             ·simp only[ρ2];split
              ·cases hc:ρ.fz (ρr.blk i) with
               |none=>rfl
               |some cs=>have:=fzle _ _ hc;rw[g2] at this;cases this
              ·exact g2
            ·rw[blk2 i hki];exact (ownNew i x hx' (by rw[<- (ag i hki).1];exact hi)).1
           ·have hx':ad nw i=some x:=hx;have hy':ad nw j=some y:=hy;have hki:nin i (aB nw)=true:=ce.2 (by rw[hx'];rfl);have hkj:nin j (aB nw)=true:=ce.2 (by rw[hy'];rfl);rw[blk2 i hki,blk2 j hkj];exact hw2.apart i j x y (look2 i x hx') (look2 j y hy') (cJ hnew i x hx').1 (cJ hnew j y hy').1 hne (by rw[<- (ag i hki).1];exact hii) (by rw[<- (ag j hkj).1];exact hjj)
           ·by_cases hpl':pl=true
            ·left
             have:ρ2.fz b=some cs:=hb;simp only[ρ2,hpl',if_pos] at this;exact this
            ·have hpl:pl=false:=by simpa using hpl'
             have hb2:ρr.fz b=some cs:=by
              have:ρ2.fz b=some cs:=hb;simp only[ρ2,hpl] at this;exact this
             have hnw:∀ i x,ad nw i=some x->(ρ2 i).isSome=true -> ρ2.blk i≠b:=fun i x hx hi hbb=>by
              have hki:nin i (aB nw)=true:=ce.2 (by rw[hx];rfl);obtain ⟨_,g2,_⟩:=ownNew i x hx (by rw[<- (ag i hki).1];exact hi);rw[<- blk2 i hki,hbb,hb2] at g2;cases g2
             rcases hw2.old b cs hb2 with h1 |h1 |h1
             ·rw[hf0,<- hF] at h1
              rcases g8 h1 with h2 |⟨⟨i,hi,hsi,hbi⟩,_⟩
              ·exact .inl h2
              ·refine .inr ⟨.inr ⟨i,stKeep hpl i hi,hsi,hbi.symm⟩,hw2.froz b cs hb2,hnw⟩
             ·exact .inr ⟨.inl h1,hw2.froz b cs hb2,hnw⟩
             ·rw[hmu] at h1;obtain ⟨k,hk,hks,hkb⟩:=fS.1 h1
              rcases List.mem_cons.1 hk with rfl |hk
              ·have:=e3s.2;rw[hkb,hb2] at this;cases this
              ·exact .inr ⟨.inr ⟨k,stRow k hk,hks,hkb.symm⟩,hw2.froz b cs hb2,hnw⟩
           ·exact hk.elim
           ·exact hk.elim
          ·exact hk.elim
         cases ex with
         |normal=>simp only[cd,Option.some.injEq] at hex;subst hex;exact done hk
         |ret=>simp only[cd,Option.some.injEq] at hex;subst hex;exact done hk
         |exit i=>simp only[cd,Option.some.injEq] at hex;subst hex;exact hk.elim
         |goto l=>cases hex
         |panic ch=>cases hex
         |outgrown=>cases hex
        ·intro t x hx;obtain ⟨_,h2⟩:=mA _ 0 t x hx;obtain ⟨v,hv,hr⟩:=mB hargsC (by simpa using h2);have hlt:=br hv;have:((v0::vb::vr).toArray++Array.replicate (fn.ntmps-(v0::vb::vr).toArray.size) undef).getD t undef=v:=by
          simp only[Array.getD_eq_getD_getElem?];rw[Array.getElem?_append_left (by simpa using hlt),List.getElem?_toArray,hv];rfl
         rw[this];exact lZ hr
      ·cases h0
     ·cases h0
    ·cases h0
   ·cases h0
  ·cases h0
 ·cases h0
def ObB (tt:TT) (nt:Nat) (A:Ann) (c:Code) (rs:List ResultVar) (T:TypeId) (ms:List AM) (g:FuncId) (aps:List AP) (ds:List Dat):Option (Eff × List Seg)->Prop
 |some (e,sg)=>(match unM ms ds 1 with
  |some (sM,hM,rest,id1)=>(match unP aps rest id1 with
   |some (svs,h,id)=>je e.vc (sx tt nt A (LFb true) c (il tt rs e T sg) {tm:=fo (.one (.sc (.ptr 0 (.lit 0))) :: .one (.sc (.bm g 0))::svs) 0,hp:=(0,.own T sM)::(hM++h),nx:=id})
   |none=>True)
  |none=>True)
 |none=>True
theorem yi {P:Program} {tt:TT} (htt:aP P tt) (hm:P.follows .mixedOrders=true) {f:FuncId} {fn:Func} {c:Code} (hf:P.funcs[f]? = some fn) (hb:fn.body=some c) (hen:∀ (args:Array Value) (w:World),(callFunc f args).run P w = .ok (.enter f args) w)
 {A:List Dat->Ann} (hC:∀ ds id,cZ P ((A ds).C id)) {T:TypeId} {ms:List AM} {g:FuncId} {aps:List AP} {spec:List Dat->Option (Eff × List Seg)} (hn:Nat.ble (aps.length+2) fn.ntmps=true)
 (H:∀ ds,ObB tt fn.ntmps (A ds) c fn.results.toList T ms g aps ds (spec ds)):ConOK P f (mG T ms g aps spec):=
 G1 htt hm hf hb hen hC hn fun ds e sg sM hM rest id1 svs h id he hvc h1 h2=>by
  have:=H ds;unfold ObB at this;rw[he] at this;dsimp only at this;rw[h1] at this;dsimp only at this;rw[h2] at this;exact mo.1 this hvc
end Go.Proofs.YtbhbjhejkamlnaaGreat.Sx
namespace Go.Proofs.YtbhbjhejkamlnaaGreat.Sx.Z
open Go.RowKit
def aa (ws:D) (nx:Int):Prop:=0<=nx/\nx<=ws.len/\ws.len<=1000000
def pkK (ws:D) (nx:Int):Int:=if nx<ws.len then (ws.el nx.toNat 0).toI else 0
def pkS (ws:D) (nx:Int):ByteArray:=if nx<ws.len then (ws.el nx.toNat 1).toS else ByteArray.empty
def pkN (ws:D) (nx:Int):Int:=if nx<ws.len then (ws.el nx.toNat 2).toI else 0
def pkA (ws:D) (nx en:Int):Int:=if nx<ws.len then (ws.el nx.toNat 3).toI else en
def acB (ws:D) (nx:Int) (t:ByteArray):Bool:=(pkS ws nx).toList==t.toList
structure Rd where
 nx:Int
 pa:Int
 er:Int
def mR (nx pa er:Int):Rd:=⟨nx,pa,er⟩
def fl (ws:D) (en e:Int) (r:Rd):Rd:=if r.er=0 then ⟨ws.len,pkA ws r.nx en,e⟩ else ⟨ws.len,r.pa,r.er⟩
def gx (r:Rd):Rd:=⟨r.nx+1,r.pa,r.er⟩
def acR (ws:D) (t:ByteArray) (r:Rd):Rd:=if acB ws r.nx t=true then gx r else r
def exR (ws:D) (en:Int) (t:ByteArray) (r:Rd):Rd:=if acB ws r.nx t=true then gx r else fl ws en 5 r
def neR (ws:D) (en:Int) (t:ByteArray) (dp:Int) (r:Rd):Rd:=if acB ws r.nx t=true/\24<=dp then fl ws en 6 r else exR ws en t r
def nmR (ws:D) (en:Int) (r:Rd):Rd:=if pkK ws r.nx=1 then gx r else fl ws en 5 r
def nmS (ws:D) (r:Rd):ByteArray:=if pkK ws r.nx=1 then pkS ws r.nx else ByteArray.empty
def nuR (ws:D) (en:Int) (r:Rd):Rd:=if pkK ws r.nx=2 then gx r else fl ws en 5 r
def nuN (ws:D) (r:Rd):Int:=if pkK ws r.nx=2 then pkN ws r.nx else 0
def fiR (ws:D) (en:Int) (r:Rd):Rd:=if r.nx<ws.len then fl ws en 5 r else r
theorem dI {ws:D} {t:ByteArray} {r:Rd} (h:acB ws r.nx t=false):acR ws t r=r:=if_neg (by rw[h];decide)
theorem ju {ws:D} {t:ByteArray} {r:Rd} (h:acB ws r.nx t=true):acR ws t r=gx r:=if_pos h
theorem im {ws:D} {en:Int} {t:ByteArray} {r:Rd} (h:acB ws r.nx t=false):exR ws en t r=fl ws en 5 r:=if_neg (by rw[h];decide)
theorem fZ {ws:D} {en:Int} {t:ByteArray} {r:Rd} (h:acB ws r.nx t=true):exR ws en t r=gx r:=if_pos h
theorem kB {ws:D} {nx:Int} (h:pkK ws nx≠0):nx<ws.len:=by
 apply Decidable.byContradiction
 intro hn;unfold pkK at h;rw[if_neg hn] at h;exact h rfl
theorem nx1 {ws:D} {nx:Int} (h:aa ws nx) (h2:nx<ws.len):IntKind.i64.wrap (nx+1)=nx+1:=by
 obtain ⟨a,b,c⟩:=h;rw[IntWalk.i64_in _ (by omega)]
theorem cK {ws:D} {nx:Int} {t:ByteArray} (ht:0<t.size) (h:acB ws nx t=true):nx<ws.len:=by
 apply Decidable.byContradiction
 intro hn;unfold acB pkS at h;rw[if_neg hn] at h;have:t.toList=[]:=(eq_of_beq h).symm.trans (by rw[ByteArray.toList_eq];rfl);have h2:t.data.toList=[]:=by rw[ByteArray.toList_eq] at this;exact this
 have h3:t.data.toList.length=t.size:=Array.length_toList;rw[h2] at h3;have:(0:Nat)=t.size:=h3;omega
noncomputable def yj:List Dat->Option (Eff × List Seg):=fun ds=>match ds with
 | [.d ws,.i nx,.i en,.i pa,.i er]=>some ({val:=.one (.agg [.c (.int .i64 (.sym (pkK ws nx))),.c (.raw (.string (pkS ws nx))),.c (.int .i64 (.sym (pkN ws nx))),.c (.int .i64 (.sym (pkA ws nx en)))]),vc:=[aa ws nx]},[.c (.rows 124 ws),.c (.int .i64 (.sym (nx))),.c (.int .i64 (.sym en)),.c (.int .i64 (.sym (pa))),.c (.int .i64 (.sym (er)))])
 |_=>none
noncomputable def eD:Con:=ba 85 [.c (.rows 124),.c (.int .i64),.c (.int .i64),.c (.int .i64),.c (.int .i64)] [] yj
theorem eT:ConOK Tryz.prog 76 eD:=by
 refine bk tt_ok au Tryz.func76 rfl (fun _ _=>by kernel_rfl) (A:=fun ds=>⟨fun _=>Cons.of [],fun _=>none,fun _=>none⟩) (fun _ _=>aq) (by kernel_rfl) ?_
 intro ds;unfold yj;split
 ·rename_i ws nx en pa er;refine kmp (q:=aa ws nx->(decide (nx<(ws.len:Int))=true->((0:Int)<=nx/\nx<(ws.len:Int))/\(ws.el nx.toNat 0).toI=pkK ws nx/\Value.string (ws.el nx.toNat 1).toS=Value.string (pkS ws nx)/\(ws.el nx.toNat 2).toI=pkN ws nx/\(ws.el nx.toNat 3).toI=pkA ws nx en/\ws.rows=ws.rows/\nx=nx/\en=en/\pa=pa/\er=er)/\(decide (nx<(ws.len:Int))=false->(0:Int)=pkK ws nx/\Value.string ByteArray.empty=Value.string (pkS ws nx)/\(0:Int)=pkN ws nx/\en=pkA ws nx en/\ws.rows=ws.rows/\nx=nx/\en=en/\pa=pa/\er=er)) (by kernel_rfl) ?_
  rintro ⟨h0,h1,h2⟩;unfold pkK pkS pkN pkA;refine ⟨fun h=>?_,fun h=>?_⟩
  ·have h:=of_decide_eq_true h;simp only[if_pos h]
   (repeat' (with_reducible apply And.intro))<;>first |with_reducible rfl |exact True.intro |assumption |(symm;assumption) |rfl
  ·have h:=of_decide_eq_false h;simp only[if_neg h]
   (repeat' (with_reducible apply And.intro))<;>first |with_reducible rfl |exact True.intro |assumption |(symm;assumption) |rfl
 ·trivial
noncomputable def yk:List Dat->Option (Eff × List Seg):=fun ds=>match ds with
 | [.d ws,.i nx,.i en,.i pa,.i er,.i e]=>some ({val:=.tup [],vc:=[aa ws nx]},[.c (.rows 124 ws),.c (.int .i64 (.sym ((fl ws en e (mR nx pa er)).nx))),.c (.int .i64 (.sym en)),.c (.int .i64 (.sym ((fl ws en e (mR nx pa er)).pa))),.c (.int .i64 (.sym ((fl ws en e (mR nx pa er)).er)))])
 |_=>none
noncomputable def jv:Con:=ba 85 [.c (.rows 124),.c (.int .i64),.c (.int .i64),.c (.int .i64),.c (.int .i64)] [.sc (.int .i64)] yk
theorem kD:ConOK Tryz.prog 82 jv:=by
 refine bk tt_ok au Tryz.func82 rfl (fun _ _=>by kernel_rfl) (A:=fun ds=>⟨fun _=>Cons.of [(76,eD)],fun _=>none,fun _=>none⟩) (fun _ _=>(af eT aq)) (by kernel_rfl) ?_
 intro ds;unfold yk;split
 ·rename_i ws nx en pa er e;refine kmp (q:=ac (fl ws en e (mR nx pa er)) fun Ea=>aa ws nx->((er==(0:Int))=true->aa ws nx/\ws.rows=ws.rows/\(ws.len:Int)=Ea.nx/\en=en/\pkA ws nx en=Ea.pa/\e=Ea.er)/\((er==(0:Int))=false->ws.rows=ws.rows/\(ws.len:Int)=Ea.nx/\en=en/\pa=Ea.pa/\er=Ea.er)) (by kernel_rfl) ?_
  dsimp +instances only [ac]
  intro h;unfold fl mR;refine ⟨fun h0=>?_,fun h0=>?_⟩
  ·rw[if_pos (eq_of_beq h0)]
   (repeat' (with_reducible apply And.intro))<;>first |with_reducible rfl |exact True.intro |assumption |(symm;assumption) |rfl
  ·rw[if_neg (ne_of_beq_false h0)]
   (repeat' (with_reducible apply And.intro))<;>first |with_reducible rfl |exact True.intro |assumption |(symm;assumption) |rfl
 ·trivial
noncomputable def yl:List Dat->Option (Eff × List Seg):=fun ds=>match ds with
 | [.d ws,.i nx,.i en,.i pa,.i er,.s t]=>some ({val:=.one (.sc (.bool (.sym (acB ws nx t)))),vc:=[aa ws nx,0<t.size]},[.c (.rows 124 ws),.c (.int .i64 (.sym ((acR ws t (mR nx pa er)).nx))),.c (.int .i64 (.sym en)),.c (.int .i64 (.sym ((acR ws t (mR nx pa er)).pa))),.c (.int .i64 (.sym ((acR ws t (mR nx pa er)).er)))])
 |_=>none
noncomputable def jx:Con:=ba 85 [.c (.rows 124),.c (.int .i64),.c (.int .i64),.c (.int .i64),.c (.int .i64)] [.sc .str] yl
theorem kE:ConOK Tryz.prog 45 jx:=by
 refine bk tt_ok au Tryz.func45 rfl (fun _ _=>by kernel_rfl) (A:=fun ds=>⟨fun _=>Cons.of [(76,eD)],fun _=>none,fun _=>none⟩) (fun _ _=>(af eT aq)) (by kernel_rfl) ?_
 intro ds;unfold yl;split
 ·rename_i ws nx en pa er t;refine kmp (q:=aa ws nx->0<t.size->aa ws nx/\((!(pkS ws nx).toList==t.toList)=true->false=acB ws nx t/\ws.rows=ws.rows/\nx=(acR ws t (mR nx pa er)).nx/\en=en/\pa=(acR ws t (mR nx pa er)).pa/\er=(acR ws t (mR nx pa er)).er)/\((!(pkS ws nx).toList==t.toList)=false->true=acB ws nx t/\ws.rows=ws.rows/\IntKind.i64.wrap (nx+1)=(acR ws t (mR nx pa er)).nx/\en=en/\pa=(acR ws t (mR nx pa er)).pa/\er=(acR ws t (mR nx pa er)).er)) (by kernel_rfl) ?_
  intro h ht;refine ⟨h,fun hc=>?_,fun hc=>?_⟩
  ·have hc:acB ws nx t=false:=by simpa [acB] using hc
   unfold acR;rw[show acB ws (mR nx pa er).nx t=false from hc]
   (repeat' (with_reducible apply And.intro))<;>first |with_reducible rfl |exact True.intro |assumption |(symm;assumption) |rfl
  ·have hc:acB ws nx t=true:=by simpa [acB] using hc
   unfold acR;rw[nx1 h (cK ht hc),if_pos (show acB ws (mR nx pa er).nx t=true from hc)]
   (repeat' (with_reducible apply And.intro))<;>first |with_reducible rfl |exact True.intro |assumption |(symm;assumption) |rfl
 ·trivial
noncomputable def ym:List Dat->Option (Eff × List Seg):=fun ds=>match ds with
 | [.d ws,.i nx,.i en,.i pa,.i er,.s t]=>some ({val:=.tup [],vc:=[aa ws nx,0<t.size]},[.c (.rows 124 ws),.c (.int .i64 (.sym ((exR ws en t (mR nx pa er)).nx))),.c (.int .i64 (.sym en)),.c (.int .i64 (.sym ((exR ws en t (mR nx pa er)).pa))),.c (.int .i64 (.sym ((exR ws en t (mR nx pa er)).er)))])
 |_=>none
noncomputable def dy:Con:=ba 85 [.c (.rows 124),.c (.int .i64),.c (.int .i64),.c (.int .i64),.c (.int .i64)] [.sc .str] ym
theorem dJ:ConOK Tryz.prog 80 dy:=by
 refine bk tt_ok au Tryz.func80 rfl (fun _ _=>by kernel_rfl) (A:=fun ds=>⟨fun _=>Cons.of [(45,jx),(82,jv)],fun _=>none,fun _=>none⟩) (fun _ _=>(af kE (af kD aq))) (by kernel_rfl) ?_
 intro ds;unfold ym;split
 ·rename_i ws nx en pa er t;refine kmp (q:=ac (acR ws t (mR nx pa er)) fun Ea=>ac (exR ws en t (mR nx pa er)) fun Eb=>ac (fl ws en (5:Int) (mR Ea.nx Ea.pa Ea.er)) fun Ec=>aa ws nx->0<t.size->aa ws nx/\0<t.size/\((!acB ws nx t)=true->aa ws Ea.nx/\ws.rows=ws.rows/\Ec.nx=Eb.nx/\en=en/\Ec.pa=Eb.pa/\Ec.er=Eb.er)/\((!acB ws nx t)=false->ws.rows=ws.rows/\Ea.nx=Eb.nx/\en=en/\Ea.pa=Eb.pa/\Ea.er=Eb.er)) (by kernel_rfl) ?_
  dsimp +instances only [ac]
  intro h ht;refine ⟨h,ht,fun hc=>?_,fun hc=>?_⟩
  ·have hc:acB ws nx t=false:=by simpa using hc
   rw[dI (r:=mR nx pa er) hc,im (r:=mR nx pa er) hc]
   (repeat' (with_reducible apply And.intro))<;>first |with_reducible rfl |exact True.intro |assumption |(symm;assumption) |rfl
  ·have hc:acB ws nx t=true:=by simpa using hc
   rw[ju (r:=mR nx pa er) hc,fZ (r:=mR nx pa er) hc]
   (repeat' (with_reducible apply And.intro))<;>first |with_reducible rfl |exact True.intro |assumption |(symm;assumption) |rfl
 ·trivial
noncomputable def yn:List Dat->Option (Eff × List Seg):=fun ds=>match ds with
 | [.d ws,.i nx,.i en,.i pa,.i er,.s t,.i dp]=>some ({val:=.tup [],vc:=[aa ws nx,0<t.size]},[.c (.rows 124 ws),.c (.int .i64 (.sym ((neR ws en t dp (mR nx pa er)).nx))),.c (.int .i64 (.sym en)),.c (.int .i64 (.sym ((neR ws en t dp (mR nx pa er)).pa))),.c (.int .i64 (.sym ((neR ws en t dp (mR nx pa er)).er)))])
 |_=>none
noncomputable def sp:Con:=ba 85 [.c (.rows 124),.c (.int .i64),.c (.int .i64),.c (.int .i64),.c (.int .i64)] [.sc .str,.sc (.int .i64)] yn
theorem yo:ConOK Tryz.prog 107 sp:=by
 refine bk tt_ok au Tryz.func107 rfl (fun _ _=>by kernel_rfl) (A:=fun ds=>⟨fun _=>Cons.of [(76,eD),(80,dy),(82,jv)],fun _=>none,fun _=>none⟩) (fun _ _=>(af eT (af dJ (af kD aq)))) (by kernel_rfl) ?_
 intro ds;unfold yn;split
 ·rename_i ws nx en pa er t dp;refine kmp (q:=ac (neR ws en t dp (mR nx pa er)) fun Ea=>ac (fl ws en (6:Int) (mR nx pa er)) fun Eb=>ac ((pkS ws nx).toList==t.toList&&decide (dp>=(24:Int))) fun Ec=>aa ws nx->0<t.size->aa ws nx/\(Ec=true->aa ws nx/\ws.rows=ws.rows/\Eb.nx=Ea.nx/\en=en/\Eb.pa=Ea.pa/\Eb.er=Ea.er)/\(Ec=false->aa ws nx/\0<t.size/\ws.rows=ws.rows/\(exR ws en t (mR nx pa er)).nx=Ea.nx/\en=en/\(exR ws en t (mR nx pa er)).pa=Ea.pa/\(exR ws en t (mR nx pa er)).er=Ea.er)) (by kernel_rfl) ?_
  dsimp +instances only [ac]
  intro h ht;refine ⟨h,fun hc=>?_,fun hc=>?_⟩
  ·have hc:acB ws nx t=true/\24<=dp:=by
    have:(acB ws nx t&&decide (dp>=24))=true:=hc
    simpa using this
   have e:neR ws en t dp (mR nx pa er)=fl ws en 6 (mR nx pa er):=if_pos hc;rw[e]
   (repeat' (with_reducible apply And.intro))<;>first |with_reducible rfl |exact True.intro |assumption |(symm;assumption) |rfl
  ·have hc:¬ (acB ws nx t=true/\24<=dp):=by
    have:(acB ws nx t&&decide (dp>=24))=false:=hc;intro hx;rw[hx.1,decide_eq_true (show dp>=24 from hx.2)] at this
    cases this
   have e:neR ws en t dp (mR nx pa er)=exR ws en t (mR nx pa er):=if_neg hc;rw[e]
   (repeat' (with_reducible apply And.intro))<;>first |with_reducible rfl |exact True.intro |assumption |(symm;assumption) |rfl
 ·trivial
noncomputable def yp:List Dat->Option (Eff × List Seg):=fun ds=>match ds with
 | [.d ws,.i nx,.i en,.i pa,.i er]=>some ({val:=.one (.sc (.raw (.string (nmS ws (mR nx pa er))))),vc:=[aa ws nx]},[.c (.rows 124 ws),.c (.int .i64 (.sym ((nmR ws en (mR nx pa er)).nx))),.c (.int .i64 (.sym en)),.c (.int .i64 (.sym ((nmR ws en (mR nx pa er)).pa))),.c (.int .i64 (.sym ((nmR ws en (mR nx pa er)).er)))])
 |_=>none
noncomputable def f9:Con:=ba 85 [.c (.rows 124),.c (.int .i64),.c (.int .i64),.c (.int .i64),.c (.int .i64)] [] yp
theorem gD:ConOK Tryz.prog 77 f9:=by
 refine bk tt_ok au Tryz.func77 rfl (fun _ _=>by kernel_rfl) (A:=fun ds=>⟨fun _=>Cons.of [(76,eD),(82,jv)],fun _=>none,fun _=>none⟩) (fun _ _=>(af eT (af kD aq))) (by kernel_rfl) ?_
 intro ds;unfold yp;split
 ·rename_i ws nx en pa er;refine kmp (q:=ac (nmR ws en (mR nx pa er)) fun Ea=>ac (fl ws en (5:Int) (mR nx pa er)) fun Eb=>aa ws nx->aa ws nx/\((pkK ws nx != (1:Int))=true->aa ws nx/\Value.string (ByteArray.mk #[])=Value.string (nmS ws (mR nx pa er))/\ws.rows=ws.rows/\Eb.nx=Ea.nx/\en=en/\Eb.pa=Ea.pa/\Eb.er=Ea.er)/\((pkK ws nx != (1:Int))=false->Value.string (pkS ws nx)=Value.string (nmS ws (mR nx pa er))/\ws.rows=ws.rows/\IntKind.i64.wrap (nx+1)=Ea.nx/\en=en/\pa=Ea.pa/\er=Ea.er)) (by kernel_rfl) ?_
  dsimp +instances only [ac]
  intro h;refine ⟨h,fun hc=>?_,fun hc=>?_⟩
  ·have hc:pkK ws nx≠1:=by simpa using hc
   have e:nmR ws en (mR nx pa er)=fl ws en 5 (mR nx pa er):=if_neg hc;have e2:nmS ws (mR nx pa er)=ByteArray.empty:=if_neg hc;rw[e,e2]
   (repeat' (with_reducible apply And.intro))<;>first |with_reducible rfl |exact True.intro |assumption |(symm;assumption) |rfl
  ·have hc:pkK ws nx=1:=by simpa using hc
   have e:nmR ws en (mR nx pa er)=gx (mR nx pa er):=if_pos hc;have e2:nmS ws (mR nx pa er)=pkS ws nx:=if_pos hc;rw[e,e2,nx1 h (kB (by rw[hc];decide))]
   (repeat' (with_reducible apply And.intro))<;>first |with_reducible rfl |exact True.intro |assumption |(symm;assumption) |rfl
 ·trivial
noncomputable def yq:List Dat->Option (Eff × List Seg):=fun ds=>match ds with
 | [.d ws,.i nx,.i en,.i pa,.i er]=>some ({val:=.one (.sc (.int .i64 (.sym (nuN ws (mR nx pa er))))),vc:=[aa ws nx]},[.c (.rows 124 ws),.c (.int .i64 (.sym ((nuR ws en (mR nx pa er)).nx))),.c (.int .i64 (.sym en)),.c (.int .i64 (.sym ((nuR ws en (mR nx pa er)).pa))),.c (.int .i64 (.sym ((nuR ws en (mR nx pa er)).er)))])
 |_=>none
noncomputable def o6:Con:=ba 85 [.c (.rows 124),.c (.int .i64),.c (.int .i64),.c (.int .i64),.c (.int .i64)] [] yq
theorem sr:ConOK Tryz.prog 79 o6:=by
 refine bk tt_ok au Tryz.func79 rfl (fun _ _=>by kernel_rfl) (A:=fun ds=>⟨fun _=>Cons.of [(76,eD),(82,jv)],fun _=>none,fun _=>none⟩) (fun _ _=>(af eT (af kD aq))) (by kernel_rfl) ?_
 intro ds;unfold yq;split
 ·rename_i ws nx en pa er;refine kmp (q:=ac (nuR ws en (mR nx pa er)) fun Ea=>ac (fl ws en (5:Int) (mR nx pa er)) fun Eb=>aa ws nx->aa ws nx/\((pkK ws nx != (2:Int))=true->aa ws nx/\(0:Int)=nuN ws (mR nx pa er)/\ws.rows=ws.rows/\Eb.nx=Ea.nx/\en=en/\Eb.pa=Ea.pa/\Eb.er=Ea.er)/\((pkK ws nx != (2:Int))=false->pkN ws nx=nuN ws (mR nx pa er)/\ws.rows=ws.rows/\IntKind.i64.wrap (nx+1)=Ea.nx/\en=en/\pa=Ea.pa/\er=Ea.er)) (by kernel_rfl) ?_
  dsimp +instances only [ac]
  intro h;refine ⟨h,fun hc=>?_,fun hc=>?_⟩
  ·have hc:pkK ws nx≠2:=by simpa using hc
   have e:nuR ws en (mR nx pa er)=fl ws en 5 (mR nx pa er):=if_neg hc;have e2:nuN ws (mR nx pa er)=0:=if_neg hc;rw[e,e2]
   (repeat' (with_reducible apply And.intro))<;>first |with_reducible rfl |exact True.intro |assumption |(symm;assumption) |rfl
  ·have hc:pkK ws nx=2:=by simpa using hc
   have e:nuR ws en (mR nx pa er)=gx (mR nx pa er):=if_pos hc;have e2:nuN ws (mR nx pa er)=pkN ws nx:=if_pos hc;rw[e,e2,nx1 h (kB (by rw[hc];decide))]
   (repeat' (with_reducible apply And.intro))<;>first |with_reducible rfl |exact True.intro |assumption |(symm;assumption) |rfl
 ·trivial
noncomputable def yr:List Dat->Option (Eff × List Seg):=fun ds=>match ds with
 | [.d ws,.i nx,.i en,.i pa,.i er]=>some ({val:=.tup [],vc:=[aa ws nx]},[.c (.rows 124 ws),.c (.int .i64 (.sym ((fiR ws en (mR nx pa er)).nx))),.c (.int .i64 (.sym en)),.c (.int .i64 (.sym ((fiR ws en (mR nx pa er)).pa))),.c (.int .i64 (.sym ((fiR ws en (mR nx pa er)).er)))])
 |_=>none
noncomputable def yu:Con:=ba 85 [.c (.rows 124),.c (.int .i64),.c (.int .i64),.c (.int .i64),.c (.int .i64)] [] yr
theorem G2:ConOK Tryz.prog 49 yu:=by
 refine bk tt_ok au Tryz.func49 rfl (fun _ _=>by kernel_rfl) (A:=fun ds=>⟨fun _=>Cons.of [(82,jv)],fun _=>none,fun _=>none⟩) (fun _ _=>(af kD aq)) (by kernel_rfl) ?_
 intro ds;unfold yr;split
 ·rename_i ws nx en pa er;refine kmp (q:=ac (fiR ws en (mR nx pa er)) fun Ea=>ac (fl ws en (5:Int) (mR nx pa er)) fun Eb=>aa ws nx->(decide (nx<(ws.len:Int))=true->aa ws nx/\ws.rows=ws.rows/\Eb.nx=Ea.nx/\en=en/\Eb.pa=Ea.pa/\Eb.er=Ea.er)/\(decide (nx<(ws.len:Int))=false->ws.rows=ws.rows/\nx=Ea.nx/\en=en/\pa=Ea.pa/\er=Ea.er)) (by kernel_rfl) ?_
  dsimp +instances only [ac]
  intro h;refine ⟨fun hc=>?_,fun hc=>?_⟩
  ·have e:fiR ws en (mR nx pa er)=fl ws en 5 (mR nx pa er):=if_pos (of_decide_eq_true hc);rw[e]
   (repeat' (with_reducible apply And.intro))<;>first |with_reducible rfl |exact True.intro |assumption |(symm;assumption) |rfl
  ·have e:fiR ws en (mR nx pa er)=mR nx pa er:=if_neg (of_decide_eq_false hc);rw[e]
   (repeat' (with_reducible apply And.intro))<;>first |with_reducible rfl |exact True.intro |assumption |(symm;assumption) |rfl
 ·trivial
def skK (s:ByteArray):Int:=if (s.toList==(⟨#[43]⟩:ByteArray).toList)=true then 4 else if (s.toList==(⟨#[45]⟩:ByteArray).toList)=true then 5 else 0
def pdK (s:ByteArray):Int:=if (s.toList==(⟨#[42]⟩:ByteArray).toList)=true then 6 else if (s.toList==(⟨#[47]⟩:ByteArray).toList)=true then 7 else if (s.toList==(⟨#[37]⟩:ByteArray).toList)=true then 8 else 0
def coK (s:ByteArray):Int:=if (s.toList==(⟨#[61,61]⟩:ByteArray).toList)=true then 1 else if (s.toList==(⟨#[33,61]⟩:ByteArray).toList)=true then 2 else if (s.toList==(⟨#[60]⟩:ByteArray).toList)=true then 3 else if (s.toList==(⟨#[60,61]⟩:ByteArray).toList)=true then 4 else if (s.toList==(⟨#[62]⟩:ByteArray).toList)=true then 5 else if (s.toList==(⟨#[62,61]⟩:ByteArray).toList)=true then 6 else 0
theorem o7:skK ByteArray.empty=0:=by decide +kernel
theorem kG:pdK ByteArray.empty=0:=by decide +kernel
theorem su:coK ByteArray.empty=0:=by decide +kernel
theorem io {ws:D} {nx:Int} {f:ByteArray->Int} (he:f ByteArray.empty=0) (h:f (pkS ws nx)≠0):nx<ws.len:=by
 apply Decidable.byContradiction
 intro hn;unfold pkS at h;rw[if_neg hn] at h;exact h he
theorem bN {b:Bool} (h:b=false) {x y:Int}:(if b=true then x else y)=y:=if_neg (by rw[h];decide)
noncomputable def yv:FSpec:=fun ds _=>match ds with
 | [.s s]=>some {val:=.one (.sc (.int .i64 (.sym (skK s)))),vc:=[]}
 |_=>none
noncomputable def yw:Con:=con [.sc .str] yv
theorem G3:ConOK Tryz.prog 110 yw:=by
 refine bg tt_ok au Tryz.func110 rfl (fun _ _=>by kernel_rfl) (A:=fun ds=>⟨fun _=>Cons.of [],fun _=>none,fun _=>none⟩) (fun _ _=>aq) (by kernel_rfl) ?_
 intro ds fr;unfold yv;split
 ·rename_i s;refine kmp (q:=((s.toList==(ByteArray.mk #[43]).toList)=true->(4:Int)=skK s)/\((s.toList==(ByteArray.mk #[43]).toList)=false->((s.toList==(ByteArray.mk #[45]).toList)=true->(5:Int)=skK s)/\((s.toList==(ByteArray.mk #[45]).toList)=false->(0:Int)=skK s))) (by kernel_rfl) ?_
  unfold skK;refine ⟨fun h=>?_,fun h0=>?_⟩
  ·rw[if_pos h]
  refine ⟨fun h=>?_,fun h1=>?_⟩
  ·rw[bN h0,if_pos h]
  rw[bN h0,bN h1]
 ·trivial
noncomputable def yx:FSpec:=fun ds _=>match ds with
 | [.s s]=>some {val:=.one (.sc (.int .i64 (.sym (pdK s)))),vc:=[]}
 |_=>none
noncomputable def yy:Con:=con [.sc .str] yx
theorem G4:ConOK Tryz.prog 113 yy:=by
 refine bg tt_ok au Tryz.func113 rfl (fun _ _=>by kernel_rfl) (A:=fun ds=>⟨fun _=>Cons.of [],fun _=>none,fun _=>none⟩) (fun _ _=>aq) (by kernel_rfl) ?_
 intro ds fr;unfold yx;split
 ·rename_i s;refine kmp (q:=((s.toList==(ByteArray.mk #[42]).toList)=true->(6:Int)=pdK s)/\((s.toList==(ByteArray.mk #[42]).toList)=false->((s.toList==(ByteArray.mk #[47]).toList)=true->(7:Int)=pdK s)/\((s.toList==(ByteArray.mk #[47]).toList)=false->((s.toList==(ByteArray.mk #[37]).toList)=true->(8:Int)=pdK s)/\((s.toList==(ByteArray.mk #[37]).toList)=false->(0:Int)=pdK s)))) (by kernel_rfl) ?_
  unfold pdK;refine ⟨fun h=>?_,fun h0=>?_⟩
  ·rw[if_pos h]
  refine ⟨fun h=>?_,fun h1=>?_⟩
  ·rw[bN h0,if_pos h]
  refine ⟨fun h=>?_,fun h2=>?_⟩
  ·rw[bN h0,bN h1,if_pos h]
  rw[bN h0,bN h1,bN h2]
 ·trivial
noncomputable def yz:FSpec:=fun ds _=>match ds with
 | [.s s]=>some {val:=.one (.sc (.int .i64 (.sym (coK s)))),vc:=[]}
 |_=>none
noncomputable def yA:Con:=con [.sc .str] yz
theorem G5:ConOK Tryz.prog 111 yA:=by
 refine bg tt_ok au Tryz.func111 rfl (fun _ _=>by kernel_rfl) (A:=fun ds=>⟨fun _=>Cons.of [],fun _=>none,fun _=>none⟩) (fun _ _=>aq) (by kernel_rfl) ?_
 intro ds fr;unfold yz;split
 ·rename_i s;refine kmp (q:=ac (s.toList==(ByteArray.mk #[61,61]).toList) fun Ea=>ac (s.toList==(ByteArray.mk #[33,61]).toList) fun Eb=>ac (s.toList==(ByteArray.mk #[60,61]).toList) fun Ec=>ac (s.toList==(ByteArray.mk #[62,61]).toList) fun Ed=>(Ea=true->(1:Int)=coK s)/\(Ea=false->(Eb=true->(2:Int)=coK s)/\(Eb=false->((s.toList==(ByteArray.mk #[60]).toList)=true->(3:Int)=coK s)/\((s.toList==(ByteArray.mk #[60]).toList)=false->(Ec=true->(4:Int)=coK s)/\(Ec=false->((s.toList==(ByteArray.mk #[62]).toList)=true->(5:Int)=coK s)/\((s.toList==(ByteArray.mk #[62]).toList)=false->(Ed=true->(6:Int)=coK s)/\(Ed=false->(0:Int)=coK s))))))) (by kernel_rfl) ?_
  dsimp +instances only [ac]
  unfold coK;refine ⟨fun h=>?_,fun h0=>?_⟩
  ·rw[if_pos h]
  refine ⟨fun h=>?_,fun h1=>?_⟩
  ·rw[bN h0,if_pos h]
  refine ⟨fun h=>?_,fun h2=>?_⟩
  ·rw[bN h0,bN h1,if_pos h]
  refine ⟨fun h=>?_,fun h3=>?_⟩
  ·rw[bN h0,bN h1,bN h2,if_pos h]
  refine ⟨fun h=>?_,fun h4=>?_⟩
  ·rw[bN h0,bN h1,bN h2,bN h3,if_pos h]
  refine ⟨fun h=>?_,fun h5=>?_⟩
  ·rw[bN h0,bN h1,bN h2,bN h3,bN h4,if_pos h]
  rw[bN h0,bN h1,bN h2,bN h3,bN h4,bN h5]
 ·trivial
def cmR (ws:D) (en:Int) (r:Rd):Rd:=if coK (pkS ws r.nx)=0 then fl ws en 5 r else gx r
noncomputable def yB:List Dat->Option (Eff × List Seg):=fun ds=>match ds with
 | [.d ws,.i nx,.i en,.i pa,.i er]=>some ({val:=.one (.sc (.int .i64 (.sym (coK (pkS ws nx))))),vc:=[aa ws nx]},[.c (.rows 124 ws),.c (.int .i64 (.sym ((cmR ws en (mR nx pa er)).nx))),.c (.int .i64 (.sym en)),.c (.int .i64 (.sym ((cmR ws en (mR nx pa er)).pa))),.c (.int .i64 (.sym ((cmR ws en (mR nx pa er)).er)))])
 |_=>none
noncomputable def yC:Con:=ba 85 [.c (.rows 124),.c (.int .i64),.c (.int .i64),.c (.int .i64),.c (.int .i64)] [] yB
theorem G6:ConOK Tryz.prog 106 yC:=by
 refine bk tt_ok au Tryz.func106 rfl (fun _ _=>by kernel_rfl) (A:=fun ds=>⟨fun _=>Cons.of [(76,eD),(82,jv),(111,yA)],fun _=>none,fun _=>none⟩) (fun _ _=>(af eT (af kD (af G5 aq)))) (by kernel_rfl) ?_
 intro ds;unfold yB;split
 ·rename_i ws nx en pa er;refine kmp (q:=ac (cmR ws en (mR nx pa er)) fun Ea=>ac (fl ws en (5:Int) (mR nx pa er)) fun Eb=>aa ws nx->aa ws nx/\((coK (pkS ws nx)==(0:Int))=true->aa ws nx/\(0:Int)=coK (pkS ws nx)/\ws.rows=ws.rows/\Eb.nx=Ea.nx/\en=en/\Eb.pa=Ea.pa/\Eb.er=Ea.er)/\((coK (pkS ws nx)==(0:Int))=false->coK (pkS ws nx)=coK (pkS ws nx)/\ws.rows=ws.rows/\IntKind.i64.wrap (nx+1)=Ea.nx/\en=en/\pa=Ea.pa/\er=Ea.er)) (by kernel_rfl) ?_
  dsimp +instances only [ac]
  intro h;refine ⟨h,fun hc=>?_,fun hc=>?_⟩
  ·have hc:coK (pkS ws nx)=0:=by simpa using hc
   have e:cmR ws en (mR nx pa er)=fl ws en 5 (mR nx pa er):=if_pos hc;rw[e,hc]
   (repeat' (with_reducible apply And.intro))<;>first |with_reducible rfl |exact True.intro |assumption |(symm;assumption) |rfl
  ·have hc:coK (pkS ws nx)≠0:=by simpa using hc
   have e:cmR ws en (mR nx pa er)=gx (mR nx pa er):=if_neg hc;rw[e,nx1 h (io su hc)]
   (repeat' (with_reducible apply And.intro))<;>first |with_reducible rfl |exact True.intro |assumption |(symm;assumption) |rfl
 ·trivial
end Go.Proofs.YtbhbjhejkamlnaaGreat.Sx.Z
