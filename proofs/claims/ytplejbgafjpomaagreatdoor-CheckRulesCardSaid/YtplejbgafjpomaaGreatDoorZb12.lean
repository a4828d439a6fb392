import Derived.Test.YtplejbgafjpomaaGreatDoorZb10
set_option linter.unusedVariables false
set_option linter.unusedSimpArgs false
namespace Go.Proofs.YtplejbgafjpomaaGreatDoor.Sx
open Go.RowKit
theorem ah_ext {ρ ρ':Map} {nt:Nat} {tm:Slots} {a:Act} (h:AH ρ nt tm a) (hx:Ext ρ ρ'):AH ρ' nt tm a:=⟨h.size,h.defers,fun t x ht=>vrel_ext hx (h.slots t x ht)⟩
theorem look_cons {α:Type} {i j:Nat} {x : α} {r:List (Nat × α)}:look ((i,x)::r) j=if i=j then some x else look r j:=by
 simp only [look,beq_iff_eq]
theorem look_gone {h:Heap} {ids:List Nat} {j:Nat} {f:Ent} (hj:look (kills ids++h) j=some f) (ho:f ≠ .gone):look h j=some f/\j ∉ ids:=by
 rw [look_append] at hj
 cases hq:look (kills ids) j with
 |some y=>
  rw [hq] at hj;obtain rfl:=by simpa using hj
  exact absurd (kills_look hq).1 ho
 |none=>
  rw [hq] at hj;refine ⟨hj,fun hi=>?_⟩;rw [kills_mem hi] at hq;cases hq
theorem own_ng {f:Ent} (h:f.isOwn=true):f ≠ .gone:=fun e=>by subst e;cases h
def closeE (s:St) (id:Nat):Option (List Prop × St):=
 match look s.hp id with
 |some (.nrow c e d (some (i,id2,n)))=>(match (eks e)[c]?,look s.hp id2 with
  |some (.slice e2),some (.orow e3 d2)=>if Nat.beq e2 e3 then some ([i<d.len,d2.len=n],{s with hp:=(id2,.gone)::(id,.nrow c e (d.setc (eks e).length i c [d2]) none)::s.hp}) else none
  |_,_=>none)
 |some (.nrow _ _ _ none)=>some ([],s)
 |_=>none
theorem closeE_spec {s s':St} {id:Nat} {ps:List Prop} (h:closeE s id=some (ps,s')) (hp:All ps) {w0:W0} {nt:Nat} {ρ:Map} {a:Act} {w:World} (hs:SH w0 nt s ρ a w):∃ ρ',SH w0 nt s' ρ' a w:=by
 unfold closeE at h
 split at h
 ·rename_i c e d i id2 n hl
  split at h
  ·rename_i e2 e3 d2 hc hl2
   split at h
   ·rename_i he;obtain rfl:=Nat.eq_of_beq_eq_true he;simp only [Option.some.injEq,Prod.mk.injEq] at h;obtain ⟨rfl,rfl⟩:=h;obtain ⟨hi,hn,_⟩:=hp;have hw:=hs.mem;have hne:id≠id2:=fun q=>by rw [q,hl2] at hl;cases hl
    rcases hw.ents id _ hl with ⟨_,h0⟩ |⟨hid,hoff,hM,cs,e4,hh,hsz,hle,hc4,hcs⟩
    ·omega
    have e42:e4=e2:=by rw [hc] at hc4;simpa using hc4.symm
    subst e42;have hck:c<(eks e).length:=lt_of_get hc;obtain ⟨u,hu,hr⟩:=hcs i c _ hi hc;rw [if_pos rfl] at hr;unfold KV at hr;simp only [holeAt,↓reduceIte] at hr;obtain ⟨A,cc,rfl,hnc,hA⟩:=hr;have hnc:n<=cc:=hnc;obtain ⟨kd,hkd⟩:∃ kd:Option (Nat × Nat),(kd=none/\cc=0/\∀ a,A=some a->a.spot=none) ∨ (kd=some (ρ.blk id2,ρ.cap id2)/\A=some ⟨ρ.blk id2,0,none⟩/\cc<=ρ.cap id2/\(ρ id2).isSome=true):=by
     rcases hA with ⟨h1,h2⟩ |⟨h1,h2,h3⟩
     ·exact ⟨_,.inl ⟨rfl,h1,h2⟩⟩
     ·exact ⟨_,.inr ⟨rfl,by simpa [SN.v] using h1,by simpa [SN.v] using h2,h3⟩⟩
    generalize hρ:({ρ with kid:=fun j k=>if j=id/\k=i then kd else ρ.kid j k}:Map)=ρ';have ext:Ext ρ ρ':=by rw [<- hρ];exact ⟨fun _ _ h=>h,fun _ _=>rfl,fun _ _ h=>h,rfl,rfl⟩
    have m':∀ j,ρ' j=ρ j:=fun j=>by rw [<- hρ]
    have blk':∀ j,ρ'.blk j=ρ.blk j:=fun j=>by rw [<- hρ];rfl
    have kid':∀ j,j≠id -> ρ'.kid j=ρ.kid j:=fun j hj=>by
     rw [<- hρ];funext k;simp only [hj,false_and,↓reduceIte]
    have kidi:∀ k,ρ'.kid id k=if k=i then kd else ρ.kid id k:=fun k=>by rw [<- hρ];simp
    have fz':ρ'.fz=ρ.fz:=by rw [<- hρ]
    have wk:=wh_kill (ids:=[id,id2]) hw (fun j hj=>by
     rcases List.mem_cons.1 hj with rfl |hj
     ·exact ⟨_,hl,rfl⟩
     ·obtain rfl:j=id2:=by simpa using hj
      exact ⟨_,hl2,rfl⟩) (Below.refl 0 w) fun _ _ _=>rfl
    have wr:=wh_ren (ρ':=ρ') wk ext fz' fun j f hj hg=>by
     obtain ⟨_,h2⟩:=look_gone hj hg;refine ⟨m' j,fun _=>kid' j fun e=>h2 (by simp [e])⟩
    have row2:(ρ id2).isSome=true->RowAt ρ w (ρ.blk id2) (ρ.cap id2) e4 d2:=fun hs2=>by
     rcases hw.ents id2 _ hl2 with ⟨h0,_⟩ |⟨_,_,_,h3⟩
     ·rw [h0] at hs2;cases hs2
     ·exact h3
    have hd':∀ k,k≠i->(d.setc (eks e).length i c [d2]).el k c=d.el k c:=fun k hk=>by
     rw [D.setc_el hi (by simp only [List.length_cons,List.length_nil];omega) k c hck,if_neg (fun h=>hk h.1)]
    have hdi:(d.setc (eks e).length i c [d2]).el i c=d2:=by
     rw [D.setc_el hi (by simp only [List.length_cons,List.length_nil];omega) i c hck,if_pos ⟨rfl,Nat.le_refl _,by simp⟩,Nat.sub_self];rfl
    have wp:=wh_put wr (id:=id) (x:=.nrow c e (d.setc (eks e).length i c [d2]) none) (.inr ⟨by rw [m'];exact hid,by rw [<- hρ];exact hoff,by rw [blk'];exact ⟨by rw [ext.mu];exact hM.1,by rw [fz'];exact hM.2⟩,cs,e4,by rw [blk'];exact hh,by rw [ext.cap id hid];exact hsz,by rw [ext.cap id hid,D.setc_len];exact hle,hc,fun p q k hp hk=>by
     rw [D.setc_len] at hp;obtain ⟨v,hv,hr⟩:=hcs p q k hp hk;refine ⟨v,hv,?_⟩
     by_cases hqc:q=c
     ·subst hqc;rw [if_pos rfl] at hr ⊢
      by_cases hpi:p=i
      ·subst hpi;have:v = .slice A n cc:=by rw [hu] at hv;exact (Option.some.inj hv).symm
       subst this;rw [hdi];unfold KV;simp only [holeAt];refine ⟨A,cc,by rw [hn],by rw [hn];exact hnc,?_⟩
       rcases hkd with ⟨_,h2,h3⟩ |⟨h1,h2,h3,_⟩
       ·exact .inl ⟨h2,h3⟩
       ·exact .inr ⟨_,_,by rw [kidi,if_pos rfl,h1],h2,h3⟩
      ·rw [hd' p hpi];unfold KV at hr ⊢;simp only [holeAt,if_neg hpi] at hr ⊢;obtain ⟨A',c',g1,g2,g3⟩:=hr;refine ⟨A',c',g1,g2,?_⟩
       rcases g3 with g3 |⟨b,cap,g3,g4,g5⟩
       ·exact .inl g3
       ·exact .inr ⟨b,cap,by rw [kidi,if_neg hpi];exact g3,g4,g5⟩
     ·rw [if_neg hqc] at hr ⊢;rw [D.setc_el hi (by simp only [List.length_cons,List.length_nil];omega) p q (lt_of_get hk),if_neg (by simp only [List.length_cons,List.length_nil];omega),fz'];exact hr⟩)
     (fun j f hj hl3 ho hji _=>by
       obtain ⟨h1,_⟩:=look_gone hl3 (own_ng ho);rw [m'] at hji;rw [blk',blk'];exact hw.apart j id f _ h1 hl ho rfl hj hji hid)
     (fun j c2 e5 d5 g5 k cp hj hl3 hji _ hk=>by
       obtain ⟨h1,_⟩:=look_gone hl3 (fun h=>by cases h);rw [m'] at hji;rw [kid' j hj,blk'] at hk;exact (hw.lin j c2 e5 d5 g5 h1 hji k _ cp hk).2.2.2.1 id _ hl rfl hid rfl)
     (fun c2 e5 d5 g5 hx _ k b cp hk=>by
       obtain ⟨rfl,rfl,rfl,rfl⟩:=by simpa using hx
       have all:(k=i/\kd=some (b,cp)) ∨ (k≠i /\ ρ.kid id k=some (b,cp)):=by
        rw [kidi] at hk
        by_cases hki:k=i
        ·rw [if_pos hki] at hk;exact .inl ⟨hki,hk⟩
        ·rw [if_neg hki] at hk;exact .inr ⟨hki,hk⟩
       rcases all with ⟨rfl,h1⟩ |⟨hki,h1⟩
       ·rcases hkd with ⟨h2,_⟩ |⟨h2,h3,h4,h5⟩
        ·rw [h2] at h1;cases h1
        rw [h2] at h1;obtain ⟨rfl,rfl⟩:ρ.blk id2=b /\ ρ.cap id2=cp:=by simpa using h1
        obtain ⟨q1,q2⟩:=erel_some (hw.ents id2 _ hl2) rfl h5;refine ⟨⟨by rw [ext.mu];exact q1.1,by rw [fz'];exact q1.2⟩,q2,fun e' g1 g2 _=>?_,?_,fun j f hj hl3 ho hji=>?_,fun j c' e' d3 g3 k' cp' hj hl3 hji hk2=>?_,fun k' cp' hk2=>?_⟩
        ·have:e'=e4:=by rw [hc] at g1;simpa using g1.symm
         subst this;rw [hdi];exact rowAt_mono ext.fz rfl (row2 h5)
        ·rw [blk'];exact hw.apart id id2 _ _ hl hl2 rfl rfl hne hid h5
        ·obtain ⟨g1,g2⟩:=look_gone hl3 (own_ng ho);rw [m'] at hji;rw [blk'];exact hw.apart j id2 f _ g1 hl2 ho rfl (fun e=>g2 (by simp [e])) hji h5
        ·obtain ⟨g1,_⟩:=look_gone hl3 (fun h=>by cases h);rw [m'] at hji;rw [kid' j hj] at hk2;exact (hw.lin j c' e' d3 g3 g1 hji k' _ cp' hk2).2.2.2.1 id2 _ hl2 rfl h5 rfl
        ·rw [kidi] at hk2
         by_cases hkk:k'=k
         ·exact hkk
         ·rw [if_neg hkk] at hk2;exact absurd rfl ((hw.lin id _ _ d _ hl hid k' _ cp' hk2).2.2.2.1 id2 _ hl2 rfl h5)
       ·obtain ⟨c1,c2,c3,c4,c5⟩:=hw.lin id _ _ d _ hl hid k b cp h1;refine ⟨⟨by rw [ext.mu];exact c1.1,by rw [fz'];exact c1.2⟩,c2,fun e' g1 g2 _=>?_,?_,fun j f hj hl3 ho hji=>?_,fun j c' e' d3 g3 k' cp' hj hl3 hji hk2=>?_,fun k' cp' hk2=>?_⟩
        ·rw [hd' k hki];rw [D.setc_len] at g2;exact rowAt_mono ext.fz rfl (c3 e' g1 g2 (by simp only [holeAt];rw [if_neg hki]))
        ·rw [blk'];exact c4 id _ hl rfl hid
        ·obtain ⟨g1,_⟩:=look_gone hl3 (own_ng ho);rw [m'] at hji;rw [blk'];exact c4 j f g1 ho hji
        ·obtain ⟨g1,_⟩:=look_gone hl3 (fun h=>by cases h);rw [m'] at hji;rw [kid' j hj] at hk2;exact hj (c5 j c' e' d3 g3 k' cp' g1 hji hk2).1
        ·rw [kidi] at hk2
         by_cases hkk:k'=i
         ·rw [if_pos hkk] at hk2
          rcases hkd with ⟨h2,_⟩ |⟨h2,h3,h4,h5⟩
          ·rw [h2] at hk2;cases hk2
          ·rw [h2] at hk2;have:ρ.blk id2=b:=by simpa using congrArg (fun x=>(x.getD (0,0)).1) hk2
           exact absurd this (c4 id2 _ hl2 rfl h5)
         ·rw [if_neg hkk] at hk2;exact (c5 id _ _ d _ k' cp' hl hid hk2).2)
    refine ⟨ρ',ah_ext hs.slots ext,wh_sub2 wp fun j f hj=>?_,fun j hj=>by rw [m'];exact hs.fresh j hj⟩;rw [look_cons] at hj
    split at hj
    ·exact .inl (by simpa using hj.symm)
    ·rename_i h1
     right
     rw [look_cons] at hj ⊢
     split at hj
     ·rename_i h2;rw [if_pos h2];exact hj
     ·rename_i h2;rw [if_neg h2];have:kills [id,id2]=[(id,.gone),(id2,.gone)]:=rfl;rw [this];show look ((id,Ent.gone)::(id2,Ent.gone)::s.hp) j=some f;rw [look_cons,if_neg h2,look_cons,if_neg h1];exact hj
   ·cases h
  ·cases h
 ·simp only [Option.some.injEq,Prod.mk.injEq] at h;obtain ⟨rfl,rfl⟩:=h;exact ⟨ρ,hs⟩
 ·cases h
def openE (s:St) (id i:Nat):Option (List Prop × St):=
 match look s.hp id with
 |some (.nrow c e d none)=>(match (eks e)[c]? with
  |some (.slice e2)=>some ([i<d.len],{s with hp:=(s.nx,.orow e2 (d.el i c))::(id,.nrow c e d (some (i,s.nx,(d.el i c).len)))::s.hp,nx:=s.nx+1})
  |_=>none)
 |_=>none
theorem openE_spec {s s':St} {id i:Nat} {ps:List Prop} (h:openE s id i=some (ps,s')) (hp:All ps) {w0:W0} {nt:Nat} {ρ:Map} {a:Act} {w:World} (hs:SH w0 nt s ρ a w):∃ ρ',SH w0 nt s' ρ' a w:=by
 unfold openE at h
 split at h
 ·rename_i c e d hl
  split at h
  ·rename_i e2 hc;simp only [Option.some.injEq,Prod.mk.injEq] at h;obtain ⟨rfl,rfl⟩:=h;obtain ⟨hi,_⟩:=hp;have hw:=hs.mem;have hf0:ρ s.nx=none:=hs.fresh s.nx (Nat.le_refl _)
   rcases hw.ents id _ hl with ⟨_,h0⟩ |⟨hid,hoff,hM,cs,e4,hh,hsz,hle,hc4,hcs⟩
   ·omega
   have e42:e4=e2:=by rw [hc] at hc4;simpa using hc4.symm
   subst e42;have hnf:id≠s.nx:=fun q=>by rw [q,hf0] at hid;cases hid
   have hck:c<(eks e).length:=lt_of_get hc;obtain ⟨u,hu,hr⟩:=hcs i c _ hi hc;rw [if_pos rfl] at hr;unfold KV at hr;simp only [holeAt] at hr;obtain ⟨A,cc,rfl,hnc,hA⟩:=hr;obtain ⟨pf,cf,hpf⟩:∃ (pf:Option (Nat × Nat)) (cf:Nat),(pf=none/\cc=0/\∀ a,A=some a->a.spot=none) ∨ ∃ b,pf=some (b,0) /\ ρ.kid id i=some (b,cf)/\A=some ⟨b,0,none⟩/\cc<=cf:=by
    rcases hA with ⟨h1,h2⟩ |⟨b,cap,h1,h2,h3⟩
    ·exact ⟨none,0,.inl ⟨rfl,h1,h2⟩⟩
    ·exact ⟨some (b,0),cap,.inr ⟨b,rfl,h1,h2,h3⟩⟩
   generalize hρ:({ρ with m:=fun j=>if j=s.nx then pf else ρ j,cap:=fun j=>if j=s.nx then cf else ρ.cap j,kid:=fun j k=>if j=id/\k=i then none else ρ.kid j k}:Map)=ρ';have key:∀ j,(ρ j).isSome=true->j≠s.nx:=fun j hj e=>by subst e;rw [hf0] at hj;cases hj
   have ext:Ext ρ ρ':=by
    rw [<- hρ];refine ⟨fun j q hq=>?_,fun j hj=>?_,fun _ _ h=>h,rfl,rfl⟩
    ·show (if j=s.nx then pf else ρ j)=some q;rw [if_neg (key j (by rw [hq];rfl))];exact hq
    ·show (if j=s.nx then cf else ρ.cap j)=ρ.cap j;rw [if_neg (key j hj)]
   have m':∀ j,j≠s.nx -> ρ' j=ρ j:=fun j hj=>by rw [<- hρ];exact if_neg hj
   have mf:ρ' s.nx=pf:=by rw [<- hρ];exact if_pos rfl
   have blk':∀ j,j≠s.nx -> ρ'.blk j=ρ.blk j:=fun j hj=>by unfold Map.blk;rw [m' j hj]
   have kid':∀ j,j≠id -> ρ'.kid j=ρ.kid j:=fun j hj=>by
    rw [<- hρ];funext k;simp only [hj,false_and,↓reduceIte]
   have kidi:∀ k,ρ'.kid id k=if k=i then none else ρ.kid id k:=fun k=>by rw [<- hρ];simp
   have capf:ρ'.cap s.nx=cf:=by rw [<- hρ];exact if_pos rfl
   have fz':ρ'.fz=ρ.fz:=by rw [<- hρ]
   have wk:=wh_kill (ids:=[id]) hw (fun j hj=>by
    obtain rfl:j=id:=by simpa using hj
    exact ⟨_,hl,rfl⟩) (Below.refl 0 w) fun _ _ _=>rfl
   have wk2:WH w0 ρ (kills [s.nx,id]++s.hp) w:=wh_sub2 wk fun j f hj=>by
    rw [look_append] at hj
    cases hq:look (kills [s.nx,id]) j with
    |some y=>rw [hq] at hj;left;rw [<- Option.some.inj hj];exact (kills_look hq).1
    |none=>
     rw [hq] at hj
     right
     rw [look_append]
     cases hq2:look (kills [id]) j with
     |some y=>
      have:=(kills_look hq2).2;rw [kills_mem (List.mem_cons_of_mem _ this)] at hq;cases hq
     |none=>exact hj
   have wr:=wh_ren (ρ':=ρ') wk2 ext fz' fun j f hj hg=>by
    obtain ⟨_,h2⟩:=look_gone hj hg;exact ⟨m' j fun e=>h2 (by simp [e]),fun _=>kid' j fun e=>h2 (by simp [e])⟩
   have lk:∀ j f,look (kills [s.nx,id]++s.hp) j=some f->f ≠ .gone->look s.hp j=some f/\j≠s.nx/\j≠id:=fun j f hj hg=>by
    obtain ⟨h1,h2⟩:=look_gone hj hg;exact ⟨h1,fun e=>h2 (by simp [e]),fun e=>h2 (by simp [e])⟩
   have wp:=wh_put wr (id:=id) (x:=.nrow c e d (some (i,s.nx,(d.el i c).len))) (.inr ⟨by rw [m' id hnf];exact hid,by unfold Map.off;rw [m' id hnf];exact hoff,by rw [blk' id hnf];exact ⟨by rw [ext.mu];exact hM.1,by rw [fz'];exact hM.2⟩,cs,e4,by rw [blk' id hnf];exact hh,by rw [ext.cap id hid];exact hsz,by rw [ext.cap id hid];exact hle,hc,fun p q k hp hk=>by
    obtain ⟨v,hv,hr⟩:=hcs p q k hp hk;refine ⟨v,hv,?_⟩
    by_cases hqc:q=c
    ·subst hqc;rw [if_pos rfl] at hr ⊢
     by_cases hpi:p=i
     ·subst hpi;have:v = .slice A (d.el p q).len cc:=by rw [hu] at hv;exact (Option.some.inj hv).symm
      subst this;unfold KV;simp only [holeAt,↓reduceIte];refine ⟨A,cc,rfl,hnc,?_⟩
      rcases hpf with ⟨_,h2,h3⟩ |⟨b,h1,h2,h3,h4⟩
      ·exact .inl ⟨h2,h3⟩
      ·refine .inr ⟨?_,by rw [capf];simpa [SN.v] using h4,by rw [mf,h1];rfl⟩;rw [h3];simp [Map.blk,mf,h1,SN.v]
     ·unfold KV at hr ⊢;simp only [holeAt,if_neg hpi] at hr ⊢;obtain ⟨A',c',g1,g2,g3⟩:=hr;refine ⟨A',c',g1,g2,?_⟩
      rcases g3 with g3 |⟨b,cap,g3,g4,g5⟩
      ·exact .inl g3
      ·exact .inr ⟨b,cap,by rw [kidi,if_neg hpi];exact g3,g4,g5⟩
    ·rw [if_neg hqc] at hr ⊢;rw [fz'];exact hr⟩)
    (fun j f hj hl3 ho hji _=>by
      obtain ⟨h1,h2,_⟩:=lk j f hl3 (own_ng ho);rw [m' j h2] at hji;rw [blk' j h2,blk' id hnf];exact hw.apart j id f _ h1 hl ho rfl hj hji hid)
    (fun j c2 e5 d5 g5 k cp hj hl3 hji _ hk=>by
      obtain ⟨h1,h2,_⟩:=lk j _ hl3 (fun h=>by cases h);rw [m' j h2] at hji;rw [kid' j hj,blk' id hnf] at hk;exact (hw.lin j c2 e5 d5 g5 h1 hji k _ cp hk).2.2.2.1 id _ hl rfl hid rfl)
    (fun c2 e5 d5 g5 hx _ k b cp hk=>by
      obtain ⟨rfl,rfl,rfl,rfl⟩:=by simpa using hx
      rw [kidi] at hk
      by_cases hki:k=i
      ·rw [if_pos hki] at hk;cases hk
      rw [if_neg hki] at hk;obtain ⟨c1,c2,c3,c4,c5⟩:=hw.lin id _ _ d _ hl hid k b cp hk;refine ⟨⟨by rw [ext.mu];exact c1.1,by rw [fz'];exact c1.2⟩,c2,fun e' g1 g2 _=>rowAt_mono ext.fz rfl (c3 e' g1 g2 rfl),?_,fun j f hj hl3 ho hji=>?_,fun j c' e' d3 g3 k' cp' hj hl3 hji hk2=>?_,fun k' cp' hk2=>?_⟩
      ·rw [blk' id hnf];exact c4 id _ hl rfl hid
      ·obtain ⟨g1,g2,_⟩:=lk j f hl3 (own_ng ho);rw [m' j g2] at hji;rw [blk' j g2];exact c4 j f g1 ho hji
      ·obtain ⟨g1,g2,_⟩:=lk j _ hl3 (fun h=>by cases h);rw [m' j g2] at hji;rw [kid' j hj] at hk2;exact hj (c5 j c' e' d3 g3 k' cp' g1 hji hk2).1
      ·rw [kidi] at hk2
       by_cases hkk:k'=i
       ·rw [if_pos hkk] at hk2;cases hk2
       ·rw [if_neg hkk] at hk2;exact (c5 id _ _ d _ k' cp' hl hid hk2).2)
   have wq:=wh_put wp (id:=s.nx) (x:=.orow e4 (d.el i c)) (by
    rcases hpf with ⟨h1,h2,_⟩ |⟨b,h1,h2,h3,h4⟩
    ·exact .inl ⟨by rw [mf,h1],by omega⟩
    ·obtain ⟨c1,c2,c3,_⟩:=hw.lin id _ _ d _ hl hid i b cf h2;have hb:ρ'.blk s.nx=b:=by simp [Map.blk,mf,h1]
     exact .inr ⟨by rw [mf,h1];rfl,by simp [Map.off,mf,h1],by rw [hb];exact ⟨by rw [ext.mu];exact c1.1,by rw [fz'];exact c1.2⟩,by rw [hb,capf];exact rowAt_mono ext.fz rfl (c3 e4 hc hi rfl)⟩)
    (fun j f hj hl3 ho hji hsf=>by
      rcases hpf with ⟨h1,_⟩ |⟨b,h1,h2,h3,h4⟩
      ·rw [mf,h1] at hsf;cases hsf
      have hb:ρ'.blk s.nx=b:=by simp [Map.blk,mf,h1]
      rw [hb];obtain ⟨_,_,_,c4,_⟩:=hw.lin id _ _ d _ hl hid i b cf h2;rw [look_cons] at hl3
      split at hl3
      ·rename_i hji';subst hji';rw [blk' _ hnf];exact c4 id _ hl rfl hid
      ·obtain ⟨g1,g2,_⟩:=lk j f hl3 (own_ng ho);rw [m' j g2] at hji;rw [blk' j g2];exact c4 j f g1 ho hji)
    (fun j c2 e5 d5 g5 k cp hj hl3 hji hsf hk=>by
      rcases hpf with ⟨h1,_⟩ |⟨b,h1,h2,h3,h4⟩
      ·rw [mf,h1] at hsf;cases hsf
      have hb:ρ'.blk s.nx=b:=by simp [Map.blk,mf,h1]
      rw [hb] at hk;obtain ⟨_,_,_,_,c5⟩:=hw.lin id _ _ d _ hl hid i b cf h2;rw [look_cons] at hl3
      split at hl3
      ·rename_i hji';subst hji';rw [kidi] at hk
       by_cases hki:k=i
       ·rw [if_pos hki] at hk;cases hk
       ·rw [if_neg hki] at hk;exact hki (c5 id _ _ d _ k cp hl hid hk).2
      ·obtain ⟨g1,g2,g3⟩:=lk j _ hl3 (fun h=>by cases h);rw [m' j g2] at hji;rw [kid' j g3] at hk;exact g3 (c5 j c2 e5 d5 g5 k cp g1 hji hk).1)
    (fun c2 e5 d5 g5 hx=>by cases hx)
   refine ⟨ρ',ah_ext hs.slots ext,wh_sub2 wq fun j f hj=>?_,fun j hj=>?_⟩
   ·right
    rw [look_cons] at hj ⊢
    split at hj
    ·rename_i h1;rw [if_pos h1];exact hj
    ·rename_i h1;rw [if_neg h1];rw [look_cons] at hj ⊢
     split at hj
     ·rename_i h2;rw [if_pos h2];exact hj
     ·rename_i h2;rw [if_neg h2];show look ((s.nx,Ent.gone)::(id,Ent.gone)::s.hp) j=some f;rw [look_cons,if_neg h1,look_cons,if_neg h2];exact hj
   ·have:s.nx+1<=j:=hj;rw [m' j (by omega)];exact hs.fresh j (by omega)
  ·cases h
 ·cases h
noncomputable def Map.fzX (ρ:Map) (w:World) (X:Nat->Prop):Map:={ρ with fz:=fun b=>match ρ.fz b with |some cs=>some cs |none=>open Classical in if X b then cellsAt w b else none}
theorem fzX_ext (ρ:Map) (w:World) (X:Nat->Prop):Ext ρ (ρ.fzX w X):=⟨fun _ _ h=>h,fun _ _=>rfl,fun b cs h=>by simp only [Map.fzX];rw [h],rfl,rfl⟩
theorem fzX_some {ρ:Map} {w:World} {X:Nat->Prop} {b:Nat} {cs:Array Value} (h:(ρ.fzX w X).fz b=some cs):ρ.fz b=some cs ∨ (X b/\cellsAt w b=some cs):=by
 simp only [Map.fzX] at h
 split at h
 ·rename_i q hq;exact .inl (by rw [hq];exact h)
 ·split at h
  ·rename_i hX;exact .inr ⟨hX,h⟩
  ·cases h
theorem fzX_at {ρ:Map} {w:World} {X:Nat->Prop} {b:Nat} {cs:Array Value} (h0:ρ.fz b=none) (hX:X b) (h:cellsAt w b=some cs):(ρ.fzX w X).fz b=some cs:=by
 simp only [Map.fzX,h0,if_pos hX,h]
theorem wh_fz {w0:W0} {w:World} {ρ:Map} {h:Heap} {X:Nat->Prop} (hw:WH w0 ρ h w) (hX:∀ b,X b->(w0.heap.size<=b ∨ ρ.mu b=true)/\(∀ j f,look h j=some f->f.isOwn=true->(ρ j).isSome=true -> ρ.blk j≠b)/\∀ j c e d g k cp,look h j=some (.nrow c e d g)->(ρ j).isSome=true -> ρ.kid j k≠some (b,cp)):WH w0 (ρ.fzX w X) h w:=by
 have ext:=fzX_ext ρ w X;have nfz:∀ b,ρ.fz b=none->¬ X b->(ρ.fzX w X).fz b=none:=fun b h0 hn=>by
  cases hc:(ρ.fzX w X).fz b with
  |none=>rfl
  |some cs=>
   rcases fzX_some hc with h |⟨h,_⟩
   ·rw [h0] at h;cases h
   ·exact absurd h hn
 refine ⟨hw.below,fun id e he=>?_,fun i j e f hi hj a b c d1 d2=>hw.apart i j e f hi hj a b c d1 d2,fun b cs hb=>?_,fun b cs hb=>ext.fz b cs (hw.sub b cs hb),hw.mu0,hw.f00,fun b cs hb=>?_,hw.anc,hw.tab,?_⟩
 ·exact erel_keep ext rfl (fun _=>rfl) (fun ho hi=>nfz _ (erel_some (hw.ents id e he) ho hi).1.2 fun hx=>(hX _ hx).2.1 id e he ho hi rfl) (hw.ents id e he) fun _ _=>rfl
 ·rcases fzX_some hb with h |⟨_,h⟩
  ·exact hw.froz b cs h
  ·exact cellsAt_some h
 ·rcases fzX_some hb with h |⟨h,_⟩
  ·exact hw.old b cs h
  ·exact .inr (hX b h).1
 ·intro id c e d g hl hi i b cap hk;obtain ⟨c1,c2,c3,c4,c5⟩:=hw.lin id c e d g hl hi i b cap hk;exact ⟨⟨c1.1,nfz b c1.2 fun hx=>(hX b hx).2.2 id c e d g i cap hl hi hk⟩,c2,fun e' h1 h2 h3=>rowAt_mono ext.fz rfl (c3 e' h1 h2 h3),c4,c5⟩
def frzE (s:St) (id:Nat):Option St:=
 match look s.hp id with
 |some (.nrow _ e d none)=>some {s with hp:=(id,.orow e d)::s.hp}
 |_=>none
theorem frzE_spec {s s':St} {id:Nat} (h:frzE s id=some s') {w0:W0} {nt:Nat} {ρ:Map} {a:Act} {w:World} (hs:SH w0 nt s ρ a w):∃ ρ',SH w0 nt s' ρ' a w:=by
 unfold frzE at h
 split at h
 ·rename_i c e d hl;obtain rfl:=by simpa using h
  have hw:=hs.mem
  rcases hw.ents id _ hl with ⟨hn,h0⟩ |⟨hid,hoff,hM,cs,e2,hh,hsz,hle,hc,hcs⟩
  ·
   have wk:=wh_kill (ids:=[id]) hw (fun j hj=>by
    obtain rfl:j=id:=by simpa using hj
    exact ⟨_,hl,rfl⟩) (Below.refl 0 w) fun _ _ _=>rfl
   have wp:=wh_put wk (id:=id) (x:=.orow e d) (.inl ⟨hn,h0⟩) (fun j f _ _ _ _ h=>by rw [hn] at h;cases h) (fun j c2 e5 d5 g5 k cp _ _ _ h=>by rw [hn] at h;cases h) (fun c2 e5 d5 g5 hx=>by cases hx);refine ⟨ρ,hs.slots,wh_sub2 wp fun j f hj=>?_,hs.fresh⟩
   right
   rw [look_cons] at hj ⊢
   split at hj
   ·rename_i h1;rw [if_pos h1];exact hj
   ·rename_i h1;rw [if_neg h1];show look ((id,Ent.gone)::s.hp) j=some f;rw [look_cons,if_neg h1];exact hj
  ·generalize hX:(fun b=>∃ k cp,ρ.kid id k=some (b,cp))=X;have ext:=fzX_ext ρ w X;have wk:=wh_kill (ids:=[id]) hw (fun j hj=>by
    obtain rfl:j=id:=by simpa using hj
    exact ⟨_,hl,rfl⟩) (Below.refl 0 w) fun _ _ _=>rfl
   have lk:∀ j f,look (kills [id]++s.hp) j=some f->f ≠ .gone->look s.hp j=some f/\j≠id:=fun j f hj hg=>by
    obtain ⟨h1,h2⟩:=look_gone hj hg;exact ⟨h1,fun e=>h2 (by simp [e])⟩
   have wf:=wh_fz (X:=X) wk fun b hb=>by
    rw [<- hX] at hb;obtain ⟨k,cp,hk⟩:=hb;obtain ⟨c1,c2,c3,c4,c5⟩:=hw.lin id _ _ d _ hl hid k b cp hk;refine ⟨c1.1,fun j f hj ho hji=>c4 j f (lk j f hj (own_ng ho)).1 ho hji,fun j c' e' d' g' k' cp' hj hji hk2=>?_⟩;obtain ⟨g1,g2⟩:=lk j _ hj (fun h=>by cases h);exact g2 (c5 j c' e' d' g' k' cp' g1 hji hk2).1
   have hMf:(ρ.fzX w X).fz (ρ.blk id)=none:=by
    cases hq:(ρ.fzX w X).fz (ρ.blk id) with
    |none=>rfl
    |some q=>
     rcases fzX_some hq with h |⟨h,_⟩
     ·rw [hM.2] at h;cases h
     ·rw [<- hX] at h;obtain ⟨k,cp,hk⟩:=h;exact absurd rfl ((hw.lin id _ _ d _ hl hid k _ cp hk).2.2.2.1 id _ hl rfl hid)
   have wp:=wh_put wf (id:=id) (x:=.orow e d) (.inr ⟨hid,hoff,⟨hM.1,hMf⟩,cs,hh,hsz,hle,fun i j k hi hk=>by
    obtain ⟨u,hu,hr⟩:=hcs i j k hi hk;refine ⟨u,hu,?_⟩
    by_cases hjc:j=c
    ·subst hjc;rw [if_pos rfl] at hr;rw [hc] at hk;obtain rfl:=Option.some.inj hk;unfold KV at hr;simp only [holeAt] at hr;obtain ⟨A,cc,rfl,hnc,hA⟩:=hr
     rcases hA with ⟨h1,h2⟩ |⟨b,cap,h1,rfl,h3⟩
     ·have hl0:(d.el i j).len=0:=by omega
      rw [hl0,h1]
      cases A with
      |none=>exact .nil _ _ hl0
      |some a=>exact .empty _ _ a 0 hl0
     ·obtain ⟨c1,c2,c3,c4,c5⟩:=hw.lin id _ _ d _ hl hid i b cap h1;obtain ⟨cs2,q1,q2,q3,q4⟩:=c3 e2 hc hi rfl;have hfb:(ρ.fzX w X).fz b=some cs2:=fzX_at c1.2 (by rw [<- hX];exact ⟨i,cap,h1⟩) (by simp only [cellsAt,q1]);refine .slice _ _ b 0 cc (fun p q=>cs2.getD (p*(eks e2).length+q) undef) hnc (fun p q hp hq=>?_) fun p q k hp hk=>?_
      ·have hk:=List.getElem?_eq_getElem hq;obtain ⟨v,hv,_⟩:=q4 p q _ hp hk;rw [Nat.zero_add];simp only [Fz.cell,hfb,Array.getD_eq_getD_getElem?,hv,Option.getD_some]
      ·obtain ⟨v,hv,ht⟩:=q4 p q k hp hk;simp only [Array.getD_eq_getD_getElem?,hv,Option.getD_some];exact ht.mono ext.fz
    ·rw [if_neg hjc] at hr;exact hr.mono ext.fz⟩)
    (fun j f hj hl3 ho hji _=>hw.apart j id f _ (lk j f hl3 (own_ng ho)).1 hl ho rfl hj hji hid)
    (fun j c2 e5 d5 g5 k cp hj hl3 hji _ hk=>(hw.lin j c2 e5 d5 g5 (lk j _ hl3 (fun h=>by cases h)).1 hji k _ cp hk).2.2.2.1 id _ hl rfl hid rfl)
    (fun c2 e5 d5 g5 hx=>by cases hx)
   refine ⟨ρ.fzX w X,ah_ext hs.slots ext,wh_sub2 wp fun j f hj=>?_,hs.fresh⟩
   right
   rw [look_cons] at hj ⊢
   split at hj
   ·rename_i h1;rw [if_pos h1];exact hj
   ·rename_i h1;rw [if_neg h1];show look ((id,Ent.gone)::s.hp) j=some f;rw [look_cons,if_neg h1];exact hj
 ·cases h
def hasN:Heap->Bool
 | []=>false
 |(_,.nrow ..)::_=>true
 |_::r=>hasN r
def nIds:Heap->List Nat->List Nat
 | [],_=>[]
 |(i,x)::r,seen=>if nin i seen then nIds r seen else (match x with | .nrow ..=>i::nIds r (i::seen) |_=>nIds r (i::seen))
def wantN (δ:List (Nat × Nat)):Heap->List Nat
 | []=>[]
 |(j,.nrow ..)::r=>dm δ j::wantN δ r
 |_::r=>wantN δ r
def wantO (δ:List (Nat × Nat)):Heap->List (Nat × Nat)
 | []=>[]
 |(j,.nrow _ _ _ (some (i,_,_)))::r=>(dm δ j,i)::wantO δ r
 |_::r=>wantO δ r
def isOpen (hp:Heap) (id:Nat):Bool:=match look hp id with |some (.nrow _ _ _ (some _))=>true |_=>false
def closeAll:List Nat->St->Option (List Prop × St)
 | [],s=>some ([],s)
 |id::r,s=>(match closeE s id with
  |some (ps,s1)=>(match closeAll r s1 with |some (qs,s2)=>some (ps++qs,s2) |none=>none)
  |none=>none)
def frzAll:List Nat->St->Option St
 | [],s=>some s
 |id::r,s=>(match frzE s id with |some s1=>frzAll r s1 |none=>none)
def openAll:List (Nat × Nat)->St->Option (List Prop × St)
 | [],s=>some ([],s)
 |(id,i)::r,s=>if isOpen s.hp id then openAll r s else (match openE s id i with
  |some (ps,s1)=>(match openAll r s1 with |some (qs,s2)=>some (ps++qs,s2) |none=>none)
  |none=>none)
def nCut (s t:St):Option (List Prop × St):=
 let δ:=mHeap s.hp t.hp (mSlots s.tm t.tm)
 let ids:=nIds s.hp []
 let os:=wantO δ t.hp
 let ns:=wantN δ t.hp
 match closeAll (ids.filter fun i=>!(nin i (os.map (·.1)))) s with
 |some (ps,s1)=>(match frzAll (ids.filter fun i=>!(nin i ns)) s1 with
  |some s2=>(match openAll os s2 with |some (qs,s3)=>some (ps++qs,s3) |none=>none)
  |none=>none)
 |none=>none
section
variable {w0:W0} {nt:Nat} {a:Act} {w:World}
theorem closeAll_spec:∀ (l:List Nat) {s s':St} {ps:List Prop},closeAll l s=some (ps,s')->All ps->∀ {ρ:Map},SH w0 nt s ρ a w->∃ ρ',SH w0 nt s' ρ' a w
 | [],s,s',ps,h,_,ρ,hs=>by
   simp only [closeAll,Option.some.injEq,Prod.mk.injEq] at h;obtain ⟨rfl,rfl⟩:=h;exact ⟨ρ,hs⟩
 |id::r,s,s',ps,h,hp,ρ,hs=>by
  simp only [closeAll] at h
  split at h
  ·rename_i ps1 s1 h1
   split at h
   ·rename_i qs s2 h2;simp only [Option.some.injEq,Prod.mk.injEq] at h;obtain ⟨rfl,rfl⟩:=h;obtain ⟨hp1,hp2⟩:=all_append.1 hp;obtain ⟨ρ1,g1⟩:=closeE_spec h1 hp1 hs;exact closeAll_spec r h2 hp2 g1
   ·cases h
  ·cases h
theorem frzAll_spec:∀ (l:List Nat) {s s':St},frzAll l s=some s'->∀ {ρ:Map},SH w0 nt s ρ a w->∃ ρ',SH w0 nt s' ρ' a w
 | [],s,s',h,ρ,hs=>by
   simp only [frzAll,Option.some.injEq] at h;subst h;exact ⟨ρ,hs⟩
 |id::r,s,s',h,ρ,hs=>by
  simp only [frzAll] at h
  split at h
  ·rename_i s1 h1;obtain ⟨ρ1,g1⟩:=frzE_spec h1 hs;exact frzAll_spec r h g1
  ·cases h
theorem openAll_spec:∀ (l:List (Nat × Nat)) {s s':St} {ps:List Prop},openAll l s=some (ps,s')->All ps->∀ {ρ:Map},SH w0 nt s ρ a w->∃ ρ',SH w0 nt s' ρ' a w
 | [],s,s',ps,h,_,ρ,hs=>by
   simp only [openAll,Option.some.injEq,Prod.mk.injEq] at h;obtain ⟨rfl,rfl⟩:=h;exact ⟨ρ,hs⟩
 |(id,i)::r,s,s',ps,h,hp,ρ,hs=>by
  simp only [openAll] at h
  split at h
  ·exact openAll_spec r h hp hs
  ·split at h
   ·rename_i ps1 s1 h1
    split at h
    ·rename_i qs s2 h2;simp only [Option.some.injEq,Prod.mk.injEq] at h;obtain ⟨rfl,rfl⟩:=h;obtain ⟨hp1,hp2⟩:=all_append.1 hp;obtain ⟨ρ1,g1⟩:=openE_spec h1 hp1 hs;exact openAll_spec r h2 hp2 g1
    ·cases h
   ·cases h
theorem nCut_spec {s t s':St} {ps:List Prop} (h:nCut s t=some (ps,s')) (hp:All ps) {ρ:Map} (hs:SH w0 nt s ρ a w):∃ ρ',SH w0 nt s' ρ' a w:=by
 unfold nCut at h;dsimp only at h
 split at h
 ·rename_i ps1 s1 h1
  split at h
  ·rename_i s2 h2
   split at h
   ·rename_i qs s3 h3;simp only [Option.some.injEq,Prod.mk.injEq] at h;obtain ⟨rfl,rfl⟩:=h;obtain ⟨hp1,hp2⟩:=all_append.1 hp;obtain ⟨ρ1,g1⟩:=closeAll_spec _ h1 hp1 hs;obtain ⟨ρ2,g2⟩:=frzAll_spec _ h2 g1;exact openAll_spec _ h3 hp2 g2
   ·cases h
  ·cases h
 ·cases h
end
end Go.Proofs.YtplejbgafjpomaaGreatDoor.Sx
