import Derived.Test.YtbhbjhejkamlnaaZu24
import Derived.Test.YtbhbjhejkamlnaaZu1
import Derived.Deep.QuietTactic
import Derived.BigQuiet
import Derived.Test.YtbhbjhejkamlnaaZu21
import Derived.Laws.IdiomStrings
set_option linter.unusedVariables false
set_option linter.unusedSimpArgs false
namespace Go.Proofs.Ytbhbjhejkamlnaa.Sx.Z
open Go.RowKit
theorem bd_rd {ws:D} (hw:ws.len<=1000000) (en:Int):∀ (z:Nat) (d:D),SizeOf.sizeOf d<=z->BdRd ws en d:=by
 intro z
 induction z with
 |zero=>intro d hz;cases d<;>simp at hz
 |succ z ih=>
  intro d hz m dp p pa hA hN hd hm hp hT hc
  cases m with
  |zero=>exfalso;simp at hm;omega
  |succ m=>
   have kid:∀ i j,i<d.len->BdRd ws en (d.el i j):=fun i j hi=>by
    have:=lel_lt (j:=j) hi
    exact ih _ (by omega)
   have kid2:∀ i,i<d.len->∀ j,j<(d.el i 18).len->BdRd ws en ((d.el i 18).el j 2):=fun i hi j hj=>by
    have h1:=lel_lt (j:=18) hi
    have h2:=lel_lt (j:=2) hj
    exact ih _ (by omega)
   rw [bA_eq] at hA
   rw [bN_eq] at hN
   rw [bW_eq] at hT hc ⊢
   rw [bC_eq]
   have hA:=allB_iff.1 hA
   have hN:=allB_iff.1 hN
   have hle:=hT.le hp
   have hd0:∀ i,i<d.len->∃ w l,stWE d i=w::l/\sHd w:=fun i hi=>stW_head (hA i hi)
   have nx:∀ i,i<=d.len->∃ w,TkA ws (p+(catTo i (stWE d)).length) w/\sQd w:=fun i hi=>hT.next (Q:=sQd) (fun i hi=>by obtain ⟨w,l,e1,e2⟩:=hd0 i hi;exact ⟨w,l,e1,.inl e2⟩) hc (.inr rfl) hi
   show seqA (wtG ws) (wtH (wtR m) en ws dp) ws (.l []) (rp p pa)=_
   have:=seq_all (g:=stCE d) (b:=[]) (pa:=pa) (wt_sq (wtR_up m en ws) (wtR_er m) dp) hw (f:=stWE d) (n:=d.len) (p:=p) (fun i hi=>by have:=cat_mono (stWE d) (show i<=d.len by omega);omega) (fun i hi=>by
    obtain ⟨w,l,e1,e2⟩:=hd0 i hi
    have:=hT.nth hi
    rw [e1] at this
    exact stH_go this.cons.1 e2 pa) (fun i hi=>by
    obtain ⟨w,w1,w2⟩:=nx (i+1) (by omega)
    rw [catTo_succ,List.length_append,<- Nat.add_assoc] at w1
    have:=st_rd (pa:=pa) (m:=m) hw (kid i 16 hi) (kid i 17 hi) (kid2 i hi) (hA i hi) (hN i hi) (by omega) (hT.nth hi) w1 w2
    unfold wtH
    rw [this];rfl) (cb_go hc pa)
   rw [this];rfl
theorem body_rd {ws:D} (hw:ws.len<=1000000) (en:Int) {d:D} (hA:bA d=true) (hN:bN d 0=true) {p:Nat} {pa:Int} (hp:p<=ws.len) (hT:At ws p (bW d)) (hc:TkA ws (p+(bW d).length) cbB):wtX en ws 0 (rp p pa)=(bC d,rp (p+(bW d).length) pa):=by
 unfold wtX
 exact bd_rd hw en _ d (Nat.le_refl _) 1000001 0 p pa hA hN (by decide) (by decide) hp hT hc
def nmC (d:D) (i:Nat):List D:=[.s (d.el i 0).toS]
def nsC (d:D):D:=.l (rowsTo (nmC d) d.len)
def chC0 (nm:ByteArray) (k n:Int) (f t:ByteArray) (tg:D):Ch:=⟨nm,k,n,f,t,nsC tg⟩
theorem wkG_tk {ws:D} {p:Nat} {pa:Int} {w:ByteArray} (h:TkA ws p w) (t:ByteArray):wkG t ws (rp p pa)=(w.data.toList==t.data.toList&&decide (kOf w>=3)):=isB_tk h t
theorem tg_cat {tg:D} {n:Nat}:catTo (n+1) (tgW tg)=(tg.el 0 0).toS::catTo n (fun i=>[coB,(tg.el (i+1) 0).toS]):=by
 induction n with
 |zero=>rfl
 |succ n ih=>
  rw [catTo_succ,ih,catTo_succ]
  rfl
theorem nm_rows {tg:D} {n:Nat}:rowsTo (nmC tg) (n+1)=nmC tg 0::rowsTo (fun i=>nmC tg (i+1)) n:=by
 induction n with
 |zero=>rfl
 |succ n ih=>
  rw [rowsTo_succ,ih,rowsTo_succ]
  rfl
theorem ch_rd {ws:D} (hw:ws.len<=1000000) (en:Int) {nm:ByteArray} {k n:Int} {f t:ByteArray} {tg:D} (hA:chB nm k n f t tg=true) {p:Nat} {pa:Int} (hT:At ws p (chWd nm k n f t tg)) :
 wkZ ws en (rp (p+1) pa)=chC0 nm k n f t tg/\wkR ws en (rp (p+1) pa)=rp (p+(chWd nm k n f t tg).length) pa:=by
 unfold chB at hA
 simp only [Bool.and_eq_true,decide_eq_true_eq] at hA
 obtain ⟨⟨⟨⟨⟨⟨⟨h1,h2⟩,h3⟩,h4⟩,h5⟩,h6⟩,h7⟩,h8⟩:=hA
 have h8:=allB_iff.1 h8
 obtain ⟨z,hz⟩:∃ z,tg.len=z+1:=⟨tg.len-1,by omega⟩
 have hT:At ws p (⟨#[99,104,97,110]⟩::nm::chW k::itW n::⟨#[102,114,111,109]⟩::f::⟨#[116,111]⟩::t::⟨#[123]⟩::(catTo tg.len (tgW tg)++[⟨#[125]⟩,⟨#[59]⟩])):=hT
 have el:(chWd nm k n f t tg).length=12+(catTo z (fun i=>[coB,(tg.el (i+1) 0).toS])).length:=by
  show (_::_::_::_::_::_::_::_::_::(catTo tg.len (tgW tg)++[_,_])).length=_
  rw [hz,tg_cat]
  simp only [List.length_cons,List.length_append,List.length_nil];omega
 rw [hz,tg_cat] at hT
 obtain ⟨a0,b0⟩:=hT.cons
 obtain ⟨a1,b1⟩:=b0.cons
 obtain ⟨a2,b2⟩:=b1.cons
 obtain ⟨a3,b3⟩:=b2.cons
 obtain ⟨a4,b4⟩:=b3.cons
 obtain ⟨a5,b5⟩:=b4.cons
 obtain ⟨a6,b6⟩:=b5.cons
 obtain ⟨a7,b7⟩:=b6.cons
 obtain ⟨a8,b8⟩:=b7.cons
 obtain ⟨a9,b9⟩:=At.cons (show At ws _ ((tg.el 0 0).toS::(catTo z (fun i=>[coB,(tg.el (i+1) 0).toS])++[⟨#[125]⟩,⟨#[59]⟩])) from b8)
 obtain ⟨c1,c2⟩:=b9.app
 obtain ⟨c3,c4⟩:=c2.cons
 obtain ⟨c5,_⟩:=c4.cons
 have k1:=nm_word h1
 have k5:=nm_word h5
 have k6:=nm_word h6
 have kt:∀ i,i<tg.len->kOf (tg.el i 0).toS=1:=fun i hi=>nm_word (h8 i hi)
 obtain ⟨n1,n2⟩:=nu_word h4
 have e0:wk0 ws en (rp (p+1) pa)=rp (p+1+1) pa:=wn_tk a1 k1
 have eK:wkK ws en (rp (p+1) pa)=k:=by
  unfold wkK
  rw [e0]
  have ho:k=0 ∨ k=1 ∨ k=2:=by omega
  rcases ho with rfl |rfl |rfl
  ·simp only [ixR]
   rw [if_neg (by rw [isB_tk a2];decide),if_neg (by rw [isB_tk a2];decide),if_pos (by rw [isB_tk a2];decide)];rfl
  ·simp only [ixR]
   rw [if_neg (by rw [isB_tk a2];decide),if_pos (by rw [isB_tk a2];decide)];rfl
  ·simp only [ixR]
   rw [if_pos (by rw [isB_tk a2];decide)];rfl
 have e1:wk1 ws en (rp (p+1) pa)=rp (p+1+1+1) pa:=by unfold wk1;rw [e0];rfl
 have e2a:wnR ws en 2 (rp (p+1+1+1) pa)=rp (p+1+1+1+1) pa:=wn_tk a3 n1
 have e2:wk2 ws en (rp (p+1) pa)=rp (p+1+1+1+1+1) pa:=by
  unfold wk2;rw [e1,e2a];exact mu_tk a4 (by decide)
 have e3a:wnR ws en 1 (rp (p+1+1+1+1+1) pa)=rp (p+1+1+1+1+1+1) pa:=wn_tk a5 k5
 have e3:wk3 ws en (rp (p+1) pa)=rp (p+1+1+1+1+1+1+1) pa:=by
  unfold wk3;rw [e2,e3a];exact mu_tk a6 (by decide)
 have e4a:wnR ws en 1 (rp (p+1+1+1+1+1+1+1) pa)=rp (p+1+1+1+1+1+1+1+1) pa:=wn_tk a7 k6
 have e4:wk4 ws en (rp (p+1) pa)=rp (p+1+1+1+1+1+1+1+1+1) pa:=by
  unfold wk4;rw [e3,e4a];exact mu_tk a8 (by decide)
 have e5:wnR ws en 1 (rp (p+1+1+1+1+1+1+1+1+1) pa)=rp (p+1+1+1+1+1+1+1+1+1+1) pa:=wn_tk a9 (kt 0 (by omega))
 generalize hP:p+1+1+1+1+1+1+1+1+1+1=P at *
 have hP':P=p+10:=by omega
 have eT:wkT ws en (rp (p+1) pa)=(nsC tg,rp (P+(catTo z (fun i=>[coB,(tg.el (i+1) 0).toS])).length) pa):=by
  unfold wkT
  rw [e4,e5,wnS_tk a9 (kt 0 (by omega))]
  have:=seq_all (wk_sq (ws:=ws) en) hw (f:=fun i=>[coB,(tg.el (i+1) 0).toS]) (g:=fun i=>nmC tg (i+1)) (n:=z) (p:=P) (pa:=pa) (b:=[nmC tg 0]) (fun i hi=>by
   have h1:=c1.le (show P<=ws.len by have:=a9.lt;omega)
   have:=cat_mono (fun i=>[coB,(tg.el (i+1) 0).toS]) (show i<=z by omega);omega) (fun i hi=>by
   rw [wkG_tk (c1.nth hi).cons.1];decide) (fun i hi=>by
   obtain ⟨x1,x2⟩:=(c1.nth hi).cons
   obtain ⟨x3,_⟩:=x2.cons
   unfold wkF
   rw [gx_rp,wnS_tk x3 (kt _ (by omega)),show wnR ws en 1 (rp _ pa)=rp _ pa from wn_tk x3 (kt _ (by omega))]
   rfl) (by rw [wkG_tk c3];decide)
  rw [show D.l [[D.s (tg.el 0 0).toS]]=D.l [nmC tg 0] from rfl,this]
  unfold nsC
  rw [hz,nm_rows];rfl
 have e6:muR ws en cbB (rp (P+(catTo z (fun i=>[coB,(tg.el (i+1) 0).toS])).length) pa)=rp (P+(catTo z (fun i=>[coB,(tg.el (i+1) 0).toS])).length+1) pa:=mu_tk c3 (by decide)
 have e7:muR ws en seB (rp (P+(catTo z (fun i=>[coB,(tg.el (i+1) 0).toS])).length+1) pa)=rp (P+(catTo z (fun i=>[coB,(tg.el (i+1) 0).toS])).length+1+1) pa:=mu_tk c5 (by decide)
 constructor
 ·unfold wkZ
  rw [eK,if_neg (by omega),eT,e1,e2,e3,wnS_tk a1 k1,wnN_tk a3 n1,n2,wnS_tk a5 k5,wnS_tk a7 k6];rfl
 ·unfold wkR
  rw [eK,if_neg (by omega),eT]
  show muR ws en seB (muR ws en cbB (rp _ pa))=_
  rw [e6,e7,el,hP']
  congr 1;omega
end Go.Proofs.Ytbhbjhejkamlnaa.Sx.Z
namespace Go.Proofs.Ytbhbjhejkamlnaa.Sx.Z
open Go.RowKit
def mvC (mv:D) (i:Nat):List D:=[.i (mv.el i 0).toI,.s (mv.el i 1).toS,.i (mv.el i 2).toI]
def ruC0 (nm:ByteArray) (mv:D):Ru:=⟨nm,.l (rowsTo (mvC mv) mv.len)⟩
def prC0 (nm:ByteArray) (vs bd:D):Po:=⟨nm,nsC vs,bC bd⟩
theorem wmG_tk {ws:D} {p:Nat} {pa:Int} {w:ByteArray} (h:TkA ws p w):wmG ws (rp p pa) = !(w.data.toList==cbB.data.toList&&decide (kOf w>=3)):=by
 unfold wmG;rw [isB_tk h];rfl
theorem ru_rd {ws:D} (hw:ws.len<=1000000) (en:Int) {nm:ByteArray} {mv:D} (hA:ruB nm mv=true) {p:Nat} {pa:Int} (hT:At ws p (ruWd nm mv)) :
 wuZ ws en (rp (p+1) pa)=ruC0 nm mv/\wuR ws en (rp (p+1) pa)=rp (p+(ruWd nm mv).length) pa:=by
 unfold ruB at hA
 simp only [Bool.and_eq_true] at hA
 have h1:=allB_iff.1 hA.1
 have k0:=nm_word hA.2
 have hm:∀ i,i<mv.len->(kOf (itW (mv.el i 0).toI)=2/\nOf (itW (mv.el i 0).toI)=(mv.el i 0).toI)/\kOf (mv.el i 1).toS=1/\(kOf (itW (mv.el i 2).toI)=2/\nOf (itW (mv.el i 2).toI)=(mv.el i 2).toI):=fun i hi=>by
  have:=h1 i hi
  unfold mvE at this
  simp only [Bool.and_eq_true] at this
  exact ⟨nu_word this.1.1,nm_word this.1.2,nu_word this.2⟩
 have hT:At ws p (⟨#[114,117,108,101]⟩::nm::⟨#[123]⟩::(catTo mv.len (mvW mv)++[⟨#[125]⟩])):=hT
 have el:(ruWd nm mv).length=4+(catTo mv.len (mvW mv)).length:=by
  show (_::_::_::(catTo mv.len (mvW mv)++[_])).length=_
  simp only [List.length_cons,List.length_append,List.length_nil];omega
 obtain ⟨a0,b0⟩:=hT.cons
 obtain ⟨a1,b1⟩:=b0.cons
 obtain ⟨a2,b2⟩:=b1.cons
 obtain ⟨c1,c2⟩:=b2.app
 obtain ⟨c3,_⟩:=c2.cons
 have e0:wnR ws en 1 (rp (p+1) pa)=rp (p+1+1) pa:=wn_tk a1 k0
 have e1:wuA ws en (rp (p+1) pa)=rp (p+1+1+1) pa:=by unfold wuA;rw [e0];exact mu_tk a2 (by decide)
 generalize hP:p+1+1+1=P at *
 have hP':P=p+3:=by omega
 have hle:=c1.le (show P<=ws.len by have:=a2.lt;omega)
 have eM:wuM ws en (rp (p+1) pa)=(.l (rowsTo (mvC mv) mv.len),rp (P+(catTo mv.len (mvW mv)).length) pa):=by
  unfold wuM
  rw [e1]
  have:=sqE_all (wu_se (ws:=ws) en) hw (f:=mvW mv) (g:=mvC mv) (n:=mv.len) (p:=P) (pa:=pa) (b:=[]) (fun i hi=>by have:=cat_mono (mvW mv) (show i<=mv.len by omega);omega) (fun i hi=>by
   rw [wmG_tk (At.cons (show At ws _ (itW (mv.el i 0).toI::_) from c1.nth hi)).1,(hm i hi).1.1];simp) (fun i hi=>by
   obtain ⟨⟨m1,m2⟩,m3,m4,m5⟩:=hm i hi
   obtain ⟨x1,y1⟩:=At.cons (show At ws _ (itW (mv.el i 0).toI::(mv.el i 1).toS::itW (mv.el i 2).toI::[⟨#[59]⟩]) from c1.nth hi)
   obtain ⟨x2,y2⟩:=y1.cons
   obtain ⟨x3,y3⟩:=y2.cons
   obtain ⟨x4,_⟩:=y3.cons
   generalize hQ:P+(catTo i (mvW mv)).length=Q at *
   have f1:wnR ws en 2 (rp Q pa)=rp (Q+1) pa:=wn_tk x1 m1
   have f2:wuX ws en (rp Q pa)=rp (Q+1+1) pa:=by unfold wuX;rw [f1];exact wn_tk x2 m3
   have f3:wnR ws en 2 (rp (Q+1+1) pa)=rp (Q+1+1+1) pa:=wn_tk x3 m4
   unfold wuF
   rw [f2,f1,f3,wnN_tk x1 m1,m2,wnS_tk x2 m3,wnN_tk x3 m4,m5,show muR ws en seB (rp (Q+1+1+1) pa)=rp (Q+1+1+1+1) pa from mu_tk x4 (by decide)]
   rfl) (by rw [wmG_tk c3];decide)
  rw [this];rfl
 constructor
 ·unfold wuZ
  rw [eM,wnS_tk a1 k0];rfl
 ·unfold wuR
  rw [eM]
  show muR ws en cbB (rp _ pa)=_
  rw [show muR ws en cbB (rp (P+(catTo mv.len (mvW mv)).length) pa)=rp (P+(catTo mv.len (mvW mv)).length+1) pa from mu_tk c3 (by decide),el,hP']
  congr 1;omega
theorem pr_rd {ws:D} (hw:ws.len<=1000000) (en:Int) {nm:ByteArray} {vs bd:D} (h0:nmB nm=true) (hv:nsA vs=true) (hb:bA bd=true) (hN:bN bd 0=true) {p:Nat} {pa:Int} (hT:At ws p (prWd nm vs bd)) :
 wpZ ws en (rp (p+1) pa)=prC0 nm vs bd/\wpR ws en (rp (p+1) pa)=rp (p+(prWd nm vs bd).length) pa:=by
 have h1:=allB_iff.1 hv
 have k0:=nm_word h0
 have hT:At ws p (⟨#[112,114,111,99]⟩::nm::⟨#[123]⟩::(catTo vs.len (vaW vs)++(bW bd++[⟨#[125]⟩]))):=hT
 have el:(prWd nm vs bd).length=4+(catTo vs.len (vaW vs)).length+(bW bd).length:=by
  show (_::_::_::(catTo vs.len (vaW vs)++(bW bd++[_]))).length=_
  simp only [List.length_cons,List.length_append,List.length_nil];omega
 obtain ⟨a0,b0⟩:=hT.cons
 obtain ⟨a1,b1⟩:=b0.cons
 obtain ⟨a2,b2⟩:=b1.cons
 obtain ⟨c1,c2⟩:=b2.app
 obtain ⟨c3,c4⟩:=c2.app
 obtain ⟨c5,_⟩:=c4.cons
 have e0:wnR ws en 1 (rp (p+1) pa)=rp (p+1+1) pa:=wn_tk a1 k0
 have e1:wuA ws en (rp (p+1) pa)=rp (p+1+1+1) pa:=by unfold wuA;rw [e0];exact mu_tk a2 (by decide)
 generalize hP:p+1+1+1=P at *
 have hP':P=p+3:=by omega
 have hle:=c1.le (show P<=ws.len by have:=a2.lt;omega)
 have nx:∃ w,TkA ws (P+(catTo vs.len (vaW vs)).length) w/\sQd w:=by
  have c3':=c3
  rw [bW_eq] at c3'
  have c5':=c5
  rw [bW_eq] at c5'
  rw [bA_eq] at hb
  have hb:=allB_iff.1 hb
  have:=c3'.next (Q:=sQd) (fun i hi=>by obtain ⟨w,l,e1,e2⟩:=stW_head (hb i hi);exact ⟨w,l,e1,.inl e2⟩) c5' (.inr rfl) (Nat.zero_le _)
  exact this
 have eV:wpV ws en (rp (p+1) pa)=(nsC vs,rp (P+(catTo vs.len (vaW vs)).length) pa):=by
  unfold wpV
  rw [e1]
  have:=seq_all (wvF_sq (ws:=ws) en) hw (f:=vaW vs) (g:=nmC vs) (n:=vs.len) (p:=P) (pa:=pa) (b:=[]) (fun i hi=>by have:=cat_mono (vaW vs) (show i<=vs.len by omega);omega) (fun i hi=>by
   rw [wkG_tk (At.cons (show At ws _ (kwV::_) from c1.nth hi)).1];decide) (fun i hi=>by
   have kv:kOf (vs.el i 0).toS=1:=nm_word (h1 i hi)
   obtain ⟨x1,y1⟩:=At.cons (show At ws _ (kwV::(vs.el i 0).toS::[⟨#[59]⟩]) from c1.nth hi)
   obtain ⟨x2,y2⟩:=y1.cons
   obtain ⟨x3,_⟩:=y2.cons
   generalize hQ:P+(catTo i (vaW vs)).length=Q at *
   have f1:wnR ws en 1 (rp (Q+1) pa)=rp (Q+1+1) pa:=wn_tk x2 kv
   unfold wvF
   rw [gx_rp,f1,wnS_tk x2 kv,show muR ws en seB (rp (Q+1+1) pa)=rp (Q+1+1+1) pa from mu_tk x3 (by decide)]
   rfl) (by
   obtain ⟨w,w1,w2⟩:=nx
   rw [wkG_tk w1]
   rcases w2 with (w2 |rfl |rfl |rfl |rfl |rfl |rfl) |rfl
   ·rw [w2];simp
   all_goals decide)
  rw [this];rfl
 have eB:wpB ws en (rp (p+1) pa)=(bC bd,rp (P+(catTo vs.len (vaW vs)).length+(bW bd).length) pa):=by
  unfold wpB
  rw [eV]
  exact body_rd hw en hb hN hle c3 c5
 constructor
 ·unfold wpZ
  rw [eB,eV,wnS_tk a1 k0];rfl
 ·unfold wpR
  rw [eB]
  show muR ws en cbB (rp _ pa)=_
  rw [show muR ws en cbB (rp (P+(catTo vs.len (vaW vs)).length+(bW bd).length) pa)=rp (P+(catTo vs.len (vaW vs)).length+(bW bd).length+1) pa from mu_tk c5 (by decide),el,hP']
  congr 1;omega
def chCE (d:D) (i:Nat):List D:=(chC0 (d.el i 0).toS (d.el i 1).toI (d.el i 2).toI (d.el i 3).toS (d.el i 4).toS (d.el i 5)).row
def ruCE (d:D) (i:Nat):List D:=(ruC0 (d.el i 0).toS (d.el i 1)).row
def prCE (d:D) (i:Nat):List D:=(prC0 (d.el i 0).toS (d.el i 1) (d.el i 2)).row
def chCd (d:D):D:=.l (rowsTo (chCE d) d.len)
def ruCd (d:D):D:=.l (rowsTo (ruCE d) d.len)
def prCd (d:D):D:=.l (rowsTo (prCE d) d.len)
theorem cat_head {ws:D} {p:Nat} {f:Nat->List ByteArray} {n:Nat} {w:ByteArray} (h:At ws p (catTo n f)) (hn:0<n) (hf:∀ i,∃ l,f i=w::l):TkA ws p w:=by
 obtain ⟨l,hl⟩:=hf 0
 have:=h.nth hn
 rw [hl] at this
 exact this.cons.1
theorem sy_rd {ws:D} (hw:ws.len<=1000000) (en:Int) {ch ru pr:D} (hA:syB ch ru pr=true) (hN:syN pr=true) {pa:Int} (hT:At ws 0 (syW ch ru pr)) (hl:ws.len=(syW ch ru pr).length) :
 wyC ws en (rp 0 pa)=(chCd ch,rp (catTo ch.len (chWE ch)).length pa)/\wyU ws en (rp 0 pa)=(ruCd ru,rp ((catTo ch.len (chWE ch)).length+(catTo ru.len (ruWE ru)).length) pa)/\wyP ws en (rp 0 pa)=(prCd pr,rp ws.len pa)/\wyR ws en (rp 0 pa)=rp ws.len pa:=by
 unfold syB at hA
 simp only [Bool.and_eq_true] at hA
 have h1:=allB_iff.1 hA.1
 have h2:=allB_iff.1 hA.2.1
 have h3:=allB_iff.1 hA.2.2
 have hN:=allB_iff.1 hN
 have el:ws.len=(catTo ch.len (chWE ch)).length+(catTo ru.len (ruWE ru)).length+(catTo pr.len (prWE pr)).length:=by
  rw [hl];unfold syW;simp only [List.length_append];omega
 obtain ⟨a1,b1⟩:=At.app (show At ws 0 (catTo ch.len (chWE ch)++(catTo ru.len (ruWE ru)++catTo pr.len (prWE pr))) from hT)
 obtain ⟨a2,a3⟩:=b1.app
 rw [Nat.zero_add] at a2 a3
 generalize hc1:(catTo ch.len (chWE ch)).length=C1 at *
 generalize hc2:(catTo ru.len (ruWE ru)).length=C2 at *
 generalize hc3:(catTo pr.len (prWE pr)).length=C3 at *
 have n2:∀ pa,wkG kwU ws (rp (C1+C2) pa)=false/\wkG kwC ws (rp (C1+C2) pa)=false:=fun pa=>by
  by_cases hz:pr.len=0
  ·have:C3=0:=by rw [<- hc3,hz];rfl
   exact ⟨isB_end (by omega) _,isB_end (by omega) _⟩
  ·have:=cat_head a3 (by omega) (w:=kwP) (fun i=>⟨_,rfl⟩)
   rw [wkG_tk this,wkG_tk this]
   exact ⟨by decide,by decide⟩
 have n1:∀ pa,wkG kwC ws (rp C1 pa)=false:=fun pa=>by
  by_cases hz:ru.len=0
  ·have:C2=0:=by rw [<- hc2,hz];rfl
   have:=(n2 pa).2
   rw [show C1+C2=C1 by omega] at this
   exact this
  ·have:=cat_head a2 (by omega) (w:=kwU) (fun i=>⟨_,rfl⟩)
   rw [wkG_tk this]
   decide
 have eC:wyC ws en (rp 0 pa)=(chCd ch,rp C1 pa):=by
  unfold wyC
  have:=seq_all (wy0_sq (ws:=ws) en) hw (f:=chWE ch) (g:=chCE ch) (n:=ch.len) (p:=0) (pa:=pa) (b:=[]) (fun i hi=>by have:=cat_mono (chWE ch) (show i<=ch.len by omega);omega) (fun i hi=>by
   rw [wkG_tk (At.cons (show At ws _ (kwC::_) from a1.nth hi)).1];decide) (fun i hi=>by
   obtain ⟨x1,x2⟩:=ch_rd (pa:=pa) hw en (h1 i hi) (a1.nth hi)
   unfold wyF0
   rw [gx_rp,x1,x2];rfl) (by rw [hc1,Nat.zero_add];exact n1 pa)
  rw [this,hc1,Nat.zero_add];rfl
 have eU:wyU ws en (rp 0 pa)=(ruCd ru,rp (C1+C2) pa):=by
  unfold wyU
  rw [eC]
  have:=seq_all (wy1_sq (ws:=ws) en) hw (f:=ruWE ru) (g:=ruCE ru) (n:=ru.len) (p:=C1) (pa:=pa) (b:=[]) (fun i hi=>by have:=cat_mono (ruWE ru) (show i<=ru.len by omega);omega) (fun i hi=>by
   rw [wkG_tk (At.cons (show At ws _ (kwU::_) from a2.nth hi)).1];decide) (fun i hi=>by
   obtain ⟨x1,x2⟩:=ru_rd (pa:=pa) hw en (h2 i hi) (a2.nth hi)
   unfold wyF1
   rw [gx_rp,x1,x2];rfl) (by rw [hc2];exact (n2 pa).1)
  rw [hc2] at this
  show seqA (wkG kwU ws) (wyF1 ws en) ws (.l []) (rp C1 pa)=_
  rw [this];rfl
 have eP:wyP ws en (rp 0 pa)=(prCd pr,rp ws.len pa):=by
  unfold wyP
  rw [eU]
  have:=seq_all (wy2_sq (ws:=ws) en) hw (f:=prWE pr) (g:=prCE pr) (n:=pr.len) (p:=C1+C2) (pa:=pa) (b:=[]) (fun i hi=>by have:=cat_mono (prWE pr) (show i<=pr.len by omega);omega) (fun i hi=>by
   rw [wkG_tk (At.cons (show At ws _ (kwP::_) from a3.nth hi)).1];decide) (fun i hi=>by
   have hx:=h3 i hi
   unfold prE at hx
   simp only [Bool.and_eq_true] at hx
   obtain ⟨x1,x2⟩:=pr_rd (pa:=pa) hw en hx.1.1 hx.1.2 hx.2 (hN i hi) (a3.nth hi)
   unfold wyF2
   rw [gx_rp,x1,x2];rfl) (by rw [hc3];exact isB_end (by omega) _)
  rw [hc3] at this
  show seqA (wkG kwP ws) (wyF2 ws en) ws (.l []) (rp (C1+C2) pa)=_
  rw [this,el];rfl
 refine ⟨eC,eU,eP,?_⟩
 unfold wyR
 rw [eP]
 exact if_neg (Int.lt_irrefl _)
end Go.Proofs.Ytbhbjhejkamlnaa.Sx.Z
namespace Go.Proofs.Ytbhbjhejkamlnaa.Sx.Z
open Go.RowKit
def Bd (r t:List UInt8):Prop:=t=[] ∨ (if alnU (r.headD 0)=true then alnU (t.headD 0)=false else t.headD 0≠61)
theorem aln_dig {b:UInt8} (h:alnU b=false):digU b=false/\letU b=false:=by
 unfold alnU at h
 simp only [Bool.or_eq_false_iff] at h
 exact ⟨h.2,h.1⟩
theorem getD_app {r t:List UInt8} {n:Nat} (hn:n<=r.length) (ht:t=[] ∨ alnU (t.headD 0)=false):letU ((r++t).getD n 0)=letU (r.getD n 0):=by
 rw [List.getD_eq_getElem?_getD,List.getD_eq_getElem?_getD]
 rcases Nat.lt_or_ge n r.length with hlt |hge
 ·rw [List.getElem?_append_left hlt]
 ·rw [List.getElem?_append_right hge,List.getElem?_eq_none hge,show n-r.length=0 from by omega]
  rcases ht with rfl |h
  ·rfl
  ·match t,h with
   | [],_=>rfl
   |b::t,h=>
    show letU b=letU 0
    rw [show letU b=false from (aln_dig h).2];decide
theorem wordE_ext {r t:List UInt8} (h0:0<r.length) (h:Bd r t):wordE (r++t)=wordE r:=by
 unfold wordE
 rw [headD_app h0]
 by_cases ha:alnU (r.headD 0)=true
 ·have ht:t=[] ∨ alnU (t.headD 0)=false:=by
   rcases h with h |h
   ·exact .inl h
   ·rw [if_pos ha] at h;exact .inr h
  have hA:=lenOf_app alnU t ht r
  have hD:=lenOf_app digU t (by rcases ht with h |h;exact .inl h;exact .inr (aln_dig h).1) r
  by_cases hl:letU (r.headD 0)=true
  ·rw [if_pos hl,if_pos hl]
   unfold nameE
   rw [hA,List.take_append_of_le_length (lenOf_le _ _)]
  ·rw [if_neg hl,if_neg hl]
   have hd:digU (r.headD 0)=true:=by
    unfold alnU at ha
    simp only [Bool.or_eq_true] at ha
    exact ha.resolve_left hl
   rw [if_pos hd,if_pos hd]
   unfold numE
   rw [hD,headD_app h0,getD_app (lenOf_le _ _) ht,List.take_append_of_le_length (lenOf_le _ _)]
 ·have hf:alnU (r.headD 0)=false:=by simpa using ha
  obtain ⟨hd,hl⟩:=aln_dig hf
  rw [hd,hl]
  simp only [Bool.false_eq_true,if_false]
  unfold sgnE sgnLen
  have he:eqNext (r++t)=eqNext r:=by
   match r,h0 with
   |a::b::r,_=>rfl
   | [a],_=>
     rcases h with rfl |h
     ·rfl
     ·rw [if_neg ha] at h
      match t,h with
      | [],_=>rfl
      |b::t,h=>
       show (b==61)=false
       exact beq_false_of_ne h
  rw [headD_app h0,he]
structure wOk (w:ByteArray):Prop where
 pos:0<w.data.toList.length
 gap:gapU (w.data.toList.headD 0)=false
 wrd:wordE w.data.toList = .ok (kOf w,w.data.toList.length,nOf w)
 len:w.data.toList.length<=30
def jn:List (ByteArray × List UInt8)->List UInt8
 | []=>[]
 |x::l=>x.1.data.toList++(x.2++jn l)
def fit:List (ByteArray × List UInt8)->Prop
 | []=>True
 |x::l=>wOk x.1/\(∀ b∈x.2,gapU b=true)/\Bd x.1.data.toList (x.2++jn l)/\fit l
theorem lexW_gaps':∀ (g r:List UInt8) (p:Nat) (acc:List Tok),(∀ b∈g,gapU b=true)->lexW (g++r) p acc=lexW r (p+g.length) acc
 | [],r,p,acc,_=>rfl
 |b::g,r,p,acc,h=>by
  rw [List.cons_append,lexW_gap (by simp) (show gapU ((b::(g++r)).headD 0)=true from h b (List.mem_cons_self ..)),List.drop_one,List.tail_cons,lexW_gaps' g r (p+1) acc (fun c hc=>h c (List.mem_cons_of_mem _ hc)),List.length_cons]
  congr 1;omega
structure Tks (ts:List Tok) (l:List ByteArray):Prop where
 tx:ts.map Tok.text=l
 kd:∀ t∈ts,t.kind=kOf t.text/\t.num=nOf t.text
theorem lex_jn:∀ (l:List (ByteArray × List UInt8)) (p:Nat) (acc:List Tok),fit l->∃ ts,lexW (jn l) p acc = .ok (acc++ts)/\Tks ts (l.map Prod.fst)
 | [],p,acc,_=>⟨[],by rw [List.append_nil];rfl,rfl,fun _ h=>by cases h⟩
 |x::l,p,acc,h=>by
  obtain ⟨h1,h2,h3,h4⟩:=h
  have e:wordE (x.1.data.toList++(x.2++jn l)) = .ok (kOf x.1,x.1.data.toList.length,nOf x.1):=by rw [wordE_ext h1.pos h3];exact h1.wrd
  obtain ⟨ts,t1,t2⟩:=lex_jn l (p+x.1.data.toList.length+x.2.length) (acc++[⟨kOf x.1,x.1,nOf x.1,p⟩]) h4
  refine ⟨⟨kOf x.1,x.1,nOf x.1,p⟩::ts,?_,?_,fun t ht=>?_⟩
  ·show lexW (x.1.data.toList++(x.2++jn l)) p acc=_
   rw [lexW_word (by rw [List.length_append];have:=h1.pos;omega) (by rw [headD_app h1.pos];exact h1.gap) e,List.drop_left',List.take_left',lexW_gaps' _ _ _ _ h2]
   ·rw [show (ofL x.1.data.toList)=x.1 from rfl,t1,List.append_assoc];rfl
   ·rfl
   ·rfl
  ·rw [List.map_cons,List.map_cons,t2.tx]
  ·rcases List.mem_cons.1 ht with rfl |ht
   ·exact ⟨rfl,rfl⟩
   ·exact t2.kd t ht
theorem lexR_jn {s:ByteArray} {l:List (ByteArray × List UInt8)} (hs:s.data.toList=jn l) (hf:fit l) (hl:l.length<=2000):∃ ts,lexR s=(ts,0,0)/\Tks ts (l.map Prod.fst):=by
 obtain ⟨ts,t1,t2⟩:=lex_jn l 0 [] hf
 rw [List.nil_append] at t1
 refine ⟨ts,?_,t2⟩
 have hn:ts.length=l.length:=by
  have:=congrArg List.length t2.tx
  simpa using this
 rw [lexR_lexF,hs]
 unfold Go.Proofs.Ytbhbjhejkamlnaa.lexF
 rw [t1]
 show (if 2000<ts.length then _ else _)=_
 rw [if_neg (by omega)]
theorem Tks.at {ts:List Tok} {l:List ByteArray} (h:Tks ts l):At (tokD ts) 0 l/\(tokD ts).len=l.length:=by
 have hn:ts.length=l.length:=by
  have:=congrArg List.length h.tx
  simpa using this
 refine ⟨fun j hj=>?_,by rw [tokD_len,hn]⟩
 have hj2:j<ts.length:=by omega
 have ht:ts[j]? = some ts[j]:=List.getElem?_eq_getElem hj2
 have hx:(ts[j]).text=l[j]:=by
  have:=h.tx
  subst this
  simp
 obtain ⟨k1,k2⟩:=h.kd ts[j] (List.getElem_mem hj2)
 rw [Nat.zero_add]
 refine ⟨by rw [tokD_len];exact hj2,?_,?_,?_⟩
 ·rw [tokD_el ht];exact hx
 ·rw [tokD_el ht,<- hx];exact k1
 ·rw [tokD_el ht,<- hx];exact k2
theorem toks_rd {s:ByteArray} {ts:List Tok} (t1:lexR s=(ts,0,0)) {ch ru pr:D} (t2:Tks ts (syW ch ru pr)) (hl:(syW ch ru pr).length<=2000) (hA:syB ch ru pr=true) (hN:syN pr=true) :
 rpC s=chCd ch/\rpU s=ruCd ru/\rpP s=prCd pr/\rpA s=0/\rpE s=0:=by
 obtain ⟨a1,a2⟩:=t2.at
 have hw:(tokD ts).len<=1000000:=by rw [a2];omega
 have eW:paW s=tokD ts:=by unfold paW;rw [t1]
 obtain ⟨r1,r2,r3,r4⟩:=sy_rd hw (s.size:Nat) hA hN (pa:=0) a1 a2
 have hl0:(lexR s).2.2=0:=by rw [t1]
 have hY:rpY s=rp (tokD ts).len 0:=by
  unfold rpY
  rw [eW];exact r4
 obtain ⟨g1,g2,g3,g4,g5⟩:=rp_good hl0 hY rfl
 rw [eW] at g1 g2 g3
 refine ⟨?_,?_,?_,g4,g5⟩
 ·rw [g1];exact congrArg Prod.fst r1
 ·rw [g2];exact congrArg Prod.fst r2
 ·rw [g3];exact congrArg Prod.fst r3
theorem text_rd {s:ByteArray} {l:List (ByteArray × List UInt8)} (hs:s.data.toList=jn l) (hf:fit l) (hl:l.length<=2000) {ch ru pr:D} (hA:syB ch ru pr=true) (hN:syN pr=true) (hW:l.map Prod.fst=syW ch ru pr) :
 rpC s=chCd ch/\rpU s=ruCd ru/\rpP s=prCd pr/\rpA s=0/\rpE s=0:=by
 obtain ⟨ts,t1,t2⟩:=lexR_jn hs hf hl
 rw [hW] at t2
 exact toks_rd t1 t2 (by rw [<- hW,List.length_map];exact hl) hA hN
end Go.Proofs.Ytbhbjhejkamlnaa.Sx.Z
namespace Go.Proofs.Ytbhbjhejkamlnaa.Sx.Z
open Go.RowKit
def alW (l:List ByteArray):Prop:=∀ w∈l,wOk w
theorem alW.nil:alW []:=fun _ h=>by cases h
theorem alW.cons {a:ByteArray} {l:List ByteArray} (h:wOk a) (hl:alW l):alW (a::l):=fun w hw=>by
 rcases List.mem_cons.1 hw with rfl |hw
 ·exact h
 ·exact hl w hw
theorem alW.app {l m:List ByteArray} (h:alW l) (hm:alW m):alW (l++m):=fun w hw=>by
 rcases List.mem_append.1 hw with hw |hw
 ·exact h w hw
 ·exact hm w hw
theorem alW.cat {n:Nat} {f:Nat->List ByteArray} (h:∀ i,i<n->alW (f i)):alW (catTo n f):=by
 induction n with
 |zero=>exact .nil
 |succ n ih=>
  rw [catTo_succ]
  exact .app (ih fun i hi=>h i (by omega)) (h n (by omega))
theorem word_gap {r:List UInt8} {k m:Int} {n:Nat} (h:wordE r = .ok (k,n,m)) (_h0:0<r.length):gapU (r.headD 0)=false:=by
 cases hg:gapU (r.headD 0) with
 |false=>rfl
 |true=>
  exfalso
  unfold wordE at h
  rcases gap_cases hg with e |e<;>rw [e] at h
  ·rw [if_neg (by decide),if_neg (by decide)] at h
   unfold sgnE sgnLen at h
   rw [e,show sgnB ((32:UInt8).toNat:Int) (eqNext r)=0 from rfl] at h
   cases h
  ·rw [if_neg (by decide),if_neg (by decide)] at h
   unfold sgnE sgnLen at h
   rw [e,show sgnB ((10:UInt8).toNat:Int) (eqNext r)=0 from rfl] at h
   cases h
theorem nm_full {s:ByteArray} (h:nmB s=true):∃ m,wordE s.data.toList = .ok (1,s.data.toList.length,m)/\0<s.data.toList.length:=by
 unfold nmB at h
 simp only [Bool.and_eq_true,beq_iff_eq] at h
 obtain ⟨_,⟨⟨h1,h2⟩,h3⟩,h4⟩:=h
 have h2:((lexR s).1.length:Int)=1:=by rw [tokD_len] at h2;exact h2
 obtain ⟨t,ht⟩:∃ t,(lexR s).1=[t]:=List.length_eq_one_iff.1 (by omega)
 rw [ht] at h3 h4
 have h3:t.kind=1:=h3
 have h4:t.text.toList=s.toList:=h4
 have h4:t.text=s:=by
  rw [ByteArray.toList_eq,ByteArray.toList_eq] at h4
  exact ByteArray.ext (Array.toList_inj.1 h4)
 cases hg:lexGo s s.size 0 [] with
 |error x=>
  obtain ⟨p,e⟩:=x
  rw [lexR_err hg rfl] at ht
  cases ht
 |ok acc=>
  by_cases hl:2000<acc.length
  ·rw [lexR_long hg rfl hl] at ht
   cases ht
  ·rw [lexR_ok hg rfl (by omega)] at ht
   have ht:acc=[t]:=ht
   have h0:0<s.size:=by
    rcases Nat.eq_zero_or_pos s.size with hz |hz
    ·rw [hz] at hg
     have:acc=[]:=by cases hg;rfl
     rw [this] at ht;cases ht
    ·exact hz
   obtain ⟨q,q1,q2⟩:=tok_nx s s.size 0 [] acc (Nat.zero_le _) (fun _ h=>by cases h) hg t (by rw [ht];exact List.mem_singleton.2 rfl)
   rw [h4] at q1
   have q0:q=0:=by omega
   rw [q0,List.drop_zero,h3,h4] at q2
   exact ⟨t.num,q2,h0⟩
theorem wOk_of {w:ByteArray} {k m:Int} (h:wordE w.data.toList = .ok (k,w.data.toList.length,m)) (h0:0<w.data.toList.length) (hl:w.data.toList.length<=30):wOk w:=by
 obtain ⟨e1,e2⟩:=kOf_eq h
 exact ⟨h0,word_gap h h0,(by rw [e1,e2];exact h),hl⟩
theorem nm_ok {s:ByteArray} (h:nmB s=true):wOk s:=by
 obtain ⟨m,h1,h2⟩:=nm_full h
 refine wOk_of h1 h2 ?_
 unfold nmB at h
 simp only [Bool.and_eq_true,Bool.not_eq_true',decide_eq_false_iff_not] at h
 have:=h.1
 have e:s.data.toList.length=s.size:=rfl
 omega
theorem nu_ok {n:Int} (h:nuB n=true):wOk (itW n):=by
 have hx:=nu_full h
 refine wOk_of hx.1 hx.2 ?_
 unfold nuB at h
 simp only [Bool.and_eq_true,decide_eq_true_eq] at h
 have:(itW n).size<=21:=Lib.itoa_length_le n (by omega) (by omega)
 have e:(itW n).data.toList.length=(itW n).size:=rfl
 omega
theorem li {w:ByteArray} {k m:Int} (h:wordE w.data.toList = .ok (k,w.data.toList.length,m)) (h0:0<w.data.toList.length) (hl:w.data.toList.length<=30:=by decide):wOk w:=wOk_of h h0 hl
theorem li_mi:wOk ⟨#[45]⟩:=li (k:=3) (m:=0) rfl (by decide)
theorem li_op:wOk ⟨#[40]⟩:=li (k:=3) (m:=0) rfl (by decide)
theorem li_cl:wOk ⟨#[41]⟩:=li (k:=3) (m:=0) rfl (by decide)
theorem li_ob:wOk ⟨#[123]⟩:=li (k:=3) (m:=0) rfl (by decide)
theorem li_cb:wOk ⟨#[125]⟩:=li (k:=3) (m:=0) rfl (by decide)
theorem li_se:wOk ⟨#[59]⟩:=li (k:=3) (m:=0) rfl (by decide)
theorem li_eq:wOk ⟨#[61]⟩:=li (k:=3) (m:=0) rfl (by decide)
theorem li_do:wOk ⟨#[46]⟩:=li (k:=3) (m:=0) rfl (by decide)
theorem li_co:wOk ⟨#[44]⟩:=li (k:=3) (m:=0) rfl (by decide)
theorem li_bi (k:Int):wOk (biW k):=by
 unfold biW
 split
 ·exact li (k:=3) (m:=0) rfl (by decide)
 ·split
  ·exact li (k:=3) (m:=0) rfl (by decide)
  ·split
   ·exact li (k:=3) (m:=0) rfl (by decide)
   ·split
    ·exact li (k:=3) (m:=0) rfl (by decide)
    ·exact li (k:=3) (m:=0) rfl (by decide)
theorem li_cm (k:Int):wOk (cmW k):=by
 unfold cmW
 split
 ·exact li (k:=3) (m:=0) rfl (by decide)
 ·split
  ·exact li (k:=3) (m:=0) rfl (by decide)
  ·split
   ·exact li (k:=3) (m:=0) rfl (by decide)
   ·split
    ·exact li (k:=3) (m:=0) rfl (by decide)
    ·split
     ·exact li (k:=3) (m:=0) rfl (by decide)
     ·exact li (k:=3) (m:=0) rfl (by decide)
theorem li_ch (k:Int):wOk (chW k):=by
 unfold chW
 split
 ·exact li (k:=4) (m:=0) rfl (by decide)
 ·split
  ·exact li (k:=4) (m:=0) rfl (by decide)
  ·exact li (k:=4) (m:=0) rfl (by decide)
theorem kw_if:wOk ⟨#[105,102]⟩:=li (k:=4) (m:=0) rfl (by decide)
theorem kw_else:wOk ⟨#[101,108,115,101]⟩:=li (k:=4) (m:=0) rfl (by decide)
theorem kw_while:wOk ⟨#[119,104,105,108,101]⟩:=li (k:=4) (m:=0) rfl (by decide)
theorem kw_send:wOk ⟨#[115,101,110,100]⟩:=li (k:=4) (m:=0) rfl (by decide)
theorem kw_recv:wOk ⟨#[114,101,99,118]⟩:=li (k:=4) (m:=0) rfl (by decide)
theorem kw_assert:wOk ⟨#[97,115,115,101,114,116]⟩:=li (k:=4) (m:=0) rfl (by decide)
theorem kw_input:wOk ⟨#[105,110,112,117,116]⟩:=li (k:=4) (m:=0) rfl (by decide)
theorem kw_chan:wOk ⟨#[99,104,97,110]⟩:=li (k:=4) (m:=0) rfl (by decide)
theorem kw_from:wOk ⟨#[102,114,111,109]⟩:=li (k:=4) (m:=0) rfl (by decide)
theorem kw_to:wOk ⟨#[116,111]⟩:=li (k:=4) (m:=0) rfl (by decide)
theorem kw_rule:wOk ⟨#[114,117,108,101]⟩:=li (k:=4) (m:=0) rfl (by decide)
theorem kw_var:wOk ⟨#[118,97,114]⟩:=li (k:=4) (m:=0) rfl (by decide)
theorem kw_proc:wOk ⟨#[112,114,111,99]⟩:=li (k:=4) (m:=0) rfl (by decide)
theorem par_al {b:Bool} {l:List ByteArray} (h:alW l):alW (par b l):=by
 cases b with
 |false=>exact h
 |true=>exact .cons li_op (.app h (.cons li_cl .nil))
theorem xW_al {k n:Int} {s:ByteArray} {d:D} (h:aX k n s d=true):alW (xW k n s d):=by
 refine ex_ind (P:=fun k n s d=>alW (xW k n s d)) ?_ ?_ ?_ ?_ h
 ·intro n s d hn
  exact .cons (nu_ok hn) .nil
 ·intro n s d hn
  exact .cons (nm_ok hn) .nil
 ·intro n s d hl ih
  rw [xW_3 n s (by omega)]
  exact .cons li_mi (par_al ih)
 ·intro k n s d hb hl ih0 ih1
  rw [xW_4 n s hb (by omega)]
  exact .app (par_al ih0) (.cons (li_bi k) (par_al ih1))
theorem cW_al {op lk ln:Int} {ls:ByteArray} {ld:D} {rk rn:Int} {rs:ByteArray} {rd:D} (h:aC op lk ln ls ld rk rn rs rd=true):alW (cW op lk ln ls ld rk rn rs rd):=by
 have:=aC_two h
 exact .cons li_op (.app (xW_al this.1) (.cons (li_cm op) (.app (xW_al this.2) (.cons li_cl .nil))))
theorem blW_al {l:List ByteArray} (h:alW l):alW (blW l):=.cons li_ob (.app h (.cons li_cb .nil))
theorem st_al {k:Int} {nm tg:ByteArray} {ek en:Int} {es:ByteArray} {ed:D} {op lk ln:Int} {ls:ByteArray} {ld:D} {rk rn:Int} {rs:ByteArray} {rd bd eb am:D}
 (Hb:bA bd=true->alW (bW bd)) (He:bA eb=true->alW (bW eb)) (Ha:∀ j,j<am.len->bA (am.el j 2)=true->alW (bW (am.el j 2))) (hA:stA k nm tg ek en es ed op lk ln ls ld rk rn rs rd bd eb am=true):alW (stW k nm tg ek en es ed op lk ln ls ld rk rn rs rd bd eb am):=by
 have hA:aStF k nm tg (aX ek en es ed) (aC op lk ln ls ld rk rn rs rd) (bA bd) (bA eb) am.len (amsA am)=true:=hA
 rcases stA_k hA with rfl |rfl |rfl |rfl |rfl |rfl |rfl
 ·have hA:(nmB nm&&aX ek en es ed)=true:=hA
  simp only [Bool.and_eq_true] at hA
  exact .cons (nm_ok hA.1) (.cons li_eq (.app (xW_al hA.2) (.cons li_se .nil)))
 ·have hA:(aC op lk ln ls ld rk rn rs rd&&bA bd&&bA eb)=true:=hA
  simp only [Bool.and_eq_true] at hA
  refine .cons kw_if (.app (cW_al hA.1.1) (.app (blW_al (Hb hA.1.2)) ?_))
  split
  ·exact .cons kw_else (blW_al (He hA.2))
  ·exact .nil
 ·have hA:(aC op lk ln ls ld rk rn rs rd&&bA bd)=true:=hA
  simp only [Bool.and_eq_true] at hA
  exact .cons kw_while (.app (cW_al hA.1) (blW_al (Hb hA.2)))
 ·have hA:(nmB nm&&nmB tg&&aX ek en es ed)=true:=hA
  simp only [Bool.and_eq_true] at hA
  exact .cons kw_send (.cons (nm_ok hA.1.1) (.cons li_do (.cons (nm_ok hA.1.2) (.cons li_op (.app (xW_al hA.2) (.cons li_cl (.cons li_se .nil)))))))
 ·have hA:(nmB nm&&decide ((am.len:Int)>0)&&amsA am)=true:=hA
  simp only [Bool.and_eq_true] at hA
  have hq:=allB_iff.1 hA.2
  refine .cons kw_recv (.cons (nm_ok hA.1.1) (.cons li_ob (.app (.cat fun j hj=>?_) (.cons li_cb .nil))))
  have h1:=hq j hj
  unfold arE at h1
  simp only [Bool.and_eq_true] at h1
  exact .cons (nm_ok h1.1.1) (.cons li_op (.cons (nm_ok h1.1.2) (.cons li_cl (blW_al (Ha j hj h1.2)))))
 ·have hA:aC op lk ln ls ld rk rn rs rd=true:=hA
  exact .cons kw_assert (.app (cW_al hA) (.cons li_se .nil))
 ·have hA:nmB nm=true:=hA
  exact .cons kw_input (.cons (nm_ok hA) (.cons li_se .nil))
theorem bW_al:∀ (z:Nat) (d:D),SizeOf.sizeOf d<=z->bA d=true->alW (bW d):=by
 intro z
 induction z with
 |zero=>intro d hz;cases d<;>simp at hz
 |succ z ih=>
  intro d hz hA
  rw [bA_eq] at hA
  have hA:=allB_iff.1 hA
  rw [bW_eq]
  refine .cat fun i hi=>?_
  have kid:∀ j,bA (d.el i j)=true->alW (bW (d.el i j)):=fun j h=>by
   have:=lel_lt (j:=j) hi
   exact ih _ (by omega) h
  have kid2:∀ j,j<(d.el i 18).len->bA ((d.el i 18).el j 2)=true->alW (bW ((d.el i 18).el j 2)):=fun j hj h=>by
   have h1:=lel_lt (j:=18) hi
   have h2:=lel_lt (j:=2) hj
   exact ih _ (by omega) h
  exact st_al (kid 16) (kid 17) kid2 (hA i hi)
theorem syW_al {ch ru pr:D} (hA:syB ch ru pr=true):alW (syW ch ru pr):=by
 unfold syB at hA
 simp only [Bool.and_eq_true] at hA
 have h1:=allB_iff.1 hA.1
 have h2:=allB_iff.1 hA.2.1
 have h3:=allB_iff.1 hA.2.2
 refine .app (.cat fun i hi=>?_) (.app (.cat fun i hi=>?_) (.cat fun i hi=>?_))
 ·have hx:=h1 i hi
  unfold chE chB at hx
  simp only [Bool.and_eq_true,decide_eq_true_eq] at hx
  obtain ⟨⟨⟨⟨⟨⟨⟨x1,x2⟩,x3⟩,x4⟩,x5⟩,x6⟩,x7⟩,x8⟩:=hx
  have x8:=allB_iff.1 x8
  refine .app (.cons kw_chan (.cons (nm_ok x1) (.cons (li_ch _) (.cons (nu_ok x4) (.cons kw_from (.cons (nm_ok x5) (.cons kw_to (.cons (nm_ok x6) (.cons li_ob .nil))))))))) (.app (.cat fun j hj=>?_) (.cons li_cb (.cons li_se .nil)))
  unfold tgW
  split
  ·exact .cons li_co (.cons (nm_ok (x8 j hj)) .nil)
  ·exact .cons (nm_ok (x8 j hj)) .nil
 ·have hx:=h2 i hi
  unfold ruE ruB at hx
  simp only [Bool.and_eq_true] at hx
  have hm:=allB_iff.1 hx.1
  refine .app (.cons kw_rule (.cons (nm_ok hx.2) (.cons li_ob .nil))) (.app (.cat fun j hj=>?_) (.cons li_cb .nil))
  have hy:=hm j hj
  unfold mvE at hy
  simp only [Bool.and_eq_true] at hy
  exact .cons (nu_ok hy.1.1) (.cons (nm_ok hy.1.2) (.cons (nu_ok hy.2) (.cons li_se .nil)))
 ·have hx:=h3 i hi
  unfold prE at hx
  simp only [Bool.and_eq_true] at hx
  have hv:=allB_iff.1 hx.1.2
  exact .app (.cons kw_proc (.cons (nm_ok hx.1.1) (.cons li_ob .nil))) (.app (.cat fun j hj=>.cons kw_var (.cons (nm_ok (hv j hj)) (.cons li_se .nil))) (.app (bW_al _ _ (Nat.le_refl _) hx.2) (.cons li_cb .nil)))
theorem fit_gaps:∀ (l:List (ByteArray × List UInt8)),(∀ x∈l,wOk x.1/\(∀ b∈x.2,gapU b=true)/\x.2≠[])->fit l
 | [],_=>trivial
 |x::l,h=>by
  obtain ⟨h1,h2,h3⟩:=h x (List.mem_cons_self ..)
  refine ⟨h1,h2,.inr ?_,fit_gaps l fun y hy=>h y (List.mem_cons_of_mem _ hy)⟩
  cases hx:x.2 with
  |nil=>exact absurd hx h3
  |cons b g=>
   rw [hx] at h2
   have hb:=gap_cases (h2 b (List.mem_cons_self ..))
   show if alnU (x.1.data.toList.headD 0)=true then alnU b=false else b≠61
   split<;>rcases hb with e |e<;>rw [e]<;>decide
end Go.Proofs.Ytbhbjhejkamlnaa.Sx.Z
namespace Go.Proofs.Ytbhbjhejkamlnaa
open Go.RowKit
theorem rlet_any (n:Int) (w:World):Calls Try.prog 42 #[.int .u8 n] w fun e w'=>e = .returned (.bool (letB n))/\w=w':=by
 unfold letB
 go_enter Try.func42,Try.ntmps42
 go_wp2
 all_goals
  go_ret
  exact ⟨by first |(simp [*];done) |(simp [*];omega),rfl⟩
theorem rdig_any (n:Int) (w:World):Calls Try.prog 43 #[.int .u8 n] w fun e w'=>e = .returned (.bool (digB n))/\w=w':=by
 unfold digB
 go_enter Try.func43,Try.ntmps43
 go_wp2
 all_goals
  go_ret
  exact ⟨by first |(simp [*];done) |(simp [*];omega),rfl⟩
def resW:List ByteArray:=[⟨#[99,104,97,110]⟩,⟨#[98,108,111,99,107]⟩,⟨#[100,114,111,112]⟩,⟨#[108,111,115,115,121]⟩,⟨#[102,114,111,109]⟩,⟨#[116,111]⟩,
 ⟨#[114,117,108,101]⟩,⟨#[112,114,111,99]⟩,⟨#[118,97,114]⟩,⟨#[105,102]⟩,⟨#[101,108,115,101]⟩,⟨#[119,104,105,108,101]⟩,
 ⟨#[115,101,110,100]⟩,⟨#[114,101,99,118]⟩,⟨#[97,115,115,101,114,116]⟩,⟨#[105,110,112,117,116]⟩]
def resCells:Array Value:=(resW.map Value.string).toArray
theorem resB_any (s:ByteArray):resB s.toList=resW.any fun x=>x.toList==s.toList:=by
 rw [Bool.eq_iff_iff]
 simp only [resW,resB,List.any_cons,List.any_nil,Bool.or_false,Bool.or_eq_true,beq_iff_eq,Lib.toList_data]
 simp only [or_assoc,eq_comm (b:=s.data.toList)]
theorem rwords_any (w:World):Calls Try.prog 74 #[] w fun e w'=>e = .returned (.slice (some ⟨w.heap.size,0,none⟩) 16 16)/\w.alloc (.cells resCells 9)=w':=by
 go_enter Try.func74,Try.ntmps74
 go_wp2
 go_ret
 exact ⟨rfl,rfl⟩
def NoneOf (s:ByteArray) (k:Nat):Prop:=∀ j,j<k->((resW.getD j ⟨#[]⟩).toList==s.toList)=false
set_option maxHeartbeats 1000000 in
theorem rres_any (s:ByteArray) (w:World):Calls Try.prog 44 #[.string s] w fun e w'=>e = .returned (.bool (resB s.toList))/\Below w.heap.size w w':=by
 have hcells:∀ k,k<16->(w.alloc (.cells resCells 9)).cell? ⟨w.heap.size,k,none⟩=some (.string (resW.getD k ⟨#[]⟩)):=by
  intro k hk
  have h:=cell_of_row (w.alloc (.cells resCells 9)) w.heap.size k resCells 9 (0,0) (heap_alloc_new w _)
  rw [h]
  match k,hk with
  | 0,_=>rfl
  | 1,_=>rfl
  | 2,_=>rfl
  | 3,_=>rfl
  | 4,_=>rfl
  | 5,_=>rfl
  | 6,_=>rfl
  | 7,_=>rfl
  | 8,_=>rfl
  | 9,_=>rfl
  | 10,_=>rfl
  | 11,_=>rfl
  | 12,_=>rfl
  | 13,_=>rfl
  | 14,_=>rfl
  | 15,_=>rfl
  |n+16,h=>omega
 have hb:Below w.heap.size w (w.alloc (.cells resCells 9)):=(Below.refl _ _).alloc (Nat.le_refl _) _
 have Hcells:=Lib.hid hcells
 clear hcells
 go_enter Try.func44,Try.ntmps44
 go_wp2_with (go_at_call 74;refine (rwords_any _).mono ?_;rintro e w1 ⟨rfl,hw1⟩)
 generalize hW:w.alloc (.cells resCells 9)=W at *
 subst hw1
 clear hW
 go_loop [4] (fun i=>∃ k:Nat,k<=16/\NoneOf s k/\i = .int .i64 k) (fun i=>16-(intOf i).toNat)
 case atStart=>exact ⟨0,by omega,fun j h=>by omega,rfl⟩
 case round=>
  obtain ⟨k,hk,hnone,rfl⟩:=hrel
  by_cases hlt:k<16
  ·have hc:=Hcells.out k hlt
   rcases Bool.eq_false_or_eq_true ((resW.getD k ⟨#[]⟩).toList==s.toList) with he |he
   ·have Hfin:=Lib.hid (show resB s.toList=true by
     rw [resB_any,List.any_eq_true]
     have hl:k<resW.length:=hlt
     exact ⟨resW.getD k ⟨#[]⟩,by rw [List.getD_eq_getElem?_getD,List.getElem?_eq_getElem hl];exact List.getElem_mem _,he⟩)
    generalize resW.getD k ⟨#[]⟩=x at *
    go_wp2_with fail
    go_ret
    exact ⟨by rw [Hfin.out];rfl,hb⟩
   ·have hnone':NoneOf s (k+1):=fun j hj=>by
     rcases Nat.lt_or_ge j k with h |h
     ·exact hnone j h
     ·rw [show j=k from by omega];exact he
    generalize resW.getD k ⟨#[]⟩=x at *
    go_wp2_with fail
    go_round
    case rel=>exact ⟨k+1,by omega,hnone',by go_num⟩
    case measure=>simp [intOf];omega
  ·have Hfin:=Lib.hid (show resB s.toList=false by
    rw [resB_any,List.any_eq_false]
    intro x hx
    obtain ⟨j,hj,rfl⟩:=List.getElem_of_mem hx
    have h1:=hnone j (by have:resW.length=16:=rfl;omega)
    rw [List.getD_eq_getElem?_getD,List.getElem?_eq_getElem hj] at h1
    simpa using h1)
   go_wp2_with fail
   go_ret
   exact ⟨by rw [Hfin.out];rfl,hb⟩
end Go.Proofs.Ytbhbjhejkamlnaa
namespace Go.Proofs.Ytbhbjhejkamlnaa
open Go.RowKit
theorem below_drewN {B:Nat} {a w:World} (h:Below B a w) (n:Nat):Below B a (w.drewN n):=⟨h.os,h.tape,h.output,h.size,h.block⟩
theorem lexR_len {s:ByteArray} {acc:List Tok} (h:lexR s=(acc,0,0)):acc.length<=2000:=by
 unfold lexR at h
 split at h
 ·injection h with h _
  subst h
  exact Nat.zero_le _
 ·split at h
  ·injection h with h _
   subst h
   exact Nat.zero_le _
  ·injection h with h _
   subst h
   omega
end Go.Proofs.Ytbhbjhejkamlnaa
namespace Go.Proofs.Ytbhbjhejkamlnaa
open Go.RowKit
def twoW:List ByteArray:=[⟨#[61,61]⟩,⟨#[33,61]⟩,⟨#[60,61]⟩,⟨#[62,61]⟩]
def twoCells:Array Value:=(twoW.map Value.string).toArray
def oneL:List UInt8:=[123,125,40,41,59,44,46,61,60,62,43,45,42,47,37]
theorem u8_int (a:UInt8) (n:UInt8):((a.toNat:Int)=(n.toNat:Int))↔a=n:=by
 constructor
 ·intro h;exact UInt8.toNat_inj.1 (by omega)
 ·rintro rfl;rfl
theorem sgnB_u8 (a:UInt8) (p:Bool):sgnB (a.toNat:Int) p =
 if a=61 ∨ a=60 ∨ a=62 then (if p then 2 else 1) else if a=33 then (if p then 2 else 0)
 else if a=123 ∨ a=125 ∨ a=40 ∨ a=41 ∨ a=59 ∨ a=44 ∨ a=46 ∨ a=43 ∨ a=45 ∨ a=42 ∨ a=47 ∨ a=37 then 1 else 0:=by
 unfold sgnB
 have h:∀ n:UInt8,((a.toNat:Int)=(n.toNat:Int))=(a=n):=fun n=>propext (u8_int a n)
 have e:((a.toNat:Int)=61)=(a=61):=h 61
 have e1:((a.toNat:Int)=60)=(a=60):=h 60
 have e2:((a.toNat:Int)=62)=(a=62):=h 62
 have e3:((a.toNat:Int)=33)=(a=33):=h 33
 have e4:((a.toNat:Int)=123)=(a=123):=h 123
 have e5:((a.toNat:Int)=125)=(a=125):=h 125
 have e6:((a.toNat:Int)=40)=(a=40):=h 40
 have e7:((a.toNat:Int)=41)=(a=41):=h 41
 have e8:((a.toNat:Int)=59)=(a=59):=h 59
 have e9:((a.toNat:Int)=44)=(a=44):=h 44
 have e10:((a.toNat:Int)=46)=(a=46):=h 46
 have e11:((a.toNat:Int)=43)=(a=43):=h 43
 have e12:((a.toNat:Int)=45)=(a=45):=h 45
 have e13:((a.toNat:Int)=42)=(a=42):=h 42
 have e14:((a.toNat:Int)=47)=(a=47):=h 47
 have e15:((a.toNat:Int)=37)=(a=37):=h 37
 simp only [e,e1,e2,e3,e4,e5,e6,e7,e8,e9,e10,e11,e12,e13,e14,e15]
theorem sgn_yes (r:List UInt8) (j:Nat) (hj:j<4) (h:r.take 2=(twoW.getD j ⟨#[]⟩).data.toList):sgnLen r=2:=by
 have hr:∃ a t,r=a::61::t/\(a=61 ∨ a=33 ∨ a=60 ∨ a=62):=by
  match r,j,hj with
  | [],0,_=>cases h
  | [],1,_=>cases h
  | [],2,_=>cases h
  | [],3,_=>cases h
  | [a],0,_=>cases h
  | [a],1,_=>cases h
  | [a],2,_=>cases h
  | [a],3,_=>cases h
  |a::b::t,0,_=>
   have h : [a,b]=[61,61]:=h
   simp at h;obtain ⟨rfl,rfl⟩:=h;exact ⟨_,t,rfl,.inl rfl⟩
  |a::b::t,1,_=>
   have h : [a,b]=[33,61]:=h
   simp at h;obtain ⟨rfl,rfl⟩:=h;exact ⟨_,t,rfl,.inr (.inl rfl)⟩
  |a::b::t,2,_=>
   have h : [a,b]=[60,61]:=h
   simp at h;obtain ⟨rfl,rfl⟩:=h;exact ⟨_,t,rfl,.inr (.inr (.inl rfl))⟩
  |a::b::t,3,_=>
   have h : [a,b]=[62,61]:=h
   simp at h;obtain ⟨rfl,rfl⟩:=h;exact ⟨_,t,rfl,.inr (.inr (.inr rfl))⟩
  |_,j+4,h=>omega
 obtain ⟨a,t,rfl,ha⟩:=hr
 show sgnB (a.toNat:Int) ((61:UInt8)==61)=2
 rw [sgnB_u8]
 rcases ha with rfl |rfl |rfl |rfl<;>decide
theorem sgn_no (r:List UInt8) (h0:0<r.length) (h:∀ j,j<4->r.take 2≠(twoW.getD j ⟨#[]⟩).data.toList):sgnLen r=if r.headD 0∈oneL then 1 else 0:=by
 have key:∀ a:UInt8,sgnB (a.toNat:Int) false=if a∈oneL then 1 else 0:=by
  intro a
  rw [sgnB_u8]
  simp only [oneL,List.mem_cons,List.not_mem_nil,or_false,Bool.false_eq_true,if_false]
  by_cases h1:a=61 ∨ a=60 ∨ a=62
  ·rw [if_pos h1,if_pos (by rcases h1 with h |h |h<;>simp [h])]
  ·rw [if_neg h1]
   by_cases h2:a=33
   ·subst h2;decide
   ·rw [if_neg h2]
    have e:(a=123 ∨ a=125 ∨ a=40 ∨ a=41 ∨ a=59 ∨ a=44 ∨ a=46 ∨ a=43 ∨ a=45 ∨ a=42 ∨ a=47 ∨ a=37)↔(a=123 ∨ a=125 ∨ a=40 ∨ a=41 ∨ a=59 ∨ a=44 ∨ a=46 ∨ a=61 ∨ a=60 ∨ a=62 ∨ a=43 ∨ a=45 ∨ a=42 ∨ a=47 ∨ a=37):=by
     have n1:a≠61:=fun e=>h1 (.inl e)
     have n2:a≠60:=fun e=>h1 (.inr (.inl e))
     have n3:a≠62:=fun e=>h1 (.inr (.inr e))
     simp [n1,n2,n3]
    by_cases h3:(a=123 ∨ a=125 ∨ a=40 ∨ a=41 ∨ a=59 ∨ a=44 ∨ a=46 ∨ a=43 ∨ a=45 ∨ a=42 ∨ a=47 ∨ a=37)
    ·rw [if_pos h3,if_pos (e.1 h3)]
    ·rw [if_neg h3,if_neg (fun hx=>h3 (e.2 hx))]
 match r,h0 with
 | [a],_=>exact key a
 |a::b::t,_=>
  show sgnB (a.toNat:Int) (b==61)=if a∈oneL then 1 else 0
  by_cases hb:b=61
  ·subst hb
   have m0:a≠61:=fun e=>h 0 (by omega) (by rw [e];rfl)
   have m1:a≠33:=fun e=>h 1 (by omega) (by rw [e];rfl)
   have m2:a≠60:=fun e=>h 2 (by omega) (by rw [e];rfl)
   have m3:a≠62:=fun e=>h 3 (by omega) (by rw [e];rfl)
   rw [<- key a,sgnB_u8,sgnB_u8]
   simp [m0,m1,m2,m3]
  ·rw [<- key a]
   have:(b==61)=false:=by simpa using hb
   rw [this]
def NoTwo (s:ByteArray) (p k:Nat):Prop:=∀ j,j<k->(s.data.toList.drop p).take 2≠(twoW.getD j ⟨#[]⟩).data.toList
def NoOne (b:UInt8) (k:Nat):Prop:=∀ j,j<k->oneL.getD j 0≠b
set_option maxRecDepth 100000 in
set_option maxHeartbeats 4000000 in
theorem rsign_any (s:ByteArray) (p:Nat) (w:World) (hs:s.size<=140737488351232) (hp:p<s.size) :
 Calls Try.prog 45 #[.string s,.int .i64 p] w fun e w'=>e = .returned (.int .i64 (sgnLen (s.data.toList.drop p)))/\Below w.heap.size w w':=by
 have hcells:∀ k,k<4->(w.alloc (.cells twoCells 9)).cell? ⟨w.heap.size,k,none⟩=some (.string (twoW.getD k ⟨#[]⟩)):=by
  intro k hk
  have h:=cell_of_row (w.alloc (.cells twoCells 9)) w.heap.size k twoCells 9 (0,0) (heap_alloc_new w _)
  rw [h]
  match k,hk with
  | 0,_=>rfl
  | 1,_=>rfl
  | 2,_=>rfl
  | 3,_=>rfl
  |n+4,h=>omega
 have hb:Below w.heap.size w (w.alloc (.cells twoCells 9)):=(Below.refl _ _).alloc (Nat.le_refl _) _
 have Hcells:=Lib.hid hcells
 clear hcells
 have hlen:(s.data.toList.drop p).length=s.size-p:=by simp
 have Hlen:=Lib.hid hlen
 clear hlen
 go_enter Try.func45,Try.ntmps45
 go_wp2_with fail
 generalize hW:w.alloc (.cells #[Value.string ⟨#[61,61]⟩,Value.string ⟨#[33,61]⟩,Value.string ⟨#[60,61]⟩,Value.string ⟨#[62,61]⟩] 9)=W at *
 have hW':w.alloc (.cells twoCells 9)=W:=hW
 rw [hW'] at Hcells hb
 clear hW hW'
 go_loopw [6] (fun i wr=>∃ (k m:Nat),k<=4/\NoTwo s p k/\i = .int .i64 k/\wr=W.drewN m) (fun i _=>4-(intOf i).toNat)
 case atStart=>exact ⟨0,0,by omega,fun j h=>by omega,rfl,rfl⟩
 case round=>
  obtain ⟨k,m,hk,hno,rfl,rfl⟩:=hrel
  by_cases hlt:k<4
  ·have hc:=Hcells.out k hlt
   by_cases h2:p+2<=s.size
   ·have ht:(s.extract p (p+2)).toList=(s.data.toList.drop p).take 2:=by
     have:=Lib.extract_toList s p (p+2)
     rw [show p+2-p=2 from by omega] at this
     exact this
    have hd:(p:Int)+2<=(s.size:Int):=by omega
    rcases Bool.eq_false_or_eq_true ((s.extract p (p+2)).toList==(twoW.getD k ⟨#[]⟩).toList) with he |he
    ·have Hfin:=Lib.hid (sgn_yes (s.data.toList.drop p) k hlt (by rw [<- ht,beq_iff_eq.1 he,Lib.toList_data]))
     generalize twoW.getD k ⟨#[]⟩=x at *
     clear ht
     go_wp2_with fail
     go_quiet (fail)
     go_wp2_with fail
     go_ret
     exact ⟨by rw [Hfin.out];rfl,below_drewN (below_drewN hb _) _⟩
    ·have hno':NoTwo s p (k+1):=fun j hj=>by
      rcases Nat.lt_or_ge j k with h |h
      ·exact hno j h
      ·rw [show j=k from by omega,<- ht,<- Lib.toList_data]
       exact beq_eq_false_iff_ne.1 he
     generalize twoW.getD k ⟨#[]⟩=x at *
     clear ht
     go_wp2_with fail
     go_quiet (fail)
     go_wp2_with fail
     go_roundw
     case rel=>exact ⟨k+1,_,by omega,hno',by go_num,rfl⟩
     case measure=>simp [intOf];omega
   ·have hno':NoTwo s p (k+1):=fun j hj=>by
     rcases Nat.lt_or_ge j k with h |h
     ·exact hno j h
     ·intro e
      have e2:=congrArg List.length e
      rw [List.length_take,Hlen.out] at e2
      have:∀ j,j<4->(twoW.getD j ⟨#[]⟩).data.toList.length=2:=fun j hj=>by
       match j,hj with
       | 0,_=>rfl
       | 1,_=>rfl
       | 2,_=>rfl
       | 3,_=>rfl
       |n+4,h=>omega
      rw [this j (by omega)] at e2
      omega
    have hd:decide ((p:Int)+2<=(s.size:Int))=false:=by simp;omega
    go_wp2_with fail
    go_quiet (fail)
    go_wp2_with fail
    go_roundw
    case rel=>exact ⟨k+1,_,by omega,hno',by go_num,rfl⟩
    case measure=>simp [intOf];omega
  ·obtain rfl:k=4:=by omega
   have hsn:=sgn_no (s.data.toList.drop p) (by rw [Hlen.out];omega) hno
   rw [head_drop,getD_eq s p hp] at hsn
   have Hsn:=Lib.hid hsn
   clear hsn
   have hbm:=below_drewN hb m
   generalize W.drewN m=W1 at *
   go_wp2_with fail
   obtain ⟨O,hO,hOs,hOd⟩:∃ O:ByteArray,(⟨#[123,125,40,41,59,44,46,61,60,62,43,45,42,47,37]⟩:ByteArray)=O/\O.size=15/\O.data.toList=oneL:=⟨_,rfl,rfl,rfl⟩
   rw [hO]
   have HOd:=Lib.hid hOd
   clear hO hOd
   go_loopw [8] (fun i wr=>∃ (k m:Nat),k<=15/\NoOne s[p] k/\i = .int .i64 k/\wr=W1.drewN m) (fun i _=>15-(intOf i).toNat)
   case atStart=>exact ⟨0,0,by omega,fun j h=>by omega,rfl,rfl⟩
   case round=>
    obtain ⟨k,m2,hk2,hno2,rfl,rfl⟩:=hrel
    by_cases hlt2:k<15
    ·have hkO:k<O.size:=by rw [hOs];exact hlt2
     have hget:oneL.getD k 0=O[k]:=by rw [<- HOd.out,getD_eq O k hkO]
     have hmem:O[k]∈oneL:=by
      rw [<- hget,List.getD_eq_getElem?_getD,List.getElem?_eq_getElem (show k<oneL.length from hlt2)]
      exact List.getElem_mem _
     rcases Bool.eq_false_or_eq_true ((O[k].toNat:Int)==(s[p].toNat:Int)) with he |he
     ·have hes:O[k]=s[p]:=(u8_int _ _).1 (beq_iff_eq.1 he)
      have Hfin:=Lib.hid (show sgnLen (s.data.toList.drop p)=1 by rw [Hsn.out,if_pos (by rw [<- hes];exact hmem)])
      clear hes hmem hget
      go_wp2_with fail
      go_quiet (fail)
      go_wp2_with fail
      go_ret
      exact ⟨by rw [Hfin.out];rfl,below_drewN (below_drewN hbm _) _⟩
     ·have hno2':NoOne s[p] (k+1):=fun j hj=>by
       rcases Nat.lt_or_ge j k with h |h
       ·exact hno2 j h
       ·rw [show j=k from by omega,hget]
        exact fun e=>beq_eq_false_iff_ne.1 he (by rw [e])
      clear hmem hget
      go_wp2_with fail
      go_quiet (fail)
      go_wp2_with fail
      go_roundw
      case rel=>exact ⟨k+1,_,by omega,hno2',by go_num,rfl⟩
      case measure=>simp [intOf];omega
    ·have Hfin:=Lib.hid (show sgnLen (s.data.toList.drop p)=0 by
      rw [Hsn.out,if_neg]
      intro hx
      obtain ⟨j,hj,e⟩:=List.getElem_of_mem hx
      have hj15:j<15:=hj
      have h1:=hno2 j (by omega)
      rw [List.getD_eq_getElem?_getD,List.getElem?_eq_getElem hj] at h1
      exact h1 e)
     go_wp2_with fail
     go_ret
     exact ⟨by rw [Hfin.out];rfl,below_drewN hbm _⟩
end Go.Proofs.Ytbhbjhejkamlnaa
