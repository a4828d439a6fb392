import Derived.Deep.CutBlock
import Derived.Deep.DeepCutAuto
import Derived.RegionTactic
import Derived.Deep.LoopGhost
import Derived.Test.YtbhbjhejkamlnaaZu25
import Derived.Test.YtbhbjhejkamlnaaZu21
import Derived.Test.YtbhbjhejkamlnaaRows
import Derived.Test.YtbhbjhejkamlnaaZu14
set_option linter.unusedVariables false
set_option linter.unusedSimpArgs false
namespace Go.Proofs.Ytbhbjhejkamlnaa
open Go.RowKit
theorem info_rtok:(Try.prog.info? 123).map (fun i=>(i.zero,i.size,i.bytes))=some (some (.agg #[.int .i64 0,.string ⟨#[]⟩,.int .i64 0,.int .i64 0]),4,40):=by kernel_rfl
def RLexPost (s:ByteArray) (w:World) (e:Ending) (w':World):Prop:=
 ∃ A c,e = .returned (.tuple #[.slice A (lexR s).1.length c,.int .i64 ((lexR s).2.1:Nat),.int .i64 (lexR s).2.2]) /\
   w'.ownsRow w.heap.size 123 4 (.slice A (lexR s).1.length c) (lexR s).1.length (tcells (lexR s).1)/\Below w.heap.size w w'
theorem RLexPost.bad {s:ByteArray} {w w':World} {p:Nat} {x:Int} (h:lexR s=([],p,x)) (hb:Below w.heap.size w w'):RLexPost s w (.returned (.tuple #[.slice none 0 0,.int .i64 p,.int .i64 x])) w':=by
 unfold RLexPost
 rw [h]
 exact ⟨none,0,rfl,World.ownsRow_nil _ _ _ _,hb⟩
theorem RLexPost.good {s:ByteArray} {w w':World} {A:Option Addr} {n c:Nat} {acc:List Tok} (h:lexR s=(acc,0,0)) (hn:n=acc.length) (ho:w'.ownsRow w.heap.size 123 4 (.slice A n c) n (tcells acc)) (hb:Below w.heap.size w w') :
 RLexPost s w (.returned (.tuple #[.slice A n c,.int .i64 0,.int .i64 0])) w':=by
 unfold RLexPost
 rw [h]
 subst hn
 exact ⟨A,c,rfl,ho,hb⟩
theorem rsign_at (s:ByteArray) (p:Nat) (w:World) (hs:s.size<=140737488351232) (hp:p<s.size) {d:Nat} (hd:sgnLen (s.data.toList.drop p)=d) :
 Calls Try.prog 45 #[.string s,.int .i64 p] w fun e w'=>e = .returned (.int .i64 d)/\Below w.heap.size w w':=by
 subst hd
 exact rsign_any s p w hs hp
theorem set_num (wr:World) (t:TypeId) (a b c d e:Value) (m:Nat):((wr.alloc (.cells #[a,b,c,d] t)).drewN m).setCell ⟨wr.heap.size,2,none⟩ e=(wr.alloc (.cells #[a,b,e,d] t)).drewN m:=by
 show ((wr.alloc (.cells #[a,b,c,d] t)).setCell ⟨wr.heap.size,2,none⟩ e).drewN m=_
 rw [World.setCell_alloc_at _ _ _ _ _ rfl]
 rfl
def TokAt (wr wx:World) (g:Nat) (k:Int) (T:ByteArray) (m:Int) (p:Nat):Prop:=
 Below wr.heap.size wr wx/\g<wx.heap.size/\wx.cell? ⟨g,0,none⟩=some (.int .i64 k)/\wx.cell? ⟨g,1,none⟩=some (.string T)/\wx.cell? ⟨g,2,none⟩=some (.int .i64 m)/\wx.cell? ⟨g,3,none⟩=some (.int .i64 p)
set_option maxRecDepth 100000 in
set_option maxHeartbeats 8000000 in
theorem rlex_any (s:ByteArray) (w:World) (hs:s.size<=2147483647) :
 Calls Try.prog 15 #[.string s] w fun e w'=>RLexPost s w e w':=by
 obtain ⟨i0,hi,hz0,hz1,hz2⟩:=info_parts info_rtok
 obtain ⟨R,hR⟩:∃ R,lexGo s s.size 0 []=R:=⟨_,rfl⟩
 have HR:=Lib.hid hR
 go_enter Try.func15,Try.ntmps15
 go_wp2_with fail
 go_loopw [5,6] (fun v i wr=>∃ (p f:Nat) (acc:List Tok) (A:Option Addr) (n c:Nat),p<=s.size/\s.size<=p+f/\lexGo s f p acc=R/\n=acc.length/\n<=p/\i = .int .i64 p/\v = .slice A n c /\
  wr.ownsRow w.heap.size 123 4 (.slice A n c) n (tcells acc)/\Below w.heap.size w wr)
  (fun _ i _=>s.size-(intOf i).toNat)
 case atStart=>exact ⟨0,s.size,[],none,0,0,by omega,by omega,hR,rfl,by omega,rfl,rfl,World.ownsRow_nil _ _ _ _,Below.refl _ _⟩
 case round=>
  obtain ⟨p,f,acc,A,n,c,hp,hf,hgo,hn,hnp,rfl,rfl,hown,hbw⟩:=hrel
  clear hR
  have Hn:=Lib.hid hn
  clear hn
  have Hgo:=Lib.hid hgo
  clear hgo
  by_cases hlt:p<s.size
  ·have hgd:=getD_eq s p hlt
   rcases Bool.eq_false_or_eq_true (gapB (s[p].toNat:Int)) with hg |hg
   ·have Hst:=Lib.hid (go_gap hlt (by rw [hgd];exact hg) hf Hgo.out)
    have hg2:(s[p].toNat:Int)==32 ∨ (((s[p].toNat:Int)==32)=false/\((s[p].toNat:Int)==10)=true):=by
     rcases Bool.eq_false_or_eq_true ((s[p].toNat:Int)==32) with h |h
     ·exact .inl h
     ·refine .inr ⟨h,?_⟩
      unfold gapB at hg
      rw [h,Bool.false_or] at hg
      exact hg
    clear hgd hg
    rcases hg2 with h32 |⟨h32,h10⟩
    all_goals
     go_wp2_with fail
     go_roundw
     case rel=>
      obtain ⟨f',hf',hgo'⟩:=Hst.out
      exact ⟨p+1,f',acc,A,n,c,by omega,hf',hgo',Hn.out,by omega,by go_num,rfl,hown,hbw⟩
     case measure=>simp [intOf];omega
   ·have hgU:gapU (s.data.toList.getD p 0)=false:=by rw [hgd];exact hg
    have hhd:(s.data.toList.drop p).headD 0=s[p]:=by rw [head_drop,hgd]
    have h32:((s[p].toNat:Int)==32)=false/\((s[p].toNat:Int)==10)=false:=by
     unfold gapB at hg
     rcases Bool.eq_false_or_eq_true ((s[p].toNat:Int)==32) with h |h
     ·rw [h] at hg;cases hg
     ·rw [h,Bool.false_or] at hg
      exact ⟨h,hg⟩
    obtain ⟨h32,h10⟩:=h32
    clear hgd hg
    rcases Bool.eq_false_or_eq_true (letB (s[p].toNat:Int)) with hl |hl
    ·
     have hE0:wordE (s.data.toList.drop p)=nameE (s.data.toList.drop p):=by
      unfold wordE
      rw [hhd,if_pos (show letU s[p]=true from hl)]
     obtain ⟨d,hd⟩:∃ d,lenOf alnU (s.data.toList.drop p)=d:=⟨_,rfl⟩
     have hd1:p+d<=s.size:=by
      have h1:=lenOf_le alnU (s.data.toList.drop p)
      have hl0:s.data.toList.length=s.size:=Array.length_toList
      rw [hd,List.length_drop,hl0] at h1
      omega
     have Hd:=Lib.hid hd
     have HE0:=Lib.hid hE0
     clear hd hE0 hhd
     go_upto_block 2 with fail
     go_cut [8] from 12 to 146 (fun e8 wx=>e8 = .int .i64 ((p+d:Nat):Int)/\wx=wr)
     case first=>
      go_wp2_with fail
      go_loop [8] (fun e=>∃ k:Nat,Run alnU s p k/\e = .int .i64 k) (fun e=>s.size-(intOf e).toNat)
      case atStart=>exact ⟨p,Run.start (by omega),rfl⟩
      case round=>
       obtain ⟨k,hk,rfl⟩:=hrel
       have hk1:=hk.1
       have hk2:=hk.2.1
       by_cases hlt2:k<s.size
       ·rcases Bool.eq_false_or_eq_true (letB (s[k].toNat:Int)) with hl2 |hl2
        ·go_wp2_with (first |(go_at_call 42;refine (rlet_any _ _).mono ?_;rintro e w' ⟨rfl,rfl⟩) |(go_at_call 43;refine (rdig_any _ _).mono ?_;rintro e w' ⟨rfl,rfl⟩))
         go_round
         case rel=>exact ⟨k+1,hk.step hlt2 (by simp [alnU,letU,hl2]),by go_num⟩
         case measure=>simp [intOf];omega
        ·rcases Bool.eq_false_or_eq_true (digB (s[k].toNat:Int)) with hd2 |hd2
         ·go_wp2_with (first |(go_at_call 42;refine (rlet_any _ _).mono ?_;rintro e w' ⟨rfl,rfl⟩) |(go_at_call 43;refine (rdig_any _ _).mono ?_;rintro e w' ⟨rfl,rfl⟩))
          go_round
          case rel=>exact ⟨k+1,hk.step hlt2 (by simp [alnU,digU,hd2]),by go_num⟩
          case measure=>simp [intOf];omega
         ·have hn2:=hk.len (fun h=>by rw [getD_eq s k h];simp [alnU,letU,digU,hl2,hd2])
          rw [Hd.out] at hn2
          have Hkd:=Lib.hid (show p+d=k by omega)
          clear hn2
          go_wp2_with (first |(go_at_call 42;refine (rlet_any _ _).mono ?_;rintro e w' ⟨rfl,rfl⟩) |(go_at_call 43;refine (rdig_any _ _).mono ?_;rintro e w' ⟨rfl,rfl⟩))
          go_meet
          case rel=>exact ⟨by rw [Hkd.out],rfl⟩
       ·have hn2:=hk.len (fun h=>absurd h hlt2)
        rw [Hd.out] at hn2
        have Hkd:=Lib.hid (show p+d=k by omega)
        clear hn2
        go_wp2_with fail
        go_meet
        case rel=>exact ⟨by rw [Hkd.out],rfl⟩
     case rest=>
      obtain ⟨rfl,hwc⟩:=hcut
      have hwc2:=hwc.symm
      subst hwc2
      clear hwc
      obtain ⟨T,hT⟩:∃ T,s.extract p (p+d)=T:=⟨_,rfl⟩
      have hTs:T.size=d:=by rw [<- hT];simp;omega
      have hTl:T.toList=(s.data.toList.drop p).take d:=by
       rw [<- hT,Lib.extract_toList,show p+d-p=d from by omega]
      have HTl:=Lib.hid hTl
      clear hTl
      have hb0:Below wr.heap.size wr (wr.alloc (.cells #[.int .i64 1,.string T,.int .i64 0,.int .i64 p] 123)).drew:=(below_new (Below.refl _ wr) (Nat.le_refl _) _).drew
      have hsz0:(wr.alloc (.cells #[.int .i64 1,.string T,.int .i64 0,.int .i64 p] 123)).drew.heap.size=wr.heap.size+1:=by simp
      by_cases h12:12<d
      ·have Hfin:=Lib.hid (lexR_err HR.out (go_err hlt hgU (e:=3) (by rw [HE0.out];unfold nameE;rw [Hd.out,if_pos h12]) hf Hgo.out))
       go_upto_block 4 with fail
       go_wp2_with (go_at_call 42;refine (rlet_any _ _).mono ?_;rintro e w' ⟨rfl,rfl⟩)
       go_region
       go_wp2_with fail
       refine (rres_any T _).mono ?_
       rintro e w2 ⟨rfl,hb2⟩
       obtain ⟨hc,hfz⟩:=bcell hb2
       have hz:wr.heap.size<w2.heap.size:=by have:=hb2.size;rw [hsz0] at this;omega
       have hb3:Below w.heap.size w w2:=(hbw.trans (hb0.mono hbw.size)).trans (hb2.mono (by rw [hsz0];have:=hbw.size;omega))
       clear hb2 hb0 hsz0
       rcases Bool.eq_false_or_eq_true (resB T.toList) with hr |hr
       ·go_wp2_with fail
        go_ret3
        exact RLexPost.bad Hfin.out (hb3.setCell hbw.size _)
       ·go_wp2_with fail
        go_ret3
        exact RLexPost.bad Hfin.out hb3
      ·obtain ⟨kd,hkd⟩:∃ kd:Int,(if resB T.toList then 4 else 1)=kd:=⟨_,rfl⟩
       have hEok:wordE (s.data.toList.drop p) = .ok (kd,d,0):=by
        rw [HE0.out];unfold nameE;rw [Hd.out,if_neg h12,<- HTl.out,hkd]
       have hdp:1<=d:=(wordE_ok (by have hl0:s.data.toList.length=s.size:=Array.length_toList;rw [List.length_drop,hl0];omega) hEok).1
       have Hst:=Lib.hid (go_word hlt hgU hEok hf hdp Hgo.out)
       have Hkd:=Lib.hid hkd
       clear hEok hkd
       go_upto_block 4 with fail
       go_cut [8] from 12 to 146 (fun e8 wx=>e8 = .int .i64 ((p+d:Nat):Int)/\TokAt wr wx wr.heap.size kd T 0 p)
       case first=>
        go_wp2_with (go_at_call 42;refine (rlet_any _ _).mono ?_;rintro e w' ⟨rfl,rfl⟩)
        go_region
        go_wp2_with fail
        refine (rres_any T _).mono ?_
        rintro e w2 ⟨rfl,hb2⟩
        obtain ⟨hc,hfz⟩:=bcell hb2
        have hz:wr.heap.size<w2.heap.size:=by have:=hb2.size;rw [hsz0] at this;omega
        have hb3:Below wr.heap.size wr w2:=hb0.trans (hb2.mono (by rw [hsz0];omega))
        have hc0:=hc wr.heap.size 0 (by rw [hsz0];omega)
        have hc1:=hc wr.heap.size 1 (by rw [hsz0];omega)
        have hc2:=hc wr.heap.size 2 (by rw [hsz0];omega)
        have hc3:=hc wr.heap.size 3 (by rw [hsz0];omega)
        simp at hc0 hc1 hc2 hc3
        clear hb2 hb0 hsz0
        rcases Bool.eq_false_or_eq_true (resB T.toList) with hr |hr
        ·go_wp2_with fail
         go_meet
         case rel=>
          have hk:=Hkd.out
          rw [if_pos hr] at hk
          refine ⟨by go_num,hb3.setCell (Nat.le_refl _) _,by simpa using hz,?_,?_,?_,?_⟩
          ·rw [<- hk];go_simp
          ·go_simp
          ·go_simp
          ·go_simp
        ·go_wp2_with fail
         go_meet
         case rel=>
          have hk:=Hkd.out
          rw [if_neg (by rw [hr];decide)] at hk
          refine ⟨by go_num,hb3,hz,?_,hc1,hc2,hc3⟩
          rw [hc0,hk]
       case rest=>
        obtain ⟨rfl,hb4,hg4,t0,t1,t2,t3⟩:=hcut
        go_wp2_with (at_builtin;refine wpList_append_own _ rfl (.tmp 142) (.tmp 144) _ rfl w.heap.size 123 i0 _ 4 40 Try.underlying66 hi hz0 hz1 hz2 rfl (by decide) (.slice A n c) n _ rfl (own_later hown (below_new hb4 (Nat.le_refl _) _)) ⟨wc.heap.size,0,none⟩ 1 1 [.int .i64 kd,.string T,.int .i64 0,.int .i64 p] rfl rfl ?c1 ?c2 ?c3 ?c4 ?c5 ?_)
        case c1=>exact cells_new _ _ _
        case c2=>
         intro u hu
         simp at hu
         rcases hu with rfl |rfl |rfl |rfl<;>rfl
        case c3=>unfold maxLen;omega
        case c4=>omega
        case c5=>have:=hb4.size;have:=hbw.size;simp;omega
        intro v' w3 hown' hgrow _
        obtain ⟨g,cap,hv⟩:=own_form hown' (by omega)
        have Hv:=Lib.hid hv
        have Hl:Hid (n+1=(acc++[(⟨kd,T,0,p⟩:Tok)]).length):=by
         show n+1=_
         rw [List.length_append,<- Hn.out]
         rfl
        have hown2:w3.ownsRow w.heap.size 123 4 (.slice (some ⟨g,0,none⟩) (n+1) cap) (n+1) (tcells (acc++[(⟨kd,T,0,p⟩:Tok)])):=by
         rw [tcells_snoc,<- hv]
         exact hown'
        have hB3:Below w.heap.size w w3:=(hbw.trans ((below_new hb4 (Nat.le_refl _) _).mono hbw.size)).grown hgrow (by have:=hb4.size;have:=hbw.size;simp;omega) (fun b hb=>(hown.lt b hb).1)
        clear hv hown' hgrow hown
        go_wp2_with fail
        go_roundw
        case rel=>
         obtain ⟨f',hf',hgo'⟩:=Hst.out
         exact ⟨p+d,f',acc++[(⟨kd,T,0,p⟩:Tok)],some ⟨g,0,none⟩,n+1,cap,by omega,hf',by rw [<- hT];exact hgo',Hl,by omega,by go_num,Hv.out,hown2,hB3⟩
        case measure=>simp [intOf];omega
    ·rcases Bool.eq_false_or_eq_true (digB (s[p].toNat:Int)) with hdg |hdg
     ·
      have hE0:wordE (s.data.toList.drop p)=numE (s.data.toList.drop p):=by
       unfold wordE
       rw [hhd,if_neg (show ¬ letU s[p]=true by show ¬ letB _=true;rw [hl];decide),if_pos (show digU s[p]=true from hdg)]
      obtain ⟨d,hd⟩:∃ d,lenOf alnU (s.data.toList.drop p)=d:=⟨_,rfl⟩
      have hd1:p+d<=s.size:=by
       have h1:=lenOf_le alnU (s.data.toList.drop p)
       have hl0:s.data.toList.length=s.size:=Array.length_toList
       rw [hd,List.length_drop,hl0] at h1
       omega
      obtain ⟨T,hT⟩:∃ T,s.extract p (p+d)=T:=⟨_,rfl⟩
      have hTs:T.size=d:=by rw [<- hT];simp;omega
      have hTl:(s.data.toList.drop p).take d=T.data.toList:=by
       rw [<- hT,Lib.extract_data,show p+d-p=d from by omega]
      have hnum:=numE_run (s.data.toList.drop p) T.data.toList d (by rw [hhd];exact hdg) hd hTl
      rw [hhd] at hnum
      have h48:s[p]=48↔((s[p].toNat:Int)==48)=true:=by
       rw [beq_iff_eq]
       exact (u8_int s[p] 48).symm
      simp only [h48] at hnum
      have Hd:=Lib.hid hd
      have HE0:=Lib.hid hE0
      have Hnum:=Lib.hid hnum
      clear hd hE0 hhd hTl hnum h48
      go_upto_block 2 with fail
      go_cut [8] from 12 to 146 (fun e8 wx=>e8 = .int .i64 ((p+d:Nat):Int)/\wx=wr)
      case first=>
       go_wp2_with fail
       go_loop [8] (fun e=>∃ k:Nat,Run alnU s p k/\e = .int .i64 k) (fun e=>s.size-(intOf e).toNat)
       case atStart=>exact ⟨p,Run.start (by omega),rfl⟩
       case round=>
        obtain ⟨k,hk,rfl⟩:=hrel
        have hk1:=hk.1
        have hk2:=hk.2.1
        by_cases hlt2:k<s.size
        ·rcases Bool.eq_false_or_eq_true (letB (s[k].toNat:Int)) with hl2 |hl2
         ·go_wp2_with (first |(go_at_call 42;refine (rlet_any _ _).mono ?_;rintro e w' ⟨rfl,rfl⟩) |(go_at_call 43;refine (rdig_any _ _).mono ?_;rintro e w' ⟨rfl,rfl⟩))
          go_round
          case rel=>exact ⟨k+1,hk.step hlt2 (by simp [alnU,letU,hl2]),by go_num⟩
          case measure=>simp [intOf];omega
         ·rcases Bool.eq_false_or_eq_true (digB (s[k].toNat:Int)) with hd2 |hd2
          ·go_wp2_with (first |(go_at_call 42;refine (rlet_any _ _).mono ?_;rintro e w' ⟨rfl,rfl⟩) |(go_at_call 43;refine (rdig_any _ _).mono ?_;rintro e w' ⟨rfl,rfl⟩))
           go_round
           case rel=>exact ⟨k+1,hk.step hlt2 (by simp [alnU,digU,hd2]),by go_num⟩
           case measure=>simp [intOf];omega
          ·have hn2:=hk.len (fun h=>by rw [getD_eq s k h];simp [alnU,letU,digU,hl2,hd2])
           rw [Hd.out] at hn2
           have Hkd:=Lib.hid (show p+d=k by omega)
           clear hn2
           go_wp2_with (first |(go_at_call 42;refine (rlet_any _ _).mono ?_;rintro e w' ⟨rfl,rfl⟩) |(go_at_call 43;refine (rdig_any _ _).mono ?_;rintro e w' ⟨rfl,rfl⟩))
           go_meet
           case rel=>exact ⟨by rw [Hkd.out],rfl⟩
        ·have hn2:=hk.len (fun h=>absurd h hlt2)
         rw [Hd.out] at hn2
         have Hkd:=Lib.hid (show p+d=k by omega)
         clear hn2
         go_wp2_with fail
         go_meet
         case rel=>exact ⟨by rw [Hkd.out],rfl⟩
      case rest=>
       obtain ⟨rfl,hwc⟩:=hcut
       have hwc2:=hwc.symm
       subst hwc2
       clear hwc
       go_upto_block 4 with fail
       by_cases h10d:10<d
       ·have Hfin:=Lib.hid (lexR_err HR.out (go_err hlt hgU (e:=3) (by rw [HE0.out,Hnum.out,if_pos (.inl h10d)]) hf Hgo.out))
        go_wp2_with (first |(go_at_call 42;refine (rlet_any _ _).mono ?_;rintro e w' ⟨rfl,rfl⟩) |(go_at_call 43;refine (rdig_any _ _).mono ?_;rintro e w' ⟨rfl,rfl⟩))
        go_region
        go_wp2_with fail
        go_ret3
        exact RLexPost.bad Hfin.out (below_new hbw (by omega) _).drew
       ·by_cases hz48:1<d/\((s[p].toNat:Int)==48)=true
        ·obtain ⟨hz1,hz2⟩:=hz48
         have Hfin:=Lib.hid (lexR_err HR.out (go_err hlt hgU (e:=3) (by rw [HE0.out,Hnum.out,if_pos (.inr (.inl ⟨hz1,hz2⟩))]) hf Hgo.out))
         go_wp2_with (first |(go_at_call 42;refine (rlet_any _ _).mono ?_;rintro e w' ⟨rfl,rfl⟩) |(go_at_call 43;refine (rdig_any _ _).mono ?_;rintro e w' ⟨rfl,rfl⟩))
         go_region
         go_wp2_with fail
         go_ret3
         exact RLexPost.bad Hfin.out (below_new hbw (by omega) _).drew
        ·have hz:d<=1 ∨ (1<d/\((s[p].toNat:Int)==48)=false):=by
          rcases Bool.eq_false_or_eq_true ((s[p].toNat:Int)==48) with h |h
          ·exact .inl (by have:¬ 1<d:=fun hx=>hz48 ⟨hx,h⟩;omega)
          ·by_cases h1:1<d
           ·exact .inr ⟨h1,h⟩
           ·exact .inl (by omega)
         by_cases hbad:lenOf digU T.data.toList<d ∨ 2147483647<val T.data.toList
         ·have Hfin:=Lib.hid (lexR_err HR.out (go_err hlt hgU (e:=3) (by rw [HE0.out,Hnum.out,if_pos (.inr (.inr hbad))]) hf Hgo.out))
          have Hbad:=Lib.hid hbad
          clear hbad hz48
          rcases hz with hz |⟨hz,hz'⟩
          all_goals
           go_wp2_with (first |(go_at_call 42;refine (rlet_any _ _).mono ?_;rintro e w' ⟨rfl,rfl⟩) |(go_at_call 43;refine (rdig_any _ _).mono ?_;rintro e w' ⟨rfl,rfl⟩))
           go_region
           go_wp2_with fail
           go_loopw [10] (fun i wx=>∃ (k m:Nat) (v:Int),Run digU T 0 k/\Hid ((vl T 0 k:Int)=v)/\0<=v/\v<10000000000/\i = .int .i64 k/\wx=(wr.alloc (.cells #[.int .i64 2,.string T,.int .i64 v,.int .i64 p] 123)).drewN m) (fun i _=>d-(intOf i).toNat)
           case atStart=>exact ⟨0,1,0,Run.start (by omega),(show ((vl T 0 0:Nat):Int)=0 by rw [vl_start];rfl),by omega,by omega,rfl,rfl⟩
           case round=>
            obtain ⟨k,m,v,hk,hv,hv0,hv1,rfl,rfl⟩:=hrel
            have hk2:=hk.2.1
            by_cases hkd:k<d
            ·have hkT:k<T.size:=by omega
             rcases Bool.eq_false_or_eq_true (digB (T[k].toNat:Int)) with hdk |hdk
             ·have hb48:48<=(T[k].toNat:Int)/\(T[k].toNat:Int)<=57:=by simpa [digB] using hdk
              obtain ⟨hb1,hb2⟩:=hb48
              have hst:=vl_step T 0 k (by omega) hkT
              have hrun:=hk.step hkT (show digU T[k]=true from hdk)
              have hfew:=hrun.few (by omega)
              have Hst:=Lib.hid (show ((vl T 0 (k+1):Nat):Int)=10*v+((T[k].toNat:Int)-48) by rw [hst];have:=hv.out;omega)
              have hnew0:0<=10*v+((T[k].toNat:Int)-48):=by omega
              have hnew1:10*v+((T[k].toNat:Int)-48)<10000000000:=by rw [<- Hst.out];omega
              clear hst hfew
              go_wp2_with (first |(go_at_call 42;refine (rlet_any _ _).mono ?_;rintro e w' ⟨rfl,rfl⟩) |(go_at_call 43;refine (rdig_any _ _).mono ?_;rintro e w' ⟨rfl,rfl⟩))
              go_region
              go_wp2_with fail
              go_roundw
              case rel=>exact ⟨k+1,_,_,hrun,Hst.out,hnew0,hnew1,by go_num,set_num _ _ _ _ _ _ _ _⟩
              case measure=>simp [intOf];omega
             ·go_wp2_with (first |(go_at_call 42;refine (rlet_any _ _).mono ?_;rintro e w' ⟨rfl,rfl⟩) |(go_at_call 43;refine (rdig_any _ _).mono ?_;rintro e w' ⟨rfl,rfl⟩))
              go_ret3
              exact RLexPost.bad Hfin.out (below_drewN (below_new hbw (by omega) _) _)
            ·have hkd2:k=d:=by omega
             have hlast:2147483647<v:=by
              have h1:lenOf digU T.data.toList=d:=by rw [<- hkd2];exact hk.whole (by omega)
              have h2:=Hbad.out.resolve_left (by omega)
              have h3:=hk.val_whole (by omega)
              have h4:=hv.out
              omega
             clear hkd2
             go_wp2_with fail
             go_ret3
             exact RLexPost.bad Hfin.out (below_drewN (below_new hbw (by omega) _) _)
         ·have hlen:lenOf digU T.data.toList=d:=by
           have h1:=lenOf_le digU T.data.toList
           have h2:T.data.toList.length=d:=by rw [<- hTs];exact Array.length_toList
           omega
          have hvb:¬ 2147483647<val T.data.toList:=fun h=>hbad (.inr h)
          obtain ⟨vv,hvv⟩:∃ vv:Int,(val T.data.toList:Int)=vv:=⟨_,rfl⟩
          have hEok:wordE (s.data.toList.drop p) = .ok (2,d,vv):=by
           rw [HE0.out,Hnum.out,if_neg (fun h=>h.elim h10d (fun h=>h.elim hz48 hbad)),hvv]
          have hdp:1<=d:=(wordE_ok (by have hl0:s.data.toList.length=s.size:=Array.length_toList;rw [List.length_drop,hl0];omega) hEok).1
          have Hst:=Lib.hid (go_word hlt hgU hEok hf hdp Hgo.out)
          have Hvv:=Lib.hid hvv
          clear hEok hvv hbad hz48
          go_cut [8] from 12 to 146 (fun e8 wx=>e8 = .int .i64 ((p+d:Nat):Int)/\TokAt wr wx wr.heap.size 2 T vv p)
          case first=>
           rcases hz with hz |⟨hz,hz'⟩
           all_goals
            go_wp2_with (first |(go_at_call 42;refine (rlet_any _ _).mono ?_;rintro e w' ⟨rfl,rfl⟩) |(go_at_call 43;refine (rdig_any _ _).mono ?_;rintro e w' ⟨rfl,rfl⟩))
            go_region
            go_wp2_with fail
            go_loopw [10] (fun i wx=>∃ (k m:Nat) (v:Int),Run digU T 0 k/\Hid ((vl T 0 k:Int)=v)/\0<=v/\v<10000000000/\i = .int .i64 k/\wx=(wr.alloc (.cells #[.int .i64 2,.string T,.int .i64 v,.int .i64 p] 123)).drewN m) (fun i _=>d-(intOf i).toNat)
            case atStart=>exact ⟨0,1,0,Run.start (by omega),(show ((vl T 0 0:Nat):Int)=0 by rw [vl_start];rfl),by omega,by omega,rfl,rfl⟩
            case round=>
             obtain ⟨k,m,v,hk,hv,hv0,hv1,rfl,rfl⟩:=hrel
             have hk2:=hk.2.1
             by_cases hkd:k<d
             ·have hkT:k<T.size:=by omega
              rcases Bool.eq_false_or_eq_true (digB (T[k].toNat:Int)) with hdk |hdk
              ·have hb48:48<=(T[k].toNat:Int)/\(T[k].toNat:Int)<=57:=by simpa [digB] using hdk
               obtain ⟨hb1,hb2⟩:=hb48
               have hst:=vl_step T 0 k (by omega) hkT
               have hrun:=hk.step hkT (show digU T[k]=true from hdk)
               have hfew:=hrun.few (by omega)
               have Hst:=Lib.hid (show ((vl T 0 (k+1):Nat):Int)=10*v+((T[k].toNat:Int)-48) by rw [hst];have:=hv.out;omega)
               have hnew0:0<=10*v+((T[k].toNat:Int)-48):=by omega
               have hnew1:10*v+((T[k].toNat:Int)-48)<10000000000:=by rw [<- Hst.out];omega
               clear hst hfew
               go_wp2_with (first |(go_at_call 42;refine (rlet_any _ _).mono ?_;rintro e w' ⟨rfl,rfl⟩) |(go_at_call 43;refine (rdig_any _ _).mono ?_;rintro e w' ⟨rfl,rfl⟩))
               go_region
               go_wp2_with fail
               go_roundw
               case rel=>exact ⟨k+1,_,_,hrun,Hst.out,hnew0,hnew1,by go_num,set_num _ _ _ _ _ _ _ _⟩
               case measure=>simp [intOf];omega
              ·exact absurd (hk.part hkT hdk hlen) (by omega)
             ·have hkd2:k=d:=by omega
              have hveq:v=vv:=by
               have h3:=hk.val_whole (by omega)
               rw [<- hv.out,<- Hvv.out,h3]
              have Hveq:=Lib.hid hveq
              have hlast:v<=2147483647:=by
               have h1:=Hvv.out
               have h2:=Hveq.out
               omega
              clear hkd2 hveq
              go_wp2_with fail
              go_meet
              case rel=>
               refine ⟨by go_num,below_drewN (below_new (Below.refl _ _) (Nat.le_refl _) _) _,by simp,?_,?_,?_,?_⟩
               ·go_simp
               ·go_simp
               ·rw [<- Hveq.out];go_simp
               ·go_simp
          case rest=>
           obtain ⟨rfl,hb4,hg4,t0,t1,t2,t3⟩:=hcut
           go_wp2_with (at_builtin;refine wpList_append_own _ rfl (.tmp 142) (.tmp 144) _ rfl w.heap.size 123 i0 _ 4 40 Try.underlying66 hi hz0 hz1 hz2 rfl (by decide) (.slice A n c) n _ rfl (own_later hown (below_new hb4 (Nat.le_refl _) _)) ⟨wc.heap.size,0,none⟩ 1 1 [.int .i64 2,.string T,.int .i64 vv,.int .i64 p] rfl rfl ?c1 ?c2 ?c3 ?c4 ?c5 ?_)
           case c1=>exact cells_new _ _ _
           case c2=>
            intro u hu
            simp at hu
            rcases hu with rfl |rfl |rfl |rfl<;>rfl
           case c3=>unfold maxLen;omega
           case c4=>omega
           case c5=>have:=hb4.size;have:=hbw.size;simp;omega
           intro v' w3 hown' hgrow _
           obtain ⟨g,cap,hv⟩:=own_form hown' (by omega)
           have Hv:=Lib.hid hv
           have Hl:Hid (n+1=(acc++[(⟨2,T,vv,p⟩:Tok)]).length):=by
            show n+1=_
            rw [List.length_append,<- Hn.out]
            rfl
           have hown2:w3.ownsRow w.heap.size 123 4 (.slice (some ⟨g,0,none⟩) (n+1) cap) (n+1) (tcells (acc++[(⟨2,T,vv,p⟩:Tok)])):=by
            rw [tcells_snoc,<- hv]
            exact hown'
           have hB3:Below w.heap.size w w3:=(hbw.trans ((below_new hb4 (Nat.le_refl _) _).mono hbw.size)).grown hgrow (by have:=hb4.size;have:=hbw.size;simp;omega) (fun b hb=>(hown.lt b hb).1)
           clear hv hown' hgrow hown
           go_wp2_with fail
           go_roundw
           case rel=>
            obtain ⟨f',hf',hgo'⟩:=Hst.out
            exact ⟨p+d,f',acc++[(⟨2,T,vv,p⟩:Tok)],some ⟨g,0,none⟩,n+1,cap,by omega,hf',by rw [<- hT];exact hgo',Hl,by omega,by go_num,Hv.out,hown2,hB3⟩
           case measure=>simp [intOf];omega
     ·
      have hE0:wordE (s.data.toList.drop p)=sgnE (s.data.toList.drop p):=by
       unfold wordE
       rw [hhd,if_neg (show ¬ letU s[p]=true by show ¬ letB _=true;rw [hl];decide),if_neg (show ¬ digU s[p]=true by show ¬ digB _=true;rw [hdg];decide)]
      obtain ⟨d,hd⟩:∃ d,sgnLen (s.data.toList.drop p)=d:=⟨_,rfl⟩
      have hd1:p+d<=s.size:=by
       have h1:=sgnLen_le (s.data.toList.drop p)
       have hl0:s.data.toList.length=s.size:=Array.length_toList
       rw [hd,List.length_drop,hl0] at h1
       omega
      have Hd:=Lib.hid hd
      have HE0:=Lib.hid hE0
      clear hd hE0 hhd
      go_upto_block 2 with fail
      go_cut [8] from 12 to 146 (fun e8 wx=>e8 = .int .i64 p/\wx=wr)
      case first=>
       go_wp2_with fail
       go_loop [8] (fun e=>e = .int .i64 p) (fun _=>0)
       case atStart=>rfl
       case round=>
        subst hrel
        go_wp2_with (first |(go_at_call 42;refine (rlet_any _ _).mono ?_;rintro e w' ⟨rfl,rfl⟩) |(go_at_call 43;refine (rdig_any _ _).mono ?_;rintro e w' ⟨rfl,rfl⟩))
        go_meet
        case rel=>exact ⟨rfl,rfl⟩
      case rest=>
       obtain ⟨rfl,hwc⟩:=hcut
       have hwc2:=hwc.symm
       subst hwc2
       clear hwc
       go_upto_block 4 with fail
       have hsz0:(wr.alloc (.cells #[.int .i64 0,.string ⟨#[]⟩,.int .i64 0,.int .i64 p] 123)).heap.size=wr.heap.size+1:=by simp
       have hb0:Below wr.heap.size wr (wr.alloc (.cells #[.int .i64 0,.string ⟨#[]⟩,.int .i64 0,.int .i64 p] 123)):=below_new (Below.refl _ wr) (Nat.le_refl _) _
       by_cases hd0:d=0
       ·have Hfin:=Lib.hid (lexR_err HR.out (go_err hlt hgU (e:=2) (by rw [HE0.out];unfold sgnE;rw [Hd.out,if_pos hd0]) hf Hgo.out))
        subst hd0
        go_wp2_with (first |(go_at_call 42;refine (rlet_any _ _).mono ?_;rintro e w' ⟨rfl,rfl⟩) |(go_at_call 43;refine (rdig_any _ _).mono ?_;rintro e w' ⟨rfl,rfl⟩))
        refine (rsign_at s p _ (by omega) hlt Hd.out).mono ?_
        rintro e w2 ⟨rfl,hb2⟩
        go_wp2_with fail
        go_ret3
        exact RLexPost.bad Hfin.out ((hbw.trans (hb0.mono hbw.size)).trans (hb2.mono (by rw [hsz0];have:=hbw.size;omega)))
       ·have hEok:wordE (s.data.toList.drop p) = .ok (3,d,0):=by rw [HE0.out];unfold sgnE;rw [Hd.out,if_neg hd0]
        have hdp:1<=d:=by omega
        have hnz:((d:Int)==0)=false:=by rw [beq_eq_false_iff_ne];omega
        obtain ⟨T,hT⟩:∃ T,s.extract p (p+d)=T:=⟨_,rfl⟩
        have Hst:=Lib.hid (go_word hlt hgU hEok hf hdp Hgo.out)
        clear hEok hd0
        go_cut [8] from 12 to 146 (fun e8 wx=>e8 = .int .i64 ((p+d:Nat):Int)/\TokAt wr wx wr.heap.size 3 T 0 p)
        case first=>
         go_wp2_with (first |(go_at_call 42;refine (rlet_any _ _).mono ?_;rintro e w' ⟨rfl,rfl⟩) |(go_at_call 43;refine (rdig_any _ _).mono ?_;rintro e w' ⟨rfl,rfl⟩))
         refine (rsign_at s p _ (by omega) hlt Hd.out).mono ?_
         rintro e w2 ⟨rfl,hb2⟩
         obtain ⟨hc,hfz⟩:=bcell hb2
         have hz:wr.heap.size<w2.heap.size:=by have:=hb2.size;rw [hsz0] at this;omega
         have hb3:Below wr.heap.size wr w2:=hb0.trans (hb2.mono (by rw [hsz0];omega))
         have hc0:=hc wr.heap.size 0 (by rw [hsz0];omega)
         have hc1:=hc wr.heap.size 1 (by rw [hsz0];omega)
         have hc2:=hc wr.heap.size 2 (by rw [hsz0];omega)
         have hc3:=hc wr.heap.size 3 (by rw [hsz0];omega)
         have hf0:=hfz wr.heap.size 0 (by rw [hsz0];omega)
         have hf1:=hfz wr.heap.size 1 (by rw [hsz0];omega)
         simp at hc0 hc1 hc2 hc3
         rw [World.frozen?_alloc_at _ _ _ _ rfl] at hf0 hf1
         clear hb2 hb0 hsz0 hc hfz
         go_wp2_with fail
         go_region
         go_wp2_with fail
         go_meet
         case rel=>
          refine ⟨by go_num,((hb3.setCell (Nat.le_refl _) _).setCell (Nat.le_refl _) _).drew,by simpa using hz,?_,?_,?_,?_⟩
          ·go_simp
          ·go_simp
          ·go_simp
          ·go_simp
        case rest=>
         obtain ⟨rfl,hb4,hg4,t0,t1,t2,t3⟩:=hcut
         go_wp2_with (at_builtin;refine wpList_append_own _ rfl (.tmp 142) (.tmp 144) _ rfl w.heap.size 123 i0 _ 4 40 Try.underlying66 hi hz0 hz1 hz2 rfl (by decide) (.slice A n c) n _ rfl (own_later hown (below_new hb4 (Nat.le_refl _) _)) ⟨wc.heap.size,0,none⟩ 1 1 [.int .i64 3,.string T,.int .i64 0,.int .i64 p] rfl rfl ?c1 ?c2 ?c3 ?c4 ?c5 ?_)
         case c1=>exact cells_new _ _ _
         case c2=>
          intro u hu
          simp at hu
          rcases hu with rfl |rfl |rfl |rfl<;>rfl
         case c3=>unfold maxLen;omega
         case c4=>omega
         case c5=>have:=hb4.size;have:=hbw.size;simp;omega
         intro v' w3 hown' hgrow _
         obtain ⟨g,cap,hv⟩:=own_form hown' (by omega)
         have Hv:=Lib.hid hv
         have Hl:Hid (n+1=(acc++[(⟨3,T,0,p⟩:Tok)]).length):=by
          show n+1=_
          rw [List.length_append,<- Hn.out]
          rfl
         have hown2:w3.ownsRow w.heap.size 123 4 (.slice (some ⟨g,0,none⟩) (n+1) cap) (n+1) (tcells (acc++[(⟨3,T,0,p⟩:Tok)])):=by
          rw [tcells_snoc,<- hv]
          exact hown'
         have hB3:Below w.heap.size w w3:=(hbw.trans ((below_new hb4 (Nat.le_refl _) _).mono hbw.size)).grown hgrow (by have:=hb4.size;have:=hbw.size;simp;omega) (fun b hb=>(hown.lt b hb).1)
         clear hv hown' hgrow hown
         go_wp2_with fail
         go_roundw
         case rel=>
          obtain ⟨f',hf',hgo'⟩:=Hst.out
          exact ⟨p+d,f',acc++[(⟨3,T,0,p⟩:Tok)],some ⟨g,0,none⟩,n+1,cap,by omega,hf',by rw [<- hT];exact hgo',Hl,by omega,by go_num,Hv.out,hown2,hB3⟩
         case measure=>simp [intOf];omega
  ·have hend:=go_end (by omega) Hgo.out
   by_cases hn2:n<=2000
   ·have Hfin:=Lib.hid (lexR_ok HR.out hend (by rw [<- Hn.out];exact hn2))
    clear hend
    go_wp2_with fail
    go_ret3
    exact RLexPost.good Hfin.out Hn.out hown hbw
   ·have Hfin:=Lib.hid (lexR_long HR.out hend (by rw [<- Hn.out];omega))
    clear hend
    go_wp2_with fail
    go_ret3
    exact RLexPost.bad Hfin.out hbw
end Go.Proofs.Ytbhbjhejkamlnaa
namespace Go.Proofs.Ytbhbjhejkamlnaa.Sx.Z
open Go.RowKit
theorem rtok_eks:eks 123=[.int .i64,.str,.int .i64,.int .i64]:=by rfl
def rlxS:FSpec:=fun ds _=>match ds with
 | [.s s]=>some {val:=.tup [.sc (.rows 123 (tokD (lexR s).1)),.sc (.int .i64 (.sym ((lexR s).2.1:Nat))),.sc (.int .i64 (.sym (lexR s).2.2))],vc:=[s.size<=2147483647]}
 |_=>none
def rlxC:Con:=con [.sc .str] rlxS
theorem rlx_rel {fz:Fz} {l:List Tok} {A:Option Addr} {c:Nat} {base:Nat} {w:World} (h:w.ownsRow base 123 4 (.slice A l.length c) l.length (tcells l)) (hf:∀ g cur,base<=g->w.heap[g]? = some (.cells cur 123 (0,0))->A=some ⟨g,0,none⟩->fz g=some cur):TRel fz (.slice 123) (tokD l) (.slice A l.length c):=by
 rcases h.2 with ⟨hv,h0⟩ |⟨g,cap,cur,hv,hg,hh,h1,h2,h3,h4⟩
 ·rw [hv]
  exact .nil _ _ (by rw [tokD_len];exact h0)
 ·obtain ⟨hA,_,hc⟩:=Value.slice.inj hv
  subst hA hc
  by_cases h0:l.length=0
  ·rw [h0]
   exact .empty _ _ _ _ (by rw [tokD_len];exact h0)
  ·have hF:=hf g cur hg hh rfl
   have hat:∀ i j t,l[i]? = some t->j<4->cur[i*4+j]? = (tokV t)[j]?:=fun i j t ht hj=>by
    have e:=tcells_get ht hj
    rw [<- h4] at e
    have hi:i<l.length:=lt_of_get ht
    rw [List.getElem?_take_of_lt (by omega),Array.getElem?_toList] at e
    exact e
   rw [show Value.slice (some ⟨g,0,none⟩) l.length c=Value.slice (some ⟨g,0,none⟩) (tokD l).len c by rw [tokD_len]]
   refine .slice _ _ _ _ _ (fun i j=>(cur[i*4+j]?).getD undef) (by rw [tokD_len];exact h1) (fun i j hi hj=>?_) (fun i j k hi hk=>?_)
   ·rw [tokD_len] at hi
    have hj4:j<4:=hj
    have e:=hat i j _ (List.getElem?_eq_getElem hi) hj4
    have e2:(tokV l[i])[j]? = some (tokV l[i])[j]:=List.getElem?_eq_getElem (by show j<4;exact hj4)
    rw [e2] at e
    show Fz.cell fz g (0+i*4+j)=_
    rw [Nat.zero_add,e]
    unfold Fz.cell
    rw [hF]
    exact e
   ·rw [tokD_len] at hi
    have ht:=List.getElem?_eq_getElem hi
    rw [tokD_el ht]
    rw [rtok_eks] at hk
    match j,hk with
    | 0,hk=>obtain rfl:=Option.some.inj hk;rw [hat i 0 _ ht (by omega)];exact .int _ (.i _)
    | 1,hk=>obtain rfl:=Option.some.inj hk;rw [hat i 1 _ ht (by omega)];exact .str (.s _)
    | 2,hk=>obtain rfl:=Option.some.inj hk;rw [hat i 2 _ ht (by omega)];exact .int _ (.i _)
    | 3,hk=>obtain rfl:=Option.some.inj hk;rw [hat i 3 _ ht (by omega)];exact .int _ (.i _)
    |j+4,hk=>simp at hk
def rlxF (f:Fz) (w w':World) (A:Option Addr):Fz:=fun b=>match A with |some a=>if b=a.block/\w.heap.size<=b then cellsAt w' b else f b |none=>f b
theorem rlxF_or {f:Fz} {w w':World} {A:Option Addr} {b:Nat} {cs:Array Value} (h:rlxF f w w' A b=some cs):f b=some cs ∨ (w.heap.size<=b/\cellsAt w' b=some cs):=by
 unfold rlxF at h
 split at h
 ·split at h
  ·rename_i hh;exact .inr ⟨hh.2,h⟩
  ·exact .inl h
 ·exact .inl h
theorem rlx_ok:ConOK Try.prog 15 rlxC:=by
 refine ⟨fun _ _=>by kernel_rfl,fun hp fr args e he hv w0 w ρ vs hw _ ha=>?_,fun _ _ _ _ h=>nomatch (con_jf _ _ _ _ _).symm.trans h⟩
 unfold rlxC con at he
 split at he
 ·rename_i ds ps hds
  split at he
  ·rename_i e1 he1
   unfold rlxS at he1
   split at he1
   ·rename_i s
    obtain rfl:=Option.some.inj he1
    obtain rfl:=Option.some.inj he
    obtain ⟨hp1,hp2⟩:=all_append.1 hv
    obtain ⟨svs,h,ρ1,id,hun,_,_,hrel⟩:=unP_spec hw [.sc .str] args _ ps hds hp1 vs ha (ids:=keepOwn hp (idsX hp args)) (fun i hi ho=>keepOwn_mem.2 ⟨hi,ho⟩) 0
    obtain rfl:svs=_:=(congrArg Prod.fst (Option.some.inj hun)).symm
    match vs,hrel with
    | [x],⟨hx,_⟩=>
      have hx:x = .string s:=hx
      subst hx
      refine (rlex_any s w hp2.1).mono ?_
      rintro en w' ⟨A,c,rfl,hown,hb⟩
      have hle:FzLe ρ.fz (rlxF ρ.fz w w' A):=fun b cs hbc=>by
       unfold rlxF
       split
       ·split
        ·rename_i hh
         rw [hw.froz.new hh.2] at hbc;cases hbc
        ·exact hbc
       ·exact hbc
      have hrel2:TRel (rlxF ρ.fz w w' A) (.slice 123) (tokD (lexR s).1) (.slice A (lexR s).1.length c):=rlx_rel hown fun g cur hg hh hA=>by
       subst hA
       show (if g=g/\w.heap.size<=g then cellsAt w' g else ρ.fz g)=some cur
       rw [if_pos ⟨rfl,hg⟩]
       unfold cellsAt
       rw [hh]
      refine ⟨{ρ with fz:=rlxF ρ.fz w w' A},_,rfl,⟨_,rfl,hrel2,rfl,rfl,trivial⟩,⟨⟨fun _ _ h=>h,fun _ _=>rfl,hle,rfl,rfl⟩,fun _ _=>rfl,hb.mono (Nat.zero_le _),fun b hlt _=>hb.block b hlt,fun i x hx=>?_,fun i x hx=>?_,fun i j x y hx=>?_,fun b cs hcs=>?_⟩⟩
      ·have hx':look (kills (keepOwn hp (idsX hp args))) i=some x:=hx
       rw [(kills_look hx').1];trivial
      ·cases hx
      ·cases hx
      ·rcases rlxF_or hcs with h1 |⟨h1,h2⟩
       ·exact .inl h1
       ·exact .inr ⟨.inl h1,cellsAt_some h2,fun _ _ h=>by cases h⟩
   ·cases he1
  ·cases he
 ·cases he
end Go.Proofs.Ytbhbjhejkamlnaa.Sx.Z
namespace Go.Proofs.Ytbhbjhejkamlnaa.Sx
open Go.RowKit Go.WideShapes
mutual
def wD:D->Nat
 | .l rows=>1+wRs rows
 | .s t=>1+t.size
 | .i _=>1
 | .b _=>1
def wRs:List (List D)->Nat
 | []=>0
 |r::l=>1+wR r+wRs l
def wR:List D->Nat
 | []=>0
 |x::r=>wD x+wR r
end
def sumN:Nat->(Nat->Nat)->Nat
 | 0,_=>0
 |n+1,f=>sumN n f+f n
theorem sumN_add (m:Nat) (f:Nat->Nat):∀ n,sumN (m+n) f=sumN m f+sumN n (fun j=>f (m+j))
 | 0=>rfl
 |n+1=>by
  show sumN (m+n) f+f (m+n)=_
  rw [sumN_add m f n]
  show _=sumN m f+(sumN n _+f (m+n))
  omega
theorem sumN_le {f g:Nat->Nat}:∀ n,(∀ i,i<n->f i<=g i)->sumN n f<=sumN n g
 | 0,_=>Nat.le_refl _
 |n+1,h=>Nat.add_le_add (sumN_le n fun i hi=>h i (by omega)) (h n (by omega))
theorem sumN_eq {f g:Nat->Nat}:∀ n,(∀ i,i<n->f i=g i)->sumN n f=sumN n g
 | 0,_=>rfl
 |n+1,h=>by
  show sumN n f+f n=sumN n g+g n
  rw [sumN_eq n fun i hi=>h i (by omega),h n (by omega)]
theorem sumN_mul (c:Nat) (f:Nat->Nat):∀ n,sumN n (fun i=>c*f i)=c*sumN n f
 | 0=>rfl
 |n+1=>by
  show sumN n (fun i=>c*f i)+c*f n=c*(sumN n f+f n)
  rw [sumN_mul c f n,Nat.mul_add]
theorem sumN_head (f:Nat->Nat) (n:Nat):sumN (n+1) f=f 0+sumN n (fun i=>f (i+1)):=by
 rw [Nat.add_comm n 1,sumN_add 1 f n]
 show 0+f 0+_=_
 rw [Nat.zero_add]
 congr 1
 exact sumN_eq n fun i _=>by rw [Nat.add_comm]
theorem sumN_grid (L:Nat) (f:Nat->Nat->Nat):∀ m,sumN (m*L) (fun j=>f (j/L) (j%L))=sumN m (fun i=>sumN L (f i))
 | 0=>by rw [Nat.zero_mul];rfl
 |m+1=>by
  rw [Nat.add_mul,Nat.one_mul,sumN_add,sumN_grid L f m]
  show _=sumN m _+sumN L (f m)
  congr 1
  refine sumN_eq L fun j hj=>?_
  have hL:0<L:=by omega
  rw [Nat.mul_comm m L,Nat.mul_add_div hL,Nat.mul_add_mod,Nat.div_eq_of_lt hj,Nat.mod_eq_of_lt hj,Nat.add_zero]
theorem wR_app:∀ l m:List D,wR (l++m)=wR l+wR m
 | [],m=>by rw [List.nil_append];simp [wR]
 |x::l,m=>by
  show wD x+wR (l++m)=wD x+wR l+wR m
  rw [wR_app l m];omega
theorem wRs_app:∀ l m:List (List D),wRs (l++m)=wRs l+wRs m
 | [],m=>by rw [List.nil_append];simp [wRs]
 |x::l,m=>by
  show 1+wR x+wRs (l++m)=1+wR x+wRs l+wRs m
  rw [wRs_app l m];omega
theorem wR_map (g:Nat->D):∀ n,wR ((List.range n).map g)=sumN n (fun j=>wD (g j))
 | 0=>rfl
 |n+1=>by
  rw [List.range_succ,List.map_append,wR_app,wR_map g n]
  show _+(wD (g n)+0)=_
  rfl
theorem wRs_map (g:Nat->List D):∀ n,wRs ((List.range n).map g)=sumN n (fun i=>1+wR (g i))
 | 0=>rfl
 |n+1=>by
  rw [List.range_succ,List.map_append,wRs_app,wRs_map g n]
  show _+(1+wR (g n)+0)=_
  rfl
theorem wRs_mem:∀ {l:List (List D)} {r:List D},r∈l->1+wR r<=wRs l
 | [],r,h=>by cases h
 |x::l,r,h=>by
  show _<=1+wR x+wRs l
  rcases List.mem_cons.1 h with rfl |h
  ·omega
  ·have:=wRs_mem h;omega
theorem wR_mem:∀ {l:List D} {x:D},x∈l->wD x<=wR l
 | [],x,h=>by cases h
 |y::l,x,h=>by
  show _<=wD y+wR l
  rcases List.mem_cons.1 h with rfl |h
  ·omega
  ·have:=wR_mem h;omega
theorem wRs_len:∀ l:List (List D),l.length<=wRs l
 | []=>Nat.le_refl _
 |x::l=>by
  have:=wRs_len l
  show l.length+1<=1+wR x+wRs l
  omega
theorem wD_len (d:D):d.len<wD d:=by
 cases d with
 |l rows=>
  have:=wRs_len rows
  show rows.length<1+wRs rows
  omega
 |i n=>exact Nat.zero_lt_one
 |b n=>exact Nat.zero_lt_one
 |s n=>show 0<1+n.size;omega
theorem wD_el {d:D} {i:Nat} (j:Nat) (h:i<d.len):wD (d.el i j)<wD d:=by
 cases d with
 |l rows=>
  have h':i<rows.length:=h
  have e:(D.l rows).el i j=(rows[i]).getD j (.i 0):=by
   show (rows.getD i []).getD j (.i 0)=_
   rw [List.getD_eq_getElem?_getD (l:=rows),List.getElem?_eq_getElem h',Option.getD_some]
  rw [e,List.getD_eq_getElem?_getD]
  have h1:=wRs_mem (List.getElem_mem h')
  show _<1+wRs rows
  cases hj:(rows[i])[j]? with
  |none=>
   show 1<_
   omega
  |some x=>
   have:=wR_mem (List.mem_of_getElem? hj)
   rw [Option.getD_some]
   omega
 |i n=>exact absurd h (Nat.not_lt_zero i)
 |b n=>exact absurd h (Nat.not_lt_zero i)
 |s n=>exact absurd h (Nat.not_lt_zero i)
theorem wD_str (d:D):d.toS.size<wD d:=by
 cases d with
 |s t=>show t.size<1+t.size;omega
 |l rows=>show 0<1+wRs rows;omega
 |i n=>exact Nat.zero_lt_one
 |b n=>exact Nat.zero_lt_one
def CellsU (fz:Fz) (ks:List K) (cs:List Value) (b:Nat):Prop:=cs.length=ks.length/\∃ g:Nat->D,(∀ (j:Nat) k,ks[j]? = some k->∃ u,cs[j]? = some u/\TRel fz k (g j) u/\DOk k (g j))/\sumN ks.length (fun j=>wD (g j))+1<=2*b
theorem cellsU_one {fz:Fz} {k:K} {v:Value} {d:D} {b:Nat} (h:TRel fz k d v) (hd:DOk k d) (hb:wD d+1<=2*b):CellsU fz [k] [v] b:=⟨rfl,fun _=>d,fun j k' hk=>by
 cases j with
 |zero=>simp only [List.getElem?_cons_zero,Option.some.injEq] at hk;subst hk;exact ⟨v,rfl,h,hd⟩
 |succ j=>simp at hk,by show 0+wD d+1<=_;omega⟩
section
variable {P:Program} {tt:TT} {H:Type} {enc:TypeId × Value->H} {w:World} {base:Nat} {spare:Nat->Bool} {held:Bool}
def bl (l:List (DataW H)) (i:Nat):Nat:=match l[i]? with |some d=>Rows.uptoBulk d |none=>0
theorem bl_all:∀ l:List (DataW H),Rows.uptoBulkAll l=sumN l.length (bl l)
 | []=>by simp [Rows.uptoBulkAll];rfl
 |d::l=>by
  rw [List.length_cons,sumN_head,Rows.uptoBulkAll,bl_all l]
  rfl
theorem bl_get {l:List (DataW H × List MemPlace)} {i:Nat} (h:i<l.length):bl (l.map (·.1)) i=Rows.uptoBulk (l[i]).1:=by
 unfold bl
 rw [List.getElem?_map,List.getElem?_eq_getElem h]
 rfl
theorem kF_inU {n:Nat} {f:Nat} (ih:∀ (t:TypeId) (ks:List K) (cs:List Value) x,kT tt f t=some ks->DataW.trod enc P w base spare held n t cs=some x->CellsU (cellsAt w) ks cs (Rows.uptoBulk x.1)) {cs:List Value} :
 ∀ (fs:List (TypeId × Nat)) (q:Nat) (ks:List K) (bs:Nat->Nat),kF (kT tt f) fs q=some ks->(∀ (i:Nat) p,fs[i]? = some p->∃ x,DataW.trod enc P w base spare held n p.1 ((cs.drop p.2).take (P.cellsOf p.1))=some x/\Rows.uptoBulk x.1<=bs i) ->
   ∃ g:Nat->D,(∀ (j:Nat) k,ks[j]? = some k->∃ u,cs[q+j]? = some u/\TRel (cellsAt w) k (g j) u/\DOk k (g j))/\sumN ks.length (fun j=>wD (g j))<=2*sumN fs.length bs
 | [],q,ks,bs,h,_=>by
   simp only [kF,Option.some.injEq] at h
   subst h
   exact ⟨fun _=>.i 0,fun j k hk=>by simp at hk,Nat.zero_le _⟩
 |(T,o)::r,q,ks,bs,h,hf=>by
  simp only [kF] at h
  split at h
  ·rename_i ho
   obtain rfl:=Nat.eq_of_beq_eq_true ho
   split at h
   ·rename_i a ha
    split at h
    ·rename_i b hb
     obtain rfl:=by simpa using h
     obtain ⟨x,hx,hw⟩:=hf 0 (T,o) rfl
     obtain ⟨h1,g1,h2,h3⟩:=ih T a _ x ha hx
     obtain ⟨g2,h4,h5⟩:=kF_inU ih r (o+a.length) b (fun i=>bs (i+1)) hb (fun i p hp=>hf (i+1) p (by simpa using hp))
     refine ⟨fun j=>if j<a.length then g1 j else g2 (j-a.length),fun j k hk=>?_,?_⟩
     ·by_cases hj:j<a.length
      ·rw [List.getElem?_append_left hj] at hk
       obtain ⟨u,hu,hr,hd⟩:=h2 j k hk
       simp only [if_pos hj]
       refine ⟨u,?_,hr,hd⟩
       have hlt:=lt_of_get hu
       rw [List.length_take] at hlt
       rw [List.getElem?_take_of_lt (by omega),List.getElem?_drop] at hu
       exact hu
      ·rw [List.getElem?_append_right (by omega)] at hk
       obtain ⟨u,hu,hr,hd⟩:=h4 (j-a.length) k hk
       simp only [if_neg hj]
       exact ⟨u,by rw [<- hu];congr 1;omega,hr,hd⟩
     ·rw [List.length_append,sumN_add,List.length_cons,sumN_head,Nat.mul_add]
      refine Nat.add_le_add ?_ ?_
      ·rw [sumN_eq (g:=fun j=>wD (g1 j)) a.length fun i hi=>by dsimp only;rw [if_pos hi]]
       omega
      ·rw [sumN_eq (g:=fun j=>wD (g2 j)) b.length fun i hi=>by dsimp only;rw [if_neg (by omega),Nat.add_sub_cancel_left]]
       exact h5
    ·cases h
   ·cases h
  ·cases h
theorem in_cellsU (htt:TTOK P tt) (hka:kAll tt=true):∀ (n f:Nat) (t:TypeId) (ks:List K) (cs:List Value) x,kT tt f t=some ks->DataW.trod enc P w base spare held n t cs=some x->CellsU (cellsAt w) ks cs (Rows.uptoBulk x.1)
 | 0,f,t,ks,cs,x,_,h=>by simp [DataW.trod] at h
 |n+1,0,t,ks,cs,x,hk,h=>by simp [kT] at hk
 |n+1,f+1,t,ks,cs,x,hk,h=>by
  unfold kT at hk
  split at hk
  ·rename_i hu
   obtain ⟨d,hd,hq⟩:=tt_u htt hu
   obtain rfl:d = .bool:=by cases d<;>simp [uOf] at hq<;>rfl
   obtain ⟨b,rfl,rfl⟩:=DataW.trod_bool hd h
   obtain rfl:=by simpa using hk
   exact cellsU_one (.bool (.b b)) (.bool _) (Nat.le_refl 2)
  ·rename_i k hu
   obtain ⟨d,hd,hq⟩:=tt_u htt hu
   obtain rfl:d = .int k:=by cases d<;>simp [uOf] at hq<;>rw [hq]
   obtain ⟨b,rfl,rfl,hw⟩:=DataW.trod_int hd h
   obtain rfl:=by simpa using hk
   exact cellsU_one (.int k (.i b)) (.int _ _ hw) (Nat.le_refl 2)
  ·rename_i hu
   obtain ⟨d,hd,hq⟩:=tt_u htt hu
   obtain rfl:d = .string:=by cases d<;>simp [uOf] at hq<;>rfl
   obtain ⟨b,rfl,rfl,hw⟩:=DataW.trod_string hd h
   obtain rfl:=by simpa using hk
   refine cellsU_one (.str (.s b)) (.str _ hw) ?_
   rw [Rows.uptoBulk]
   have e:b.data.toList.length=b.size:=by rw [Array.length_toList];rfl
   show 1+b.size+1<=2*(b.data.toList.length+1)
   omega
  ·rename_i e hu
   obtain ⟨d,hd,hq⟩:=tt_u htt hu
   obtain rfl:d = .slice e:=by cases d<;>simp [uOf] at hq<;>rw [hq]
   split at hk
   ·rename_i kse hkse
    obtain rfl:=by simpa using hk
    obtain ⟨hek,hpos,q,z,hq1,hq2,_⟩:=tt_ks htt hkse
    have hce:P.cellsOf e=(eks e).length:=by simp [Program.cellsOf,hq1,hq2,hek]
    rcases DataW.trod_slice hd h with ⟨rfl,rfl⟩ |⟨a,len,cap,elems,rest,m,hm,rfl,rfl,_,hlc,hcm,hel,hget,_⟩
    ·exact cellsU_one (.nil e (.l []) rfl) (.slice _ _ (Nat.zero_le _) (fun i j k hi=>absurd hi (Nat.not_lt_zero i))) (by rw [Rows.uptoBulk];show 1+0+1<=2*1;omega)
    ·obtain rfl:n=m:=by omega
     rw [Rows.uptoBulk,bl_all,List.length_map,hel]
     by_cases h0:len=0
     ·subst h0
      exact cellsU_one (.empty e (.l []) a cap rfl) (.slice _ _ (Nat.zero_le _) (fun i j k hi=>absurd hi (Nat.not_lt_zero i))) (by show 1+0+1<=2*(_+1);omega)
     ·have each0:∀ i:Nat,∃ g:Nat->D,i<len->(∀ (j:Nat) k,(eks e)[j]? = some k->∃ u,w.cell? (a.add (i*(eks e).length+j))=some u/\TRel (cellsAt w) k (g j) u/\DOk k (g j))/\sumN (eks e).length (fun j=>wD (g j))+1<=2*bl (elems.map (·.1)) i:=fun i=>by
       by_cases hi:i<len
       ·have h1:=hget i hi
        rw [List.getElem?_eq_getElem (by omega)] at h1
        obtain ⟨cs',g1,g2⟩:=Option.bind_eq_some_iff.1 h1
        obtain ⟨g3,g,g4,g5⟩:=in_cellsU htt hka n 9 e kse cs' _ (kAll_ks hka hkse) g2
        refine ⟨g,fun _=>⟨fun j k hj=>?_,?_⟩⟩
        ·obtain ⟨u,hu,hr⟩:=g4 j k (by rw [<- hek];exact hj)
         obtain ⟨_,_,hc⟩:=World.cells?_some g1
         have:=hc j (by rw [hce];exact lt_of_get hj)
         rw [hu,hce,addr_add2] at this
         exact ⟨u,this,hr⟩
        ·rw [bl_get (by omega),hek]
         exact g5
       ·exact ⟨fun _=>.i 0,fun hi'=>absurd hi' hi⟩
      obtain ⟨G,hG⟩:=Classical.skolem.1 each0
      have hsp:a.spot=none:=by
       obtain ⟨k0,hk0⟩:∃ k0,(eks e)[0]? = some k0:=⟨_,List.getElem?_eq_getElem (by rw [hek];exact hpos)⟩
       obtain ⟨u,hu,_⟩:=(hG 0 (by omega)).1 0 k0 hk0
       have:=(cellsAt_cell hu).1
       simpa [Addr.add] using this
      obtain ⟨ab,ao,as1⟩:=a
      obtain rfl:as1=none:=hsp
      have each:∀ p:Nat × Nat,∃ u:Value,p.1<len->∀ k,(eks e)[p.2]? = some k->w.cell? ((⟨ab,ao,none⟩:Addr).add (p.1*(eks e).length+p.2))=some u/\TRel (cellsAt w) k (G p.1 p.2) u/\DOk k (G p.1 p.2):=fun p=>by
       by_cases hp:p.1<len
       ·cases hk:(eks e)[p.2]? with
        |none=>exact ⟨undef,fun _ k hk'=>by cases hk'⟩
        |some k=>
         obtain ⟨u,hh⟩:=(hG p.1 hp).1 p.2 k hk
         exact ⟨u,fun _ k' hk'=>by cases hk';exact hh⟩
       ·exact ⟨undef,fun hp'=>absurd hp' hp⟩
      obtain ⟨F,hF⟩:=Classical.skolem.1 each
      have hwd:wD (D.l ((List.range len).map fun i=>(List.range (eks e).length).map fun j=>G i j))=1+sumN len (fun i=>1+sumN (eks e).length (fun j=>wD (G i j))):=by
       show 1+wRs _=_
       rw [wRs_map]
       congr 1
       exact sumN_eq len fun i _=>by rw [wR_map]
      have hdl:(D.l ((List.range len).map fun i=>(List.range (eks e).length).map fun j=>G i j)).len=len:=by
       show ((List.range len).map _).length=len
       simp
      have hde:∀ i j,i<len->j<(eks e).length->(D.l ((List.range len).map fun i=>(List.range (eks e).length).map fun j=>G i j)).el i j=G i j:=fun i j hi hj=>by
       show (((List.range len).map fun i=>(List.range (eks e).length).map fun j=>G i j).getD i []).getD j (.i 0)=_
       rw [List.getD_eq_getElem?_getD,List.getD_eq_getElem?_getD,List.getElem?_map,List.getElem?_range hi]
       simp only [Option.map_some,Option.getD_some]
       rw [List.getElem?_map,List.getElem?_range hj]
       rfl
      generalize hdd:D.l ((List.range len).map fun i=>(List.range (eks e).length).map fun j=>G i j)=dd at hdl hde hwd
      refine cellsU_one (d:=dd) ?_ (.slice _ _ (by omega) fun i j k hi hk=>?_) ?_
      ·rw [<- hdl]
       refine .slice e dd ab ao cap (fun i j=>F (i,j)) (by omega) (fun i j hi hj=>?_) (fun i j k hi hk=>?_)
       ·obtain ⟨g1,_⟩:=hF (i,j) (by rw [<- hdl];exact hi) _ (List.getElem?_eq_getElem hj)
        have:=(cellsAt_cell g1).2
        rw [Sx.addr_add] at this
        rw [Nat.add_assoc]
        exact this
       ·rw [hde i j (by rw [<- hdl];exact hi) (lt_of_get hk)]
        exact (hF (i,j) (by rw [<- hdl];exact hi) k hk).2.1
      ·rw [hde i j (by rw [<- hdl];exact hi) (lt_of_get hk)]
       exact (hF (i,j) (by rw [<- hdl];exact hi) k hk).2.2
      ·rw [hwd]
       have:=sumN_le (f:=fun i=>1+sumN (eks e).length (fun j=>wD (G i j))) (g:=fun i=>2*bl (elems.map (·.1)) i) len fun i hi=>by
        have:=(hG i hi).2
        omega
       rw [sumN_mul] at this
       omega
   ·cases hk
  ·rename_i m e hu
   obtain ⟨d,hd,hq⟩:=tt_u htt hu
   obtain rfl:d = .array m e:=by cases d<;>simp [uOf] at hq<;>rw [hq.1,hq.2]
   split at hk
   ·rename_i kse hkse
    split at hk
    ·rename_i kse' hse
     obtain ⟨_,hsze⟩:=szOK_some hse
     obtain ⟨rfl,hsz⟩:=szOK_some hk
     obtain ⟨xs,m',hm,rfl,hl,hxl,hel⟩:=DataW.trod_array hd h
     obtain rfl:n=m':=by omega
     have hl':cs.length=(List.replicate m kse).flatten.length:=by rw [hl,szT_cells htt hsz]
     have hce:P.cellsOf e=kse.length:=szT_cells htt hsze
     have hfl:(List.replicate m kse).flatten.length=m*kse.length:=by simp
     have each0:∀ i:Nat,∃ g:Nat->D,i<m->(∀ (j:Nat) k,kse[j]? = some k->∃ u,((cs.drop (i*P.cellsOf e)).take (P.cellsOf e))[j]? = some u/\TRel (cellsAt w) k (g j) u/\DOk k (g j))/\sumN kse.length (fun j=>wD (g j))+1<=2*bl (xs.map (·.1)) i:=fun i=>by
      by_cases hi:i<m
      ·have h1:=hel i hi
       rw [List.getElem?_eq_getElem (by rw [hxl];exact hi)] at h1
       obtain ⟨g3,g,g4,g5⟩:=in_cellsU htt hka n f e kse _ _ hkse h1
       exact ⟨g,fun _=>⟨g4,by rw [bl_get (by rw [hxl];exact hi)];exact g5⟩⟩
      ·exact ⟨fun _=>.i 0,fun hi'=>absurd hi' hi⟩
     obtain ⟨G,hG⟩:=Classical.skolem.1 each0
     refine ⟨hl',fun j=>G (j/kse.length) (j%kse.length),fun j k hj=>?_,?_⟩
     ·rw [flat_get] at hj
      split at hj
      ·rename_i hjl
       have hpos:0<kse.length:=by
        rcases Nat.eq_zero_or_pos kse.length with h0 |h0
        ·rw [h0] at hjl;simp at hjl
        ·exact h0
       have hi:j/kse.length<m:=by rw [Nat.div_lt_iff_lt_mul hpos];exact hjl
       obtain ⟨u,hu',hr,hd'⟩:=(hG (j/kse.length) hi).1 _ k hj
       refine ⟨u,?_,hr,hd'⟩
       rw [hce,List.getElem?_take_of_lt (Nat.mod_lt _ hpos),List.getElem?_drop,Nat.div_add_mod'] at hu'
       exact hu'
      ·cases hj
     ·rw [hfl,sumN_grid kse.length (fun i j=>wD (G i j)),Rows.uptoBulk,bl_all,List.length_map,hxl]
      have:=sumN_le (f:=fun i=>sumN kse.length (fun j=>wD (G i j))) (g:=fun i=>2*bl (xs.map (·.1)) i) m fun i hi=>by
       have:=(hG i hi).2
       omega
      rw [sumN_mul] at this
      omega
    ·cases hk
   ·cases hk
  ·rename_i fs hu
   obtain ⟨d,hd,hq⟩:=tt_u htt hu
   split at hk
   ·rename_i kse hkse
    obtain ⟨rfl,hsz⟩:=szOK_some hk
    obtain ⟨fa,rfl⟩:∃ fa,d = .struct fa:=by cases d<;>simp [uOf] at hq<;>exact ⟨_,rfl⟩
    obtain ⟨xs,m',hm,rfl,hl,hxl,hel⟩:=DataW.trod_struct hd h
    obtain rfl:n=m':=by omega
    simp only [uOf,UD.struct.injEq] at hq
    have hfs:fs.length=xs.length:=by rw [<- hq,List.length_map,hxl];simp
    obtain ⟨g,g1,g2⟩:=kF_inU (cs:=cs) (fun t ks cs x=>in_cellsU htt hka n f t ks cs x) fs 0 _ (bl (xs.map (·.1))) hkse (fun i p hp=>by
     rw [<- hq,List.getElem?_map] at hp
     obtain ⟨fl,hfl,rfl⟩:=Option.map_eq_some_iff.1 hp
     have hi:i<xs.length:=by rw [<- hfs,<- hq,List.length_map];exact lt_of_get hfl
     have h1:=hel i fl (by rw [<- Array.getElem?_toList];exact hfl)
     rw [List.getElem?_eq_getElem hi] at h1
     exact ⟨_,h1,by rw [bl_get hi];exact Nat.le_refl _⟩)
    refine ⟨by rw [hl,szT_cells htt hsz],g,fun j k hj=>?_,?_⟩
    ·have:=g1 j k hj
     rw [Nat.zero_add] at this
     exact this
    ·rw [Rows.uptoBulk,bl_all,List.length_map,<- hfs]
     omega
   ·cases hk
  ·cases hk
theorem val_inU (htt:TTOK P tt) (hka:kAll tt=true) {T:TypeId} {v:Value} {dw:DataW H} {ps:List MemPlace} (h:DataW.Trod enc P w base spare held T v dw ps) {w1:World} {r:Reach} {b0:Nat} (hok:Value.okWide P w1 r b0 T v) :
 ∃ d:D,DatIn tt T d/\wD d<=2*Rows.uptoBulk dw+1/\∀ sv,inV tt T d=some sv->UR (Map.at0 (cellsAt w)) sv v:=by
 cases hk:kT tt 9 T with
 |none=>exact ⟨.i 0,(fun ks h=>by rw [hk] at h;cases h),Nat.le_add_left _ _,fun sv hs=>by unfold inV at hs;rw [hk] at hs;cases hs⟩
 |some ks=>
 obtain ⟨fuel,hf⟩:=h
 obtain ⟨h1,F,h2,h3⟩:=in_cellsU htt hka fuel 9 T ks _ _ hk hf
 have hde:∀ j,j<ks.length->(D.l [(List.range ks.length).map F]).el 0 j=F j:=fun j hj=>by
  show ((List.range ks.length).map F).getD j (.i 0)=F j
  rw [List.getD_eq_getElem?_getD,List.getElem?_map,List.getElem?_range hj]
  rfl
 have hE:∀ (j:Nat) k,ks[j]? = some k->∃ u,v.cells.toList[j]? = some u/\TRel (Map.at0 (cellsAt w)).fz k ((D.l [(List.range ks.length).map F]).el 0 j) u:=fun j k hj=>by
  obtain ⟨u,g1,g2,_⟩:=h2 j k hj
  rw [hde j (lt_of_get hj)]
  exact ⟨u,g1,g2⟩
 refine ⟨.l [(List.range ks.length).map F],?_,?_,fun sv hs=>?_⟩
 ·intro ks' hks' j k hj
  rw [hk] at hks'
  obtain rfl:=Option.some.inj hks'
  obtain ⟨u,_,_,g3⟩:=h2 j k hj
  rw [hde j (lt_of_get hj)]
  exact g3
 ·have h3:_<=2*Rows.uptoBulk dw:=h3
  show 1+(1+wR ((List.range ks.length).map F)+0)<=_
  rw [wR_map]
  omega
 ·unfold inV at hs
  rw [hk] at hs
  split at hs
  ·rename_i k hks hsh
   obtain rfl:=by simpa using hks
   obtain ⟨dd,hd,hda⟩:=shapeOf_none (tt_shape htt hsh)
   have hc:=not_agg hd hda hok
   split at hs
   ·rename_i c hcc
    obtain rfl:=by simpa using hs
    obtain ⟨u,g1,g2⟩:=hE 0 k rfl
    rw [hc] at g1
    obtain rfl:v=u:=by simpa using g1
    exact cellSC_spec hcc g2
   ·cases hs
  ·rename_i ks' L hks hsh
   obtain rfl:=by simpa using hks
   obtain ⟨dd,i,hd,hda,_,_⟩:=shapeOf_some (tt_shape htt hsh)
   obtain ⟨cs,rfl⟩:=is_agg hd hda hok
   split at hs
   ·rename_i hsz
    split at hs
    ·rename_i s hss
     obtain rfl:=by simpa using hs
     obtain ⟨e1,e2⟩:=elSegs_val hE L 0 s hss
     refine ⟨cs,rfl,?_,fun i x u hx hu=>?_⟩
     ·rw [e1,Nat.eq_of_beq_eq_true hsz,<- h1];rfl
     ·obtain ⟨u',g1,g2⟩:=e2 i x hx
      rw [Nat.zero_add] at g1
      have:u=u':=by
       have h3:cs.toList[i]? = some u':=g1
       rw [hu] at h3
       exact Option.some.inj h3
      rw [this];exact g2
    ·cases hs
   ·cases hs
  ·cases hs
theorem args_inU (htt:TTOK P tt) (hka:kAll tt=true):∀ (Ts:List TypeId) (vs:List Value) (ds:List (DataW H)) (ps:List MemPlace),DataW.TrodAll enc P w base spare held Ts vs ds ps->∀ {w1:World} {r:Reach} {b0:Nat},(∀ (j:Nat) t v,Ts[j]? = some t->vs[j]? = some v->Value.okWide P w1 r b0 t v) ->
 ∃ Ds:List D,DsOk tt Ts Ds/\(∀ d∈Ds,wD d<=2*Rows.uptoBulkAll ds+1)/\∀ svs,inVs tt Ts Ds=some svs->ArgsRel (Map.at0 (cellsAt w)) svs vs
 | [],vs,ds,ps,h,_,_,_,_=>by
   obtain ⟨rfl,_⟩:=Go.ChangeShapes.trodAll_nil h
   exact ⟨[],trivial,fun _ h=>(by cases h),fun svs hs=>by simp only [inVs,Option.some.injEq] at hs;subst hs;trivial⟩
 |T::Ts,vs,ds,ps,h,_,_,_,hok=>by
  obtain ⟨v,vs',d,ds',p,q,rfl,rfl,_,h1,h2⟩:=Go.ChangeShapes.trodAll_cons h
  obtain ⟨d0,a1,a3,a2⟩:=val_inU htt hka h1 (hok 0 T v rfl rfl)
  obtain ⟨D0,b1,b3,b2⟩:=args_inU htt hka Ts vs' ds' q h2 (fun j t v ht hv=>hok (j+1) t v (by simpa using ht) (by simpa using hv))
  refine ⟨d0::D0,⟨a1,b1⟩,fun x hx=>?_,fun svs hs=>?_⟩
  ·rw [Rows.uptoBulkAll]
   rcases List.mem_cons.1 hx with rfl |hx
   ·omega
   ·have:=b3 x hx;omega
  simp only [inVs] at hs
  split at hs
  ·rename_i x r hx hr
   obtain rfl:=by simpa using hs
   exact ⟨a2 _ hx,b2 _ hr⟩
  ·cases hs
theorem law_inU (htt:TTOK P tt) (hka:kAll tt=true) {f:FuncId} {c:Con} (hc:ConOK P f c) {params:Array TypeId} {args:Array Value} {ds:List (DataW H)} {ps:List MemPlace} (h:DataW.TrodAll enc P w base spare held params.toList args.toList ds ps) (hb:Rows.uptoBulkAll ds<=1048576)
 {w1:World} {r:Reach} {b0:Nat} (hok:∀ (j:Nat) t v,params[j]? = some t->args[j]? = some v->Value.okWide P w1 r b0 t v) (hl:∀ Ds,DsOk tt params.toList Ds->(∀ d∈Ds,wD d<=2097153)->lawOb tt c params.toList Ds) (ht:TabF (cellsAt w)) :
 Calls P f args w fun e w'=>e = .returned (.bool true)/\Below w.heap.size w w':=by
 obtain ⟨Ds,h1,h0,h2⟩:=args_inU htt hka _ _ _ _ h (fun j t v ht hv=>hok j t v (by simpa using ht) (by simpa using hv))
 have h3:=hl Ds h1 (fun d hd=>Nat.le_trans (h0 d hd) (by omega))
 unfold lawOb at h3
 split at h3
 ·rename_i svs hs
  split at h3
  ·rename_i e he
   split at h3
   ·rename_i b hv hst
    have:=hc.calls [] 0 svs e he h3.2 _ w _ args.toList (wh_nil w ht) (fun _ _ _=>rfl) (h2 svs hs)
    rw [Array.toArray_toList] at this
    refine this.mono ?_
    rintro en w' ⟨ρ',v,rfl,g1,g2⟩
    refine ⟨?_,g2.below.1,g2.below.2,g2.below.3,g2.below.size,fun k hk=>g2.keep k hk fun _ _ h=>by rw [hst] at h;simp [look] at h⟩
    rw [hv] at g1
    have:v = .bool b.v:=g1
    rw [this,h3.1]
   ·exact h3.elim
  ·exact h3.elim
 ·exact h3.elim
end
end Go.Proofs.Ytbhbjhejkamlnaa.Sx
