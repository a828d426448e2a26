/- Texts side by side. -/
import Derived.WalkLawsBesides
import Derived.Laws.Externs
import Derived.ChangeSlices
import Derived.Lib.SmallJoins
import Derived.Test.YtcccdikhfgpamaaGreatUfak
set_option linter.unusedVariables false
set_option linter.unusedSimpArgs false
set_option maxRecDepth 100000
set_option maxHeartbeats 16000000
namespace Go.Proofs.YtcccdikhfgpamaaGreat
open Kap Go.ChangeShapes Go.WideShapes Go.RowKit
namespace Bnd
open Go.ChangeAt Flo
variable {p:Int} {R S b:Nat}
theorem run18(n:Int)(w:Go.World):(callFunc 22 #[.int .u64 n]).run Tryz.prog w= .ok (.value (.float .f64 n.toNat)) w:=
 run_callFunc_extern Tryz.func22 (by kernel_rfl) (by kernel_rfl) (by kernel_rfl) (e:=Extern.MathFloatBits.float64frombits) (by kernel_rfl) _ w
theorem right_any(b:Nat)(w:Go.World):
  Calls Tryz.prog 147 #[.float .f64 b] w fun e w'=>e= .returned (.bool (rightB b))∧w=w':=by
 go_enter Tryz.func147,Tryz.ntmps147
 go_wp2
 go_ret;exact⟨rfl,rfl⟩
theorem rright_any(b:Nat)(w:Go.World):
  Calls Tryz.prog 21 #[.float .f64 b] w fun e w'=>e= .returned (.bool (rightB b))∧w=w':=by
 go_enter Tryz.func21,Tryz.ntmps21
 go_wp2
 go_ret;exact⟨rfl,rfl⟩
theorem reach_hi(p:Int)(b r:Nat)(w:Go.World)(h:floatBits .mul .f64 (floatOfInt .f64 p) b=some r)(hg:(FloatKind.f64.format.order r 4787326403894837248==some .gt)=true):
  Calls Tryz.prog 169 #[.int .i64 p,.float .f64 b] w fun e w'=>e= .returned (.int .i64 1099511627776)∧w=w':=by
 have a: ∀t w,(binOp .mul t (.float .f64 (floatOfInt .f64 p)) (.float .f64 b)).run Tryz.prog w= .ok (.float .f64 r) w:=fun t w=>run_float_arith w .mul t .f64 _ b r h
 clear h
 go_enter Tryz.func169,Tryz.ntmps169
 go_wp2_with (simp only[a])
 go_ret;exact⟨rfl,rfl⟩
theorem reach_lo(p:Int)(b r:Nat)(n:Int)(w:Go.World)(h:floatBits .mul .f64 (floatOfInt .f64 p) b=some r)(hg:(FloatKind.f64.format.order r 4787326403894837248==some .gt)=false)
  (hn:floatToIntVal .f64 r .i64=some n):
  Calls Tryz.prog 169 #[.int .i64 p,.float .f64 b] w fun e w'=>e= .returned (.int .i64 n)∧w=w':=by
 have a: ∀t w,(binOp .mul t (.float .f64 (floatOfInt .f64 p)) (.float .f64 b)).run Tryz.prog w= .ok (.float .f64 r) w:=fun t w=>run_float_arith w .mul t .f64 _ b r h
 have c:=fun w=>run_convert_float_int w 84 2 .f64 .i64 r n (by rw[Tryz.underlying84];rfl) Tryz.underlying2 hn
 clear h hn
 go_enter Tryz.func169,Tryz.ntmps169
 go_wp2_with (first|simp only[a]|simp only[c])
 go_ret;exact⟨rfl,rfl⟩
theorem far_hi(p:Int)(b r:Nat)(w:Go.World)(h:floatBits .mul .f64 (floatOfInt .f64 p) b=some r)(hg:(FloatKind.f64.format.order r 4787326403894837248==some .gt||FloatKind.f64.format.order r 4787326403894837248==some .eq)=true):
  Calls Tryz.prog 166 #[.int .i64 p,.float .f64 b] w fun e w'=>e= .returned (.int .i64 1099511627776)∧w=w':=by
 have a: ∀t w,(binOp .mul t (.float .f64 (floatOfInt .f64 p)) (.float .f64 b)).run Tryz.prog w= .ok (.float .f64 r) w:=fun t w=>run_float_arith w .mul t .f64 _ b r h
 clear h;generalize c:(FloatKind.f64.format.order r 4787326403894837248==some .gt||FloatKind.f64.format.order r 4787326403894837248==some .eq)=q at hg;subst hg
 go_enter Tryz.func166,Tryz.ntmps166
 go_wp2_with (simp only[a])
 go_ret;exact⟨rfl,rfl⟩
theorem far_lo(p:Int)(b r:Nat)(n:Int)(w:Go.World)(h:floatBits .mul .f64 (floatOfInt .f64 p) b=some r)(hg:(FloatKind.f64.format.order r 4787326403894837248==some .gt)=false)(hg':(FloatKind.f64.format.order r 4787326403894837248==some .eq)=false)
  (hn:floatToIntVal .f64 r .i64=some n):
  Calls Tryz.prog 166 #[.int .i64 p,.float .f64 b] w fun e w'=>e= .returned (.int .i64 n)∧w=w':=by
 have a: ∀t w,(binOp .mul t (.float .f64 (floatOfInt .f64 p)) (.float .f64 b)).run Tryz.prog w= .ok (.float .f64 r) w:=fun t w=>run_float_arith w .mul t .f64 _ b r h
 have c:=fun w=>run_convert_float_int w 84 2 .f64 .i64 r n (by rw[Tryz.underlying84];rfl) Tryz.underlying2 hn
 clear h hn
 go_enter Tryz.func166,Tryz.ntmps166
 go_wp2_with (first|simp only[a]|simp only[c])
 go_ret;exact⟨rfl,rfl⟩
def distR(R:Nat):Int:=if R40<R then 1099511627776 else (D R:Int)
def dist(p:Int)(b:Nat):Int:=distR (PR (RP p.toNat) (rungOf b))
theorem distR_bd(R:Nat):0≤distR R∧distR R≤1099511627776:=by
 unfold distR;split
 ·omega
 ·have:=D_le (R:=R) (by omega);omega
theorem dist_bd(p:Int)(b:Nat):0≤dist p b∧dist p b≤1099511627776:=distR_bd _
theorem prod_word(p:Int)(b:Nat)(hp:1≤p)(hp':p≤1099511627776)(hb:Frac b):
  ∃t,floatBits .mul .f64 (floatOfInt .f64 p) b=some (Ieee.double.word t (PR (RP p.toNat) (rungOf b)))∧(t=true→PR (RP p.toNat) (rungOf b)=0):=by
 obtain⟨t,R,rfl,a,c⟩:=hb;rw[word_rung t R a,ofInt_word p (by omega)];have d:=RP_bd p.toNat (by omega) (by omega);exact⟨t,mul_word _ R t d.1 d.2 a c,fun h=>by rw[c h,PR_zero]⟩
theorem ord40(t:Bool)(R:Nat)(hR:R≤INF)(ht:t=true→R=0):FloatKind.f64.format.order (Ieee.double.word t R) 4787326403894837248=some (compare R R40):=by
 have:=order_word t false R R40 hR (by unfold R40 INF;omega) ht (by simp);exact this
theorem reach_any(p:Int)(b:Nat)(w:Go.World)(hp:1≤p)(hp':p≤1099511627776)(hb:Frac b):
  Calls Tryz.prog 169 #[.int .i64 p,.float .f64 b] w fun e w'=>e= .returned (.int .i64 (dist p b))∧w=w':=by
 obtain⟨t,a,c⟩:=prod_word p b hp hp' hb;have f:=PR_inf (RP p.toNat) (rungOf b);unfold dist;generalize PR (RP p.toNat) (rungOf b)=R at *;have d:=ord40 t R f c;by_cases hg:R40<R
 ·have e:distR R=1099511627776:=by unfold distR;rw[if_pos hg]
  rw[e];exact reach_hi p b _ w a (by rw[d,Nat.compare_eq_gt.2 hg];rfl)
 ·have e:distR R=D R:=by unfold distR;rw[if_neg hg]
  rw[e];refine reach_lo p b _ _ w a ?_ (toIntVal_word t R (by omega) c);rw[d];by_cases he:R=R40
  ·rw[he,Nat.compare_eq_eq.2 rfl];rfl
  ·rw[Nat.compare_eq_lt.2 (by omega)];rfl
theorem far_any(p:Int)(b:Nat)(w:Go.World)(hp:1≤p)(hp':p≤1099511627776)(hb:Frac b):
  Calls Tryz.prog 166 #[.int .i64 p,.float .f64 b] w fun e w'=>e= .returned (.int .i64 (dist p b))∧w=w':=by
 obtain⟨t,c,d⟩:=prod_word p b hp hp' hb;have f:=PR_inf (RP p.toNat) (rungOf b);unfold dist;generalize PR (RP p.toNat) (rungOf b)=R at *;have a:=ord40 t R f d;by_cases hg:R40<R
 ·have e:distR R=1099511627776:=by unfold distR;rw[if_pos hg]
  rw[e];exact far_hi p b _ w c (by rw[a,Nat.compare_eq_gt.2 hg];rfl)
 ·by_cases he:R=R40
  ·have e:distR R=1099511627776:=by unfold distR;rw[if_neg hg,he,D_40];rfl
   rw[e];exact far_hi p b _ w c (by rw[a,Nat.compare_eq_eq.2 he];rfl)
  ·have e:distR R=D R:=by unfold distR;rw[if_neg hg]
   rw[e];exact far_lo p b _ _ w c (by rw[a,Nat.compare_eq_lt.2 (by omega)];rfl) (by rw[a,Nat.compare_eq_lt.2 (by omega)];rfl) (toIntVal_word t R (by omega) d)
def colB(p:Int)(b:Nat):Bool:=rightB b&&decide (1≤p)&&decide (p≤1099511627776)
def colLo(p:Int)(b:Nat):Int:=if colB p b then max (p-dist p b) 1 else 0
def colHi(p:Int)(b:Nat):Int:=if colB p b then min (p+dist p b) 1099511627776 else 0
def ToldC(p:Int)(b:Nat)(w:Go.World)(e:Ending)(w':Go.World):Prop:=e= .returned (.tuple #[.int .i64 (colLo p b),.int .i64 (colHi p b),.bool (colB p b)])∧w=w'
theorem colB_t(hr:rightB b=true)(hp:1≤p)(hp':p≤1099511627776):colB p b=true:=by unfold colB;simp[hr,hp,hp']
theorem colB_f(h:rightB b=false∨p<1∨1099511627776<p):colB p b=false:=by
 unfold colB;rcases h with h|h|h
 ·simp[h]
 ·have: ¬1≤p:=by omega
  simp[this]
 ·have: ¬p≤1099511627776:=by omega
  simp[this]
theorem toldC_mk{lo hi:Int}{w:Go.World}(hc:colB p b=true)(h1:lo=max (p-dist p b) 1)(h2:hi=min (p+dist p b) 1099511627776):
  ToldC p b w (.returned (.tuple #[.int .i64 lo,.int .i64 hi,.bool true])) w:=by
 refine⟨?_,rfl⟩;unfold colLo colHi;rw[hc,h1,h2];rfl
theorem toldC_no{w:Go.World}(hc:colB p b=false):
  ToldC p b w (.returned (.tuple #[.int .i64 0,.int .i64 0,.bool false])) w:=by
 refine⟨?_,rfl⟩;unfold colLo colHi;rw[hc];rfl
theorem col_any(p:Int)(b:Nat)(w:Go.World)(hb:b<18446744073709551616):
  Calls Tryz.prog 157 #[.int .i64 p,.float .f64 b] w (ToldC p b w):=by
 by_cases c:rightB b=true
 ·have f:=(right_iff hb).1 c;have g:=(dist_bd p b).1;have h:=(dist_bd p b).2;by_cases hp:p<1
  ·have a:=κ (colB_f (p:=p) (b:=b) (Or.inr (Or.inl hp)))
   go_enter Tryz.func157,Tryz.ntmps157
   go_wp2_with (first|(go_at_call 147;refine(right_any _ _).mono ?_;rintro e d ⟨rfl,rfl⟩))
   go_ret3;exact toldC_no a.o
  ·by_cases hp':1099511627776<p
   ·have a:=κ (colB_f (p:=p) (b:=b) (Or.inr (Or.inr hp')))
    go_enter Tryz.func157,Tryz.ntmps157
    go_wp2_with (first|(go_at_call 147;refine(right_any _ _).mono ?_;rintro e d ⟨rfl,rfl⟩))
    go_ret3;exact toldC_no a.o
   ·have a:=κ (colB_t c (p:=p) (by omega) (by omega))
    go_enter Tryz.func157,Tryz.ntmps157
    go_wp2_with (first|(go_at_call 147;refine(right_any _ _).mono ?_;rintro e d ⟨rfl,rfl⟩)|(go_at_call 169;refine(reach_any p b _ (by omega) (by omega) f).mono ?_;rintro e d ⟨rfl,rfl⟩))
    all_goals (go_ret3;exact toldC_mk a.o (by omega) (by omega))
 ·have c:rightB b=false:=by simpa using c
  have a:=κ (colB_f (p:=p) (Or.inl c))
  go_enter Tryz.func157,Tryz.ntmps157
  go_wp2_with (first|(go_at_call 147;refine(right_any _ _).mono ?_;rintro e d ⟨rfl,rfl⟩))
  go_ret3;exact toldC_no a.o
theorem rcol_any(p:Int)(b:Nat)(w:Go.World)(hb:b<18446744073709551616):
  Calls Tryz.prog 142 #[.int .i64 p,.float .f64 b] w (ToldC p b w):=by
 by_cases c:rightB b=true
 ·have f:=(right_iff hb).1 c;have g:=(dist_bd p b).1;have h:=(dist_bd p b).2;by_cases hp:p<1
  ·have a:=κ (colB_f (p:=p) (b:=b) (Or.inr (Or.inl hp)))
   go_enter Tryz.func142,Tryz.ntmps142
   go_wp2_with (first|(go_at_call 21;refine(rright_any _ _).mono ?_;rintro e d ⟨rfl,rfl⟩))
   go_ret3;exact toldC_no a.o
  ·by_cases hp':1099511627776<p
   ·have a:=κ (colB_f (p:=p) (b:=b) (Or.inr (Or.inr hp')))
    go_enter Tryz.func142,Tryz.ntmps142
    go_wp2_with (first|(go_at_call 21;refine(rright_any _ _).mono ?_;rintro e d ⟨rfl,rfl⟩))
    go_ret3;exact toldC_no a.o
   ·have a:=κ (colB_t c (p:=p) (by omega) (by omega))
    go_enter Tryz.func142,Tryz.ntmps142
    go_wp2_with (first|(go_at_call 21;refine(rright_any _ _).mono ?_;rintro e d ⟨rfl,rfl⟩)|(go_at_call 166;refine(far_any p b _ (by omega) (by omega) f).mono ?_;rintro e d ⟨rfl,rfl⟩))
    all_goals (go_ret3;exact toldC_mk a.o (by omega) (by omega))
 ·have c:rightB b=false:=by simpa using c
  have a:=κ (colB_f (p:=p) (Or.inl c))
  go_enter Tryz.func142,Tryz.ntmps142
  go_wp2_with (first|(go_at_call 21;refine(rright_any _ _).mono ?_;rintro e d ⟨rfl,rfl⟩))
  go_ret3;exact toldC_no a.o
def witB(p x:Int)(b:Nat):Bool:=colB p b&&decide (colLo p b≤x)&&decide (x≤colHi p b)
theorem ret_bool{a b:Bool}(h:a=b):Ending.returned (.bool a)= .returned (.bool b):=by rw[h]
theorem wit_any(p x:Int)(b:Nat)(w:Go.World)(hb:b<18446744073709551616):
  Calls Tryz.prog 130 #[.int .i64 p,.int .i64 x,.float .f64 b] w fun e w'=>e= .returned (.bool (witB p x b))∧w=w':=by
 cases hc:colB p b with
 |false=>
  have a:witB p x b=false:=by unfold witB;simp[hc]
  rw[a];clear a
  go_enter Tryz.func130,Tryz.ntmps130
  go_wp2_with (first|(go_at_call 157;refine(col_any _ _ _ hb).mono ?_;rintro e w' ⟨rfl,rfl⟩))
  go_ret;exact⟨rfl,rfl⟩
 |true=>
  have a:witB p x b=(decide (colLo p b≤x)&&decide (x≤colHi p b)):=by unfold witB;simp[hc]
  rw[a];clear a;by_cases h1:colLo p b≤x
  ·by_cases h2:x≤colHi p b
   ·have e:(decide (colLo p b≤x)&&decide (x≤colHi p b))=true:=by simp[h1,h2]
    rw[e];clear e
    go_enter Tryz.func130,Tryz.ntmps130
    go_wp2_with (first|(go_at_call 157;refine(col_any _ _ _ hb).mono ?_;rintro e w' ⟨rfl,rfl⟩))
    go_ret;exact⟨rfl,rfl⟩
   ·have e:(decide (colLo p b≤x)&&decide (x≤colHi p b))=false:=by simp[h2]
    rw[e];clear e
    go_enter Tryz.func130,Tryz.ntmps130
    go_wp2_with (first|(go_at_call 157;refine(col_any _ _ _ hb).mono ?_;rintro e w' ⟨rfl,rfl⟩))
    go_ret;exact⟨ret_bool (by simp[h2]),rfl⟩
  ·have e:(decide (colLo p b≤x)&&decide (x≤colHi p b))=false:=by simp[h1]
   rw[e];clear e
   go_enter Tryz.func130,Tryz.ntmps130
   go_wp2_with (first|(go_at_call 157;refine(col_any _ _ _ hb).mono ?_;rintro e w' ⟨rfl,rfl⟩))
   go_ret;exact⟨rfl,rfl⟩
theorem rwit_any(p x:Int)(b:Nat)(w:Go.World)(hb:b<18446744073709551616):
  Calls Tryz.prog 105 #[.int .i64 p,.int .i64 x,.float .f64 b] w fun e w'=>e= .returned (.bool (witB p x b))∧w=w':=by
 cases hc:colB p b with
 |false=>
  have a:witB p x b=false:=by unfold witB;simp[hc]
  rw[a];clear a
  go_enter Tryz.func105,Tryz.ntmps105
  go_wp2_with (first|(go_at_call 142;refine(rcol_any _ _ _ hb).mono ?_;rintro e w' ⟨rfl,rfl⟩))
  go_ret;exact⟨rfl,rfl⟩
 |true=>
  have a:witB p x b=(decide (colLo p b≤x)&&decide (x≤colHi p b)):=by unfold witB;simp[hc]
  rw[a];clear a;by_cases h1:colLo p b≤x
  ·by_cases h2:x≤colHi p b
   ·have e:(decide (colLo p b≤x)&&decide (x≤colHi p b))=true:=by simp[h1,h2]
    rw[e];clear e
    go_enter Tryz.func105,Tryz.ntmps105
    go_wp2_with (first|(go_at_call 142;refine(rcol_any _ _ _ hb).mono ?_;rintro e w' ⟨rfl,rfl⟩))
    go_ret;exact⟨rfl,rfl⟩
   ·have e:(decide (colLo p b≤x)&&decide (x≤colHi p b))=false:=by simp[h2]
    rw[e];clear e
    go_enter Tryz.func105,Tryz.ntmps105
    go_wp2_with (first|(go_at_call 142;refine(rcol_any _ _ _ hb).mono ?_;rintro e w' ⟨rfl,rfl⟩))
    go_ret;exact⟨ret_bool (by simp[h2]),rfl⟩
  ·have e:(decide (colLo p b≤x)&&decide (x≤colHi p b))=false:=by simp[h1]
   rw[e];clear e
   go_enter Tryz.func105,Tryz.ntmps105
   go_wp2_with (first|(go_at_call 142;refine(rcol_any _ _ _ hb).mono ?_;rintro e w' ⟨rfl,rfl⟩))
   go_ret;exact⟨rfl,rfl⟩
end Bnd
namespace Opn
open Mem
variable {held:Bool} {base fuel:Nat} {e t:TypeId} {v:Value}
section
variable {H:Type} {enc:TypeId×Value→H} {P:Program} {w:World}
theorem open_i64c{x:DataW H×List MemPlace}(ht:P.underlying t=some (.slice e))(he:P.underlying e=some (.int .i64))(hc:P.cellsOf e=1)
  (h:DataW.trod enc P w base (fun _=>true) held fuel t [v]=some x): ∃A c u,v= .slice A u.length c∧u.length≤c∧c≤maxLen∧Ris w w.heap.size A u∧WfI u:=by
 rcases open_ints ht he hc h with⟨j,_⟩|⟨a,len,o,d,j,_,r,s,y,_,f,p⟩
 ·injection j with j
  exact⟨none,0,[],j,by simp,by unfold maxLen;omega,.inl rfl,fun i k=>by simp at k⟩
 ·injection j with j
  simp only[if_true]at y;have b:(d.take len).length=len:=by rw[List.length_take];omega
  have l: ∀i,i<len→gI (d.take len) i=d.getD i 0:=fun i k=>by simp[gI,k]
  refine⟨some a,o,d.take len,by rw[b];exact j,by rw[b];exact r,s,?_,?_⟩
  ·by_cases h0:len=0
   ·subst h0;exact .inl (by simp[ints])
   ·obtain⟨z,C,E⟩:=a;have m:=f 0 (by omega);have F:=spot_none m;subst F;refine .inr ⟨z,C,rfl,?_,?_⟩
    ·have:=blk_lt m;simpa[Addr.add] using this
    ·intro i v hv
     have q:i<len:=by
      have:=(List.getElem?_eq_some_iff.1 hv).1;rwa[ints_len,b]at this
     have n:=f i (by omega);rw[add_lit']at n;rw[n]
     have:(ints (d.take len))[i]? =some (ι (d.getD i 0)):=by
      have g:i<d.length:=by omega
      simp[ints,q,g]
     rw[this]at hv;exact hv
  ·intro i k;rw[b]at k;rw[l i k];have g:i<d.length:=by omega
   have:=p d[i] (List.getElem_mem g);have e:d.getD i 0=d[i]:=by simp[g]
   rw[e];exact wf_in this
theorem open_nodesc{f0 f1:Field}{x:DataW H×List MemPlace}(ht:P.underlying t=some (.slice e))(he:P.underlying e=some (.struct #[f0,f1]))(ce:P.cellsOf e=2)(o0:f0.offset=0)(o1:f1.offset=1)
  (c0:P.cellsOf f0.type=1)(c1:P.cellsOf f1.type=1)(u0:P.underlying f0.type=some (.int .i64))(u1:P.underlying f1.type=some (.int .i64))
  (h:DataW.trod enc P w base (fun _=>true) held fuel t [v]=some x):
  ∃A c l,v= .slice A l.length c∧l.length≤c∧c≤maxLen∧Nds w w.heap.size A l∧WfN l:=by
 have hv: ∃A n c,v= .slice A n c:=by
  rcases Go.Deep.open_slice_pairs ht he ce o0 o1 c0 c1 h with⟨d,_⟩|⟨a,r,s,m,n,G,I,W,X,P0,Y,d,_⟩
  ·injection d with d;exact⟨_,_,_,d⟩
  ·injection d with d;exact⟨_,_,_,d⟩
 obtain⟨A,len,J,rfl⟩:=hv;rcases Go.Deep.open_slice_pairs ht he ce o0 o1 c0 c1 h with⟨d,_⟩|⟨a,r,s,m,n,G,I,W,X,P0,Y,d,hb,Z,hm,K,L,o⟩
 ·simp at d;obtain⟨rfl,rfl,rfl⟩:=d;exact⟨none,0,[],rfl,by simp,by unfold maxLen;omega,.inl rfl,fun i o=>by simp at o⟩
 ·simp at d;obtain⟨rfl,rfl,rfl⟩:=d;have O:m=J:=by rw[K];simp
  subst O
  have Q: ∀i,i<m→ ∃x y:Int,G i= ι x∧I i= ι y∧inI x∧inI y:=by
   intro i j;obtain⟨U,h1,h2,h3⟩:=o i j;obtain⟨x,L,_,wx⟩:=DataW.trod_int u0 h2;obtain⟨y,V,_,wy⟩:=DataW.trod_int u1 h3;simp at L V;exact⟨x,y,L,V,wf_in wx,wf_in wy⟩
  obtain⟨f,z⟩:=Go.Deep.choose_lt (n:=m) (p:=fun i (q:Int×Int)=>G i= .int .i64 q.1∧I i= .int .i64 q.2∧inI q.1∧inI q.2)
   (fun i j=>by obtain⟨x,y,k⟩:=Q i j;exact⟨(x,y),k⟩)
  have b:((List.range len).map f).length=len:=by simp
  refine⟨some a,m,(List.range len).map f,by rw[b],by rw[b];exact Z,hm,?_,?_⟩
  ·by_cases U:len=0
   ·subst U;exact .inl (by simp[nds])
   ·obtain⟨ab,ao,R⟩:=a
    have hs:R=none:=by
     have:=(o 0 (by omega)).1;rw[Nat.zero_mul]at this;exact spot_none this
    subst hs;refine .inr ⟨ab,ao,rfl,?_,?_⟩
    ·have:=blk_lt (o 0 (by omega)).1;simpa[Addr.add] using this
    ·intro i v hv
     have g:i<len*2:=by
      have:=(List.getElem?_eq_some_iff.1 hv).1;rwa[nds_len,b]at this
     have C:=nds_get ((List.range len).map f) (i / 2) (by rw[b];omega);obtain⟨E,F,q2,q3⟩:=o (i / 2) (by omega);obtain⟨r0,r1,_⟩:=z (i / 2) (by omega);have S:nP ((List.range len).map f) (i / 2)=(f (i / 2)).1:=by simp[nP,show i / 2<len by omega]
     have T:nC ((List.range len).map f) (i / 2)=(f (i / 2)).2:=by simp[nC,show i / 2<len by omega]
     rw[S,T]at C;rw[r0]at E;rw[r1]at F;rw[add_lit']at E F;by_cases hodd:i%2=0
     ·have e:i / 2*2=i:=by omega
      rw[e]at C E;rw[C.1]at hv;injection hv with hv
      rw[E,hv]
     ·have e:i / 2*2+1=i:=by omega
      rw[e]at C;rw[e]at F;rw[C.2]at hv;injection hv with hv
      rw[F,hv]
  ·intro i g;rw[b]at g;obtain⟨_,_,r2,r3⟩:=z i (by omega);have S:nP ((List.range len).map f) i=(f i).1:=by simp[nP,g]
   have T:nC ((List.range len).map f) i=(f i).2:=by simp[nC,g]
   rw[S,T];exact⟨r2,r3⟩
end
end Opn
end Go.Proofs.YtcccdikhfgpamaaGreat
