/- Texts side by side. -/
import Derived.Test.YtaeddnjjeholgaaGreatUgar
set_option linter.unusedVariables false
set_option linter.unusedSimpArgs false
set_option maxRecDepth 100000
set_option maxHeartbeats 16000000
namespace Go.Proofs.YtaeddnjjeholgaaGreat
open Go.ChangeShapes Go.WideShapes Go.ChangeAt Go.RowKit Mem Tre Ref3 Law3 Crd CrdB CrdC
namespace Cfr
open Kap Abv Fix3 Cpl Own Res Rel Lim
variable {l:List (Int×Int)} {u:List Int} {c c':Nat} {A A':Option Addr} {w w':World}
def MadeLimF(l:List (Int×Int))(u:List Int)(b:Int)(w:World)(e:Ending)(w':World):Prop:=
 ∃A c A' c',e= .returned (.tuple #[.agg #[.slice A l.length c,.slice A' u.length c'],.int .i64 b])∧Nds w' w'.heap.size A l∧Ris w' w'.heap.size A' u∧Below w.heap.size w w'∧(∀a,A=some a→w.heap.size≤a.block)∧(∀a,A'=some a→w.heap.size≤a.block)
theorem madeLimF_mk{l':List (Int×Int)}{b b':Int}(fa: ∀a,A=some a→w.heap.size≤a.block)(fb: ∀a,A'=some a→w.heap.size≤a.block)(hu:l=l')(hp:b=b')(h1:Nds w' w'.heap.size A l')(h2:Ris w' w'.heap.size A' u)(hb:Below w.heap.size w w'):
  MadeLimF l u b w (.returned (.tuple #[.agg #[.slice A l'.length c,.slice A' u.length c'],.int .i64 b'])) w':=by
 subst hu;subst hp;exact⟨A,c,A',c',rfl,h1,h2,hb,fa,fb⟩
def MadeStF(l:List (Int×Int))(u:List Int)(w:World)(e:Ending)(w':World):Prop:=
 ∃A c A' c',e= .returned (.agg #[.slice A l.length c,.slice A' u.length c'])∧Nds w' w'.heap.size A l∧Ris w' w'.heap.size A' u∧Below w.heap.size w w'∧(∀a,A=some a→w.heap.size≤a.block)∧(∀a,A'=some a→w.heap.size≤a.block)
theorem madeStF_mk{n n':Nat}(fa: ∀a,A=some a→w.heap.size≤a.block)(fb: ∀a,A'=some a→w.heap.size≤a.block)(hn:n=l.length)(hn':n'=u.length)(h1:Nds w' w'.heap.size A l)(h2:Ris w' w'.heap.size A' u)(hb:Below w.heap.size w w'):
  MadeStF l u w (.returned (.agg #[.slice A n c,.slice A' n' c'])) w':=by
 subst hn;subst hn';exact⟨A,c,A',c',rfl,h1,h2,hb,fa,fb⟩
theorem begin_fresh(A:Option Addr)(c:Nat)(l:List (Int×Int))(w:World)(hl:Hid (Nds w w.heap.size A l))(hmax:(l.length:Int)≤1000000):
  Calls Tryz.prog 140 #[.slice A l.length c] w (MadeStF l (zeros l.length) w):=by
 obtain⟨i0,hi,hz0,hz1,hz2⟩:=info_parts i64_info;have hmk:=fun(W:World)=>run_make (P:=Tryz.prog) W 144 2 i0 (ι 0) Tryz.underlying144 hi hz0 .i64 .i64 (l.length:Int) (l.length:Int) (by omega) (by omega) (by rw[hz2];omega) (by omega)
 simp only[Int.toNat_natCast,hz1,Nat.mul_one]at hmk;have H1:Hid (∀W,Below w.heap.size w W→Nds W W.heap.size A l):=fun W hb=>Rd.below' hl.out hb hb.size
 have b0:=(β w (.cells (vS none 0 0 none 0 0) 194)).drew;have K0:Hid (Blk (w.alloc (.cells (vS none 0 0 none 0 0) 194)).drew w.heap.size 194 (vS none 0 0 none 0 0)):=Blk.fresh w _ _;have b0':=(γ w (.cells (vS none 0 0 none 0 0) 194) (.cells (madeCells #[ι 0] l.length) 2)).drew;have K0':Hid (Blk ((w.alloc (.cells (vS none 0 0 none 0 0) 194)).alloc (.cells (madeCells #[ι 0] l.length) 2)).drew w.heap.size 194 (vS none 0 0 none 0 0)):=(Blk.fresh w _ _).alloc _
 have Z0':Hid (Blk ((w.alloc (.cells (vS none 0 0 none 0 0) 194)).alloc (.cells (madeCells #[ι 0] l.length) 2)).drew (w.heap.size+1) 2 (madeCells #[ι 0] l.length)):=by
  have:=Blk.fresh (w.alloc (.cells (vS none 0 0 none 0 0) 194)) 2 (madeCells #[ι 0] l.length);rw[World.size_alloc]at this;exact this
 go_enter Tryz.func140,Tryz.ntmps140
 go_wp2_with fail
 go_region_held3 (fun w'=>True) (trivial)
  (first
   |(go_at_call 67;refine(cloneN_any _ _ l _ (H1.out _ (by assumption)) hmax).mono ?_;rintro e w1 ⟨A1,c1,rfl,ho1,hb1⟩;have b1:=below_step (by assumption) hb1;have k1:Hid (Blk w1 w.heap.size 194 #[.slice none 0 0,.slice none 0 0]):=Blk.below' (Hid.out (by assumption)) hb1;have r1:=χ (k1.out.cell 0);have s1:=χ (k1.out.cell 1);have y1:=k1.out.thaw 0;have z1:=k1.out.thaw 1;have n1:=k1.out.lt))
 ·have FA: ∀a,A1=some a→w.heap.size≤a.block:=fun a h=>by have h1:=Rsf.own_fresh ho1 a h;simp[World.drew]at h1;omega
  have FB: ∀a,(some (α w1.heap.size 0):Option Addr)=some a→w.heap.size≤a.block:=fun a h=>by injection h with h;rw[←h];first|(show w.heap.size≤w1.heap.size;exact b1.size)|(show w.heap.size≤w.heap.size+1;omega)
  have o1:((w1.setCell (α w.heap.size 0) (.slice A1 l.length c1)).setCell (α w.heap.size 1) (.slice (some (α w1.heap.size 0)) l.length l.length)).ownsRow (w.heap.size+1) 102 2 (.slice A1 l.length c1) l.length (nds l):=
   ownsRow_setCell_below (ownsRow_setCell_below (own_mono (base':=w.heap.size+1) ho1 (by simp[World.drew])) (by simp) _) (by simp) _
  have kf:=Blk.alloc (blk_set (blk_set k1.out 0 (.slice A1 l.length c1)) 1 (.slice (some (α w1.heap.size 0)) l.length l.length)) (.cells (madeCells #[ι 0] l.length) 2);have g0:=kf.cell 0;have g1:=kf.cell 1;simp at g0 g1;have zf:=Blk.fresh ((w1.setCell (α w.heap.size 0) (.slice A1 l.length c1)).setCell (α w.heap.size 1) (.slice (some (α w1.heap.size 0)) l.length l.length)) 2 (madeCells #[ι 0] l.length);have hsz:((w1.setCell (α w.heap.size 0) (.slice A1 l.length c1)).setCell (α w.heap.size 1) (.slice (some (α w1.heap.size 0)) l.length l.length)).heap.size=w1.heap.size:=by simp[World.setCell]
  rw[hsz]at zf;have bF:=((b1.setCell (p:=(α w.heap.size 0)) (by simp) (.slice A1 l.length c1)).setCell (p:=(α w.heap.size 1)) (by simp) (.slice (some (α w1.heap.size 0)) l.length l.length)).alloc (by rw[hsz];omega) (.cells (madeCells #[ι 0] l.length) 2);have O1:=κ (Rd.of_own (World.ownsRow.alloc o1 (.cells (madeCells #[ι 0] l.length) 2)));have ZF:=κ zf;clear o1 zf ho1 hsz hmk
  go_wp2_with fail
  exact bodyPost_ret (v:= .agg #[.slice A1 l.length c1,.slice (some (α w1.heap.size 0)) l.length l.length]) (by simp[results,Tryz.results140,go_sem,g0,g1]) rfl (madeStF_mk FA FB rfl (zeros_len _).symm O1.out (ZF.out.rd' (made_zeros _)) bF)
 ·have FA: ∀a,A1=some a→w.heap.size≤a.block:=fun a h=>by have h1:=Rsf.own_fresh ho1 a h;simp[World.drew]at h1;omega
  have FB: ∀a,(some (α (w.heap.size+1) 0):Option Addr)=some a→w.heap.size≤a.block:=fun a h=>by injection h with h;rw[←h];first|(show w.heap.size≤w1.heap.size;exact b1.size)|(show w.heap.size≤w.heap.size+1;omega)
  have o1:((w1.setCell (α w.heap.size 0) (.slice A1 l.length c1)).setCell (α w.heap.size 1) (.slice (some (α (w.heap.size+1) 0)) l.length l.length)).ownsRow (w.heap.size+1) 102 2 (.slice A1 l.length c1) l.length (nds l):=
   ownsRow_setCell_below (ownsRow_setCell_below (own_mono (base':=w.heap.size+1) ho1 (by simp[World.drew])) (by simp) _) (by simp) _
  have kf:=blk_set (blk_set k1.out 0 (.slice A1 l.length c1)) 1 (.slice (some (α (w.heap.size+1) 0)) l.length l.length);have g0:=kf.cell 0;have g1:=kf.cell 1;simp at g0 g1;have zf:=blk_far (blk_far (Blk.below' Z0'.out hb1) (p:=(α w.heap.size 0)) (by simp) (.slice A1 l.length c1)) (p:=(α w.heap.size 1)) (by simp) (.slice (some (α (w.heap.size+1) 0)) l.length l.length);have bF:=(b1.setCell (p:=(α w.heap.size 0)) (by simp) (.slice A1 l.length c1)).setCell (p:=(α w.heap.size 1)) (by simp) (.slice (some (α (w.heap.size+1) 0)) l.length l.length);have O1:=κ (Rd.of_own o1);have ZF:=κ zf;clear o1 zf ho1 hmk
  go_wp2_with fail
  exact bodyPost_ret (v:= .agg #[.slice A1 l.length c1,.slice (some (α (w.heap.size+1) 0)) l.length l.length]) (by simp[results,Tryz.results140,go_sem,g0,g1]) rfl (madeStF_mk FA FB rfl (zeros_len _).symm O1.out (ZF.out.rd' (made_zeros _)) bF)
end Cfr
namespace Bkj
open Kap Abv Bkp Bks Bcl Stk
def zRow:Array Value:= #[.slice none 0 0,.int .i64 0,.int .i64 0]
theorem made_rows(n:Nat):(madeCells zRow (n*3)).toList=rcs (List.replicate n rc0):=by
 apply List.ext_getElem?;intro i;by_cases h:i<n*3
 ·have e1:(rcs (List.replicate n rc0))[i]? =(rcV rc0)[i%3]? :=by
   have h3:=rcs_get (List.replicate n rc0) (i / 3) (i%3) (by rw[List.length_replicate];omega) (by omega)
   have e2:gC (List.replicate n rc0) (i / 3)=rc0:=by
    have:i / 3<n:=by omega
    simp[gC,this]
   rw[e2]at h3;rw[←h3]
   congr 1
   omega
  rw[e1]
  have e4:(madeCells zRow (n*3)).toList[i]? =some (zRow[i%3]!):=by
   unfold madeCells;have e5:zRow.size=3:=rfl;simp[e5,h]
  rw[e4];rcases(by omega:i%3=0∨i%3=1∨i%3=2) with h0|h0|h0<;>rw[h0]<;>rfl
 ·rw[List.getElem?_eq_none (by simp[madeCells];omega),List.getElem?_eq_none (by rw[rcs_len,List.length_replicate];omega)]
def beginF(n:Nat)(sh:Int):Bk:=⟨sh,0,List.replicate n ro0,[]⟩
end Bkj
namespace Mdf
open Kap Abv Bkp Bks Bcl Stk Bkj Bka
def MadeBg(n:Nat)(sh:Int)(w:World)(e:Ending)(w':World):Prop:=
 e= .returned (bkA (some ⟨w.heap.size+1+1,0,none⟩) none n 0 (beginF n sh))∧Bm w' (some ⟨w.heap.size+1+1,0,none⟩) none (List.replicate n rc0) (beginF n sh)∧Below w.heap.size w w'
theorem bbegin_fresh(sk wi ra ta:Int)(A1 A2 A3:Option Addr)(n1 n2 n3 c1 c2 c3:Nat)(sh:Int)(w:World)(hmax:n2≤1000):
  Calls Tryz.prog 40 #[.agg #[.int .i64 sk,.int .i64 wi,.int .i64 ra,.int .i64 ta,.slice A1 n1 c1,.slice A2 n2 c2,.slice A3 n3 c3],.int .i64 sh] w (MadeBg n2 sh w):=by
 obtain⟨i0,hi,hz0,hz1,hz2⟩:=info_parts infoR;have hmk:=fun(W:World)=>run_make (P:=Tryz.prog) W 60 165 i0 _ Tryz.underlying60 hi hz0 .i64 .i64 (n2:Int) (n2:Int) (by omega) (by omega) (by rw[hz2];omega) (by omega)
 simp only[Int.toNat_natCast,hz1]at hmk;have hmk2: ∀W:World,(Instr.makeSlice 60 (ι (n2:Int)) (ι (n2:Int))).run Tryz.prog W= .ok (.slice (some (α W.heap.size 0)) n2 n2) (W.alloc (.cells (madeCells zRow (n2*3)) 165)):=fun W=>by first|exact hmk W|simpa[zRow] using hmk W
 have b0:Hid (Below w.heap.size w (((w.alloc (.cells (vC sk wi ra ta A1 n1 c1 A2 n2 c2 A3 n3 c3) 43)).alloc (.cells (vB sh 0 (some (α (w.heap.size+1+1) 0)) n2 n2 none 0 0) 63)).alloc (.cells (madeCells zRow (n2*3)) 165))):=((ψ.alloc τ _).alloc (by simp) _).alloc (by simp<;>omega) _;have K0:Hid (Blk (((w.alloc (.cells (vC sk wi ra ta A1 n1 c1 A2 n2 c2 A3 n3 c3) 43)).alloc (.cells (vB sh 0 (some (α (w.heap.size+1+1) 0)) n2 n2 none 0 0) 63)).alloc (.cells (madeCells zRow (n2*3)) 165)) (w.heap.size+1) 63 (vB sh 0 (some (α (w.heap.size+1+1) 0)) n2 n2 none 0 0)):=Blk.alloc (blk_hd (by simp)) _;have Z0:=κ (δ ((w.alloc (.cells (vC sk wi ra ta A1 n1 c1 A2 n2 c2 A3 n3 c3) 43)).alloc (.cells (vB sh 0 (some (α (w.heap.size+1+1) 0)) n2 n2 none 0 0) 63)) 165 (madeCells zRow (n2*3)) (w.heap.size+1+1));clear hmk
 go_enter Tryz.func40,Tryz.ntmps40
 go_wp2_with fail
 obtain⟨k0,k1,k2,k3⟩:=q4_of K0.out
 have hfin:MadeBg n2 sh w (.returned (.agg (vB sh 0 (some (α (w.heap.size+1+1) 0)) n2 n2 none 0 0))) (((w.alloc (.cells (vC sk wi ra ta A1 n1 c1 A2 n2 c2 A3 n3 c3) 43)).alloc (.cells (vB sh 0 (some (α (w.heap.size+1+1) 0)) n2 n2 none 0 0) 63)).alloc (.cells (madeCells zRow (n2*3)) 165)):=by
  refine⟨?_,⟨Z0.out.rd' (made_rows n2),?_,?_,.inl rfl⟩,b0.out⟩
  ·simp[bkA,beginF]
  ·simp[beginF,rc0]
  ·intro i hi
   have e:gC (List.replicate n2 rc0) i=rc0:=by
    rw[List.length_replicate]at hi;simp[gC,hi]
   rw[e];exact .inl rfl
 exact bodyPost_ret (v:= .agg #[ι sh,ι 0,.slice (some (α (w.heap.size+1+1) 0)) n2 n2,.slice none 0 0]) (by simp[results,Tryz.results40,go_sem,k0,k1,k2,k3]) rfl hfin
theorem Fb_begin(base n:Nat)(w:World)(h:base≤w.heap.size):Fb base (some ⟨w.heap.size+1+1,0,none⟩) none (List.replicate n rc0):=by
 refine⟨fun a e=>?_,fun a e=>(by cases e),fun i hi a e=>?_⟩
 ·injection e with e
  rw[←e];show base≤w.heap.size+1+1;omega
 ·have e2:gC (List.replicate n rc0) i=rc0:=by
   rw[List.length_replicate]at hi;simp[gC,hi]
  rw[e2]at e;cases e
end Mdf
namespace Mds
open Kap Abv Fix3 Cfg Rr4 Bkp Bks Bcl Dlk Stk Apt Bko Bku Bka Bkc Mdp Mdz
variable {g:Nat}
def Told(code:Int)(w:World)(e:Ending)(w':World):Prop:=e= .returned (.tuple #[.agg #[.int .i64 code,.int .i64 0],.slice none 0 0])∧Below w.heap.size w w'
end Mds
namespace Gcf
open Fix3 Cfg Rr4 Cfr Bkp Bks
open Rul1 hiding below_step
theorem infoBk : (Tryz.prog.info? 63).map (fun i => (i.zero, i.size, i.bytes)) = some (some (.agg #[.int .i64 0, .int .i64 0, .slice none 0 0, .slice none 0 0]), 4, 64) := by kernel_rfl
theorem q7_of {W : World} {g : Nat} {te : TypeId} {v0 v1 v2 v3 v4 v5 v6 : Value} (hk : Blk W g te #[v0, v1, v2, v3, v4, v5, v6]) : W.cell? ⟨g, 0, none⟩ = some v0 ∧ W.cell? ⟨g, 1, none⟩ = some v1 ∧ W.cell? ⟨g, 2, none⟩ = some v2 ∧ W.cell? ⟨g, 3, none⟩ = some v3 ∧ W.cell? ⟨g, 4, none⟩ = some v4 ∧ W.cell? ⟨g, 5, none⟩ = some v5 ∧ W.cell? ⟨g, 6, none⟩ = some v6 := ⟨hk.cell 0, hk.cell 1, hk.cell 2, hk.cell 3, hk.cell 4, hk.cell 5, hk.cell 6⟩
theorem cfg_ok {sh wi ra ta : Int} {nd : List (Int × Int)} {ac : List Int} {sy : List (Int × Int × Int × Nat)} (h : cfgF sh wi ra ta nd ac sy = 0) :
    sizB sh wi ra ta = true ∧ (chk nd).1 = 0 ∧ 1 ≤ ac.length ∧ ac.length ≤ 32 ∧ accB nd.length ac = true ∧ 1 ≤ sy.length ∧ sy.length ≤ 16 ∧ tabB sy = true := by
  cases h1 : sizB sh wi ra ta with
  | false => rw [cfgF_1 h1] at h; cases h
  | true =>
    by_cases h2 : (chk nd).1 = 0
    · by_cases h3 : ac.length = 0 ∨ 32 < ac.length
      · rw [cfgF_3 h1 h2 h3] at h; cases h
      · cases h4 : accB nd.length ac with
        | false => rw [cfgF_4 h1 h2 h3 h4] at h; cases h
        | true =>
          by_cases h5 : sy.length = 0 ∨ 16 < sy.length
          · rw [cfgF_5 h1 h2 h3 h4 h5] at h; cases h
          · cases h6 : tabB sy with
            | false => rw [cfgF_6 h1 h2 h3 h4 h5 h6] at h; cases h
            | true => exact ⟨rfl, h2, by omega, by omega, rfl, by omega, by omega, rfl⟩
    · rw [cfgF_2 h1 h2] at h; exact absurd h h2
theorem siz_ok {sh wi ra ta : Int} (h : sizB sh wi ra ta = true) : 1 ≤ sh ∧ sh ≤ 4 ∧ 0 ≤ wi ∧ wi ≤ 16 ∧ 1 ≤ ra ∧ ra ≤ 1000 ∧ 1 ≤ ta ∧ ta ≤ 64 := by
  unfold sizB btwB at h
  simp only [Bool.and_eq_true, decide_eq_true_eq] at h
  omega
end Gcf
end Go.Proofs.YtaeddnjjeholgaaGreat
