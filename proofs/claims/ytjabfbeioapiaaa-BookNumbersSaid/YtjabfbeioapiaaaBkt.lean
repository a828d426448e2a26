/- Contract of the law's fixed example of layer 7. No condition. -/
import Derived.Test.YtjabfbeioapiaaaBkc
import Derived.Test.YtjabfbeioapiaaaBkh
import Derived.Test.YtjabfbeioapiaaaBkj
import Derived.Test.YtjabfbeioapiaaaBkq
import Derived.Test.YtjabfbeioapiaaaGdc
namespace Go.Proofs.Ytjabfbeioapiaaa.Bkt
set_option maxRecDepth 100000
open Go.ChangeShapes Go.WideShapes Go.ChangeAt Go.RowKit Mem Tre Ref3 Law3 Fix3 Bnd Flo Cfg CrdB CrdC Rr4 Rul3 St7 Rul6 Fcf Fown Rul7 Tl5 Gdc Bkp Bks Bkf Bkh Bcl Dlk Stk Apt Bko Bku Bka Bkc Bkq Bkj
set_option linter.unusedVariables false
set_option linter.unusedSimpArgs false
/-- a variable that holds a book -/
structure BkV (W : World) (g : Nat) (A C : Option Addr) (sh ca : Int) (nr no c d : Nat) (rl : List Rc) (b : Bk) : Prop where
  blk : Blk W g 37 #[.int .i64 sh, .int .i64 ca, .slice A nr c, .slice C no d]
  bm : Bm W A C rl b
theorem BkV.below {W W' : World} {g : Nat} {A C : Option Addr} {sh ca : Int} {nr no c d : Nat} {rl : List Rc} {b : Bk} (h : BkV W g A C sh ca nr no c d rl b) (hb : Below W.heap.size W W') : BkV W' g A C sh ca nr no c d rl b := ⟨Blk.below' h.blk hb, h.bm.below hb⟩
theorem BkV.new {W : World} {A C : Option Addr} {sh ca : Int} {nr no c d : Nat} {rl : List Rc} {b : Bk} (h : Bm W A C rl b) : BkV (W.alloc (.cells #[.int .i64 sh, .int .i64 ca, .slice A nr c, .slice C no d] 37)) W.heap.size A C sh ca nr no c d rl b :=
  ⟨Blk.fresh _ _ _, h.below ((Below.refl _ _).alloc (Nat.le_refl _) _)⟩
def o1 : Od := ⟨1, 0, false, 10, 3, 1, 0⟩
def bX : Bk := ⟨1, 1, [ro0, ⟨[], 0, 1⟩], [⟨1, o1, 3, 1, 0⟩]⟩
def bY : Bk := ⟨1, 1, [ro0, ⟨[], 0, 1⟩], [⟨1, o1, 1, 1, 0⟩]⟩
def bZ : Bk := ⟨1, 1, [ro0, ⟨[], 0, 1⟩], []⟩
theorem qX : addF 3 (0 : Nat) (beginB 2 1) o1 0 = bX := by rfl
theorem qY : fillF bX 1 2 = (bY, 0) := by rfl
theorem qZ : fillF bY 1 1 = (bZ, 0) := by rfl
theorem qK : ackF bY 1 = (bY, 16) := by rfl
theorem qW : worthF bY.op 1 0 = 10 := by rfl
theorem f0 : Fw 0 (beginB 2 1) := Fw_begin (by decide) (by decide) (by decide)
theorem fX : Fw 1 bX := by rw [← qX]; exact Fw_add f0 3 _ o1 0 ⟨by decide, by decide⟩ ⟨by decide, by decide⟩ ⟨by decide, by decide⟩
theorem fY : Fw 1 bY := by have h := Fw_fill fX 1 2; rw [qY] at h; exact h
theorem fZ : Fw 1 bZ := by have h := Fw_fill fY 1 1; rw [qZ] at h; exact h
set_option maxHeartbeats 8000000 in
theorem told7_any (w : World) : Calls Try.prog 11 #[] w (MadeB true w) := by
  have q1 : 1 + modF 2 3 = 3 := by decide +kernel
  have q2 : modF 0 4 = 0 := by decide +kernel
  have q3 : (fixA (fixF []).length [0, 0]).length = 2 := by decide +kernel
  have q4 : (fixF []).length ≤ 10 := by have := fixF_len []; omega
  have q5 : (fixS []).length ≤ 3 := by have := fixS_len (sy := []); omega
  have wfn := Lib.hid (wfn_fix [])
  have FX := fun W A (h : Hid (Ris W W.heap.size A [0, 0])) => fix5_any 2 0 0 0 none A none 0 2 0 [] [0, 0] [] W Rd.nil h Rd.nil (fun i hi => by simp at hi) (fun i hi => by
    have : i = 0 ∨ i = 1 := by simp at hi; omega
    rcases this with rfl | rfl <;> exact ⟨by decide, by decide⟩) (fun i hi => by simp at hi) (by decide) (by decide) (by decide)
  rw [q1, q2] at FX
  clear q1 q2
  obtain ⟨ra, hra⟩ : ∃ x, x = 1 + modF 0 6 := ⟨_, rfl⟩
  obtain ⟨ta, hta⟩ : ∃ x, x = 1 + modF 0 8 := ⟨_, rfl⟩
  rw [← hra, ← hta] at FX
  clear hra hta
  generalize fixA (fixF []).length [0, 0] = ac at q3 FX
  generalize fixF [] = nd at q4 FX wfn
  generalize fixS [] = sy at q5 FX
  obtain ⟨nl, hnl⟩ : ∃ n, n = nd.length := ⟨_, rfl⟩
  obtain ⟨sl, hsl⟩ : ∃ n, n = sy.length := ⟨_, rfl⟩
  have hb0 : Hid (Below w.heap.size w (w.alloc (.cells #[.int .i64 0, .int .i64 0] 3))) := (Below.refl _ _).alloc (Nat.le_refl _) _
  have hr0 : Hid (Ris (w.alloc (.cells #[.int .i64 0, .int .i64 0] 3)) (w.alloc (.cells #[.int .i64 0, .int .i64 0] 3)).heap.size (some ⟨w.heap.size, 0, none⟩) [0, 0]) := rd_new rfl
  have TX := fun W A B C c d f h1 h2 h3 => to5_any 3 0 ra ta A B C c d f nd ac sy W h1 h2 h3 wfn (by omega) (by omega) (by omega)
  unfold MadeCf at FX TX
  rw [← hnl, ← hsl, q3] at FX TX
  have HS := Lib.hid q3
  have hnl9 : nl ≤ 10 := by omega
  have hsl9 : sl ≤ 3 := by omega
  clear hnl hsl q3 q4 q5 wfn
  go_enter Try.func11, Try.ntmps11
  go_wp2_with fail
  refine (FX _ _ hr0).mono ?_
  rintro e w1 ⟨A1, B1, C1, c1, d1, f1, rfl, hn1, hu1, hs1, hb1⟩
  have b1 := Lib.hid (below_step hb0.out hb1)
  clear hb0 hr0 hb1 FX
  go_wp2_with fail
  refine (TX _ _ _ _ _ _ _ hn1 hu1 hs1).mono ?_
  rintro e w2 ⟨A2, B2, C2, c2, d2, f2, rfl, hn2, hu2, hs2, hb2⟩
  have b2 := Lib.hid (below_step b1.out hb2)
  clear b1 hn1 hu1 hs1 hb2 TX hn2 hu2 hs2
  have v2 : Hid (Blk (w2.alloc (.cells #[.int .i64 3, .int .i64 0, .int .i64 ra, .int .i64 ta, .slice A2 nl c2, .slice B2 2 d2, .slice C2 sl f2] 32)) w2.heap.size 32 #[.int .i64 3, .int .i64 0, .int .i64 ra, .int .i64 ta, .slice A2 nl c2, .slice B2 2 d2, .slice C2 sl f2]) := Blk.fresh _ _ _
  have b3 : Hid (Below w.heap.size w (w2.alloc (.cells #[.int .i64 3, .int .i64 0, .int .i64 ra, .int .i64 ta, .slice A2 nl c2, .slice B2 2 d2, .slice C2 sl f2] 32))) := b2.out.alloc b2.out.size _
  go_upto_region 2 with fail
  generalize w2.alloc (.cells #[.int .i64 3, .int .i64 0, .int .i64 ra, .int .i64 ta, .slice A2 nl c2, .slice B2 2 d2, .slice C2 sl f2] 32) = w3 at b3 v2 ⊢
  generalize w2.heap.size = gK at v2 ⊢
  clear b2
  obtain ⟨e0, e1, e2, e3, e4, e5, e6⟩ := c7_of v2.out
  go_wp2_with fail
  refine (bbegin_any 3 0 ra ta A2 B2 C2 nl 2 sl c2 d2 f2 1 _ (by decide)).mono ?_
  rintro e w4 ⟨A0, C0, c0, d0, rl0, he, hm0, hb4⟩
  rw [show bkA A0 C0 c0 d0 (beginF 2 1) = .agg #[.int .i64 1, .int .i64 0, .slice A0 2 c0, .slice C0 0 d0] from rfl] at he
  subst he
  have hm0' : Bm w4 A0 C0 rl0 (beginB 2 1) := hm0
  have v4 := Lib.hid (Blk.below' v2.out hb4)
  have b4 := Lib.hid (below_step b3.out hb4)
  have x4 : Hid (BkV (w4.alloc (.cells #[.int .i64 1, .int .i64 0, .slice A0 2 c0, .slice C0 0 d0] 37)) w4.heap.size A0 C0 1 0 2 0 c0 d0 rl0 (beginB 2 1)) := BkV.new hm0'
  have v5 : Hid (Blk (w4.alloc (.cells #[.int .i64 1, .int .i64 0, .slice A0 2 c0, .slice C0 0 d0] 37)) gK 32 #[.int .i64 3, .int .i64 0, .int .i64 ra, .int .i64 ta, .slice A2 nl c2, .slice B2 2 d2, .slice C2 sl f2]) := v4.out.alloc _
  have b5 : Hid (Below w.heap.size w (w4.alloc (.cells #[.int .i64 1, .int .i64 0, .slice A0 2 c0, .slice C0 0 d0] 37))) := b4.out.alloc b4.out.size _
  clear e0 e1 e2 e3 e4 e5 e6 hb4 v2 b3 v4 b4 hm0 hm0'
  go_upto_region 3 with fail
  generalize w4.alloc (.cells #[.int .i64 1, .int .i64 0, .slice A0 2 c0, .slice C0 0 d0] 37) = w5 at v5 b5 x4 ⊢
  generalize w4.heap.size = gB at x4 ⊢
  obtain ⟨k0, k1, k2, k3⟩ := q4_of x4.out.blk
  go_wp2_with fail
  refine (order_any 1 0 false 10 3 1 0 _).mono ?_
  rintro e w6 ⟨rfl, hb6⟩
  have HB6 := Lib.hid (below_step b5.out hb6)
  have v6 := Lib.hid (Blk.below' v5.out hb6)
  have x6 := Lib.hid (x4.out.below hb6)
  have o7 : Hid (Blk (w6.alloc (.cells #[.int .i64 1, .int .i64 0, .bool false, .int .i64 10, .int .i64 3, .int .i64 1, .int .i64 0] 41)) w6.heap.size 41 #[.int .i64 1, .int .i64 0, .bool false, .int .i64 10, .int .i64 3, .int .i64 1, .int .i64 0]) := Blk.fresh _ _ _
  have U7 : Hid (Below w6.heap.size w6 (w6.alloc (.cells #[.int .i64 1, .int .i64 0, .bool false, .int .i64 10, .int .i64 3, .int .i64 1, .int .i64 0] 41))) := (Below.refl _ _).alloc (Nat.le_refl _) _
  have b7 := Lib.hid (below_step HB6.out U7.out)
  have v7 := Lib.hid (Blk.below' v6.out U7.out)
  have x7 := Lib.hid (x6.out.below U7.out)
  clear k0 k1 k2 k3 hb6 HB6 v5 x4 b5 v6 x6 U7
  go_upto_region 6 with fail
  generalize w6.alloc (.cells #[.int .i64 1, .int .i64 0, .bool false, .int .i64 10, .int .i64 3, .int .i64 1, .int .i64 0] 41) = w7 at o7 b7 v7 x7 ⊢
  generalize w6.heap.size = gO at o7 ⊢
  obtain ⟨e0, e1, e2, e3, e4, e5, e6⟩ := c7_of v7.out
  obtain ⟨k0, k1, k2, k3⟩ := q4_of x7.out.blk
  obtain ⟨o0, o1', o2, o3, o4, o5, o6⟩ := q7_of o7.out
  have AX := add_any 3 ra ta 0 A2 B2 C2 nl 2 sl c2 d2 f2 1 0 A0 C0 2 0 c0 d0 rl0 (beginB 2 1) 1 0 10 3 1 0 false 0 w7 ⟨rfl, rfl⟩ rfl rfl x7.out.bm (Lib.hid (f0.few (by decide))) (by decide) (by decide) (by decide) (by decide)
  rw [show addF 3 ((0 : Nat) : Int) (beginB 2 1) ⟨((1 : Nat) : Int), 0, false, 10, 3, 1, 0⟩ 0 = bX from rfl, show (beginB 2 1).sh + 3 * (beginB 2 1).ca = 1 from rfl, show ((0 : Nat) : Int) = 0 from rfl, show ((1 : Nat) : Int) = 1 from rfl] at AX
  go_wp2_with fail
  refine AX.mono ?_
  rintro e w8 ⟨A3, C3, c3, d3, rl3, he, hm3, _, hb8⟩
  rw [show bkA A3 C3 c3 d3 bX = .agg #[.int .i64 1, .int .i64 1, .slice A3 2 c3, .slice C3 1 d3] from rfl] at he
  subst he
  clear e0 e1 e2 e3 e4 e5 e6 k0 k1 k2 k3 o0 o1' o2 o3 o4 o5 o6 AX v7 o7 x7
  have bb := Lib.hid (below_step b7.out hb8)
  have UU : Hid (Below w8.heap.size w8 (w8.alloc (.cells #[.int .i64 1, .int .i64 1, .slice A3 2 c3, .slice C3 1 d3] 37))) := (Below.refl _ _).alloc (Nat.le_refl _) _
  have X : Hid (BkV (w8.alloc (.cells #[.int .i64 1, .int .i64 1, .slice A3 2 c3, .slice C3 1 d3] 37)) w8.heap.size A3 C3 1 1 2 1 c3 d3 rl3 bX) := BkV.new hm3
  have bn := Lib.hid (below_step bb.out UU.out)
  clear bb UU hb8 hm3 b7 
  go_upto_region 7 with fail
  generalize w8.alloc (.cells #[.int .i64 1, .int .i64 1, .slice A3 2 c3, .slice C3 1 d3] 37) = w9 at X  bn ⊢
  generalize w8.heap.size = gX at X ⊢
  have b7 := bn
  clear bn
  obtain ⟨k0, k1, k2, k3⟩ := q4_of X.out.blk
  have FL := fill_any 1 1 A3 C3 2 1 c3 d3 rl3 bX 1 2 w9 ⟨rfl, rfl⟩ rfl rfl X.out.bm (Lib.hid (fX.few (by decide))) (Lib.hid fX.lf) (by decide)
  rw [qY] at FL
  go_wp2_with fail
  refine FL.mono ?_
  rintro e w10 ⟨A4, C4, c4, d4, rl4, he, hm4, _, hb10⟩
  rw [show bkA A4 C4 c4 d4 (bY, (0 : Int)).1 = .agg #[.int .i64 1, .int .i64 1, .slice A4 2 c4, .slice C4 1 d4] from rfl] at he
  subst he
  clear FL k0 k1 k2 k3
  have bb := Lib.hid (below_step b7.out hb10)
  have UU : Hid (Below w10.heap.size w10 (w10.alloc (.cells #[.int .i64 1, .int .i64 1, .slice A4 2 c4, .slice C4 1 d4] 37))) := (Below.refl _ _).alloc (Nat.le_refl _) _
  have Y : Hid (BkV (w10.alloc (.cells #[.int .i64 1, .int .i64 1, .slice A4 2 c4, .slice C4 1 d4] 37)) w10.heap.size A4 C4 1 1 2 1 c4 d4 rl4 bY) := BkV.new hm4
  have Xn := Lib.hid (BkV.below (BkV.below X.out hb10) UU.out)
  have bn := Lib.hid (below_step bb.out UU.out)
  clear bb UU hb10 hm4 b7 X
  go_upto_region 8 with fail
  generalize w10.alloc (.cells #[.int .i64 1, .int .i64 1, .slice A4 2 c4, .slice C4 1 d4] 37) = w11 at Y Xn bn ⊢
  generalize w10.heap.size = gY at Y ⊢
  have X := Xn
  clear Xn
  have b7 := bn
  clear bn
  obtain ⟨k0, k1, k2, k3⟩ := q4_of Y.out.blk
  have FL := fill_any 1 1 A4 C4 2 1 c4 d4 rl4 bY 1 1 w11 ⟨rfl, rfl⟩ rfl rfl Y.out.bm (Lib.hid (fY.few (by decide))) (Lib.hid fY.lf) (by decide)
  rw [qZ] at FL
  go_wp2_with fail
  refine FL.mono ?_
  rintro e w12 ⟨A5, C5, c5, d5, rl5, he, hm5, _, hb12⟩
  rw [show bkA A5 C5 c5 d5 (bZ, (0 : Int)).1 = .agg #[.int .i64 1, .int .i64 1, .slice A5 2 c5, .slice C5 0 d5] from rfl] at he
  subst he
  clear FL k0 k1 k2 k3
  have bb := Lib.hid (below_step b7.out hb12)
  have UU : Hid (Below w12.heap.size w12 (w12.alloc (.cells #[.int .i64 1, .int .i64 1, .slice A5 2 c5, .slice C5 0 d5] 37))) := (Below.refl _ _).alloc (Nat.le_refl _) _
  have Z : Hid (BkV (w12.alloc (.cells #[.int .i64 1, .int .i64 1, .slice A5 2 c5, .slice C5 0 d5] 37)) w12.heap.size A5 C5 1 1 2 0 c5 d5 rl5 bZ) := BkV.new hm5
  have Xn := Lib.hid (BkV.below (BkV.below X.out hb12) UU.out)
  have Yn := Lib.hid (BkV.below (BkV.below Y.out hb12) UU.out)
  have bn := Lib.hid (below_step bb.out UU.out)
  clear bb UU hb12 hm5 b7 X Y
  go_upto_region 9 with fail
  generalize w12.alloc (.cells #[.int .i64 1, .int .i64 1, .slice A5 2 c5, .slice C5 0 d5] 37) = w13 at Z Xn Yn bn ⊢
  generalize w12.heap.size = gZ at Z ⊢
  have X := Xn
  clear Xn
  have Y := Yn
  clear Yn
  have b7 := bn
  clear bn
  obtain ⟨k0, k1, k2, k3⟩ := q4_of Y.out.blk
  have FL := ack_any 1 1 A4 C4 2 1 c4 d4 rl4 bY 1 w13 ⟨rfl, rfl⟩ rfl rfl Y.out.bm (Lib.hid (fY.few (by decide)))
  rw [qK] at FL
  go_wp2_with fail
  refine FL.mono ?_
  rintro e w14 ⟨A6, C6, c6, d6, rl6, he, hm6, _, hb14⟩
  rw [show bkA A6 C6 c6 d6 (bY, (16 : Int)).1 = .agg #[.int .i64 1, .int .i64 1, .slice A6 2 c6, .slice C6 1 d6] from rfl] at he
  subst he
  clear FL k0 k1 k2 k3
  have bb := Lib.hid (below_step b7.out hb14)
  have UU : Hid (Below w14.heap.size w14 (w14.alloc (.cells #[.int .i64 1, .int .i64 1, .slice A6 2 c6, .slice C6 1 d6] 37))) := (Below.refl _ _).alloc (Nat.le_refl _) _
  have V : Hid (BkV (w14.alloc (.cells #[.int .i64 1, .int .i64 1, .slice A6 2 c6, .slice C6 1 d6] 37)) w14.heap.size A6 C6 1 1 2 1 c6 d6 rl6 bY) := BkV.new hm6
  have Xn := Lib.hid (BkV.below (BkV.below X.out hb14) UU.out)
  have Yn := Lib.hid (BkV.below (BkV.below Y.out hb14) UU.out)
  have Zn := Lib.hid (BkV.below (BkV.below Z.out hb14) UU.out)
  have bn := Lib.hid (below_step bb.out UU.out)
  clear bb UU hb14 hm6 b7 X Y Z
  go_upto_region 10 with fail
  generalize w14.alloc (.cells #[.int .i64 1, .int .i64 1, .slice A6 2 c6, .slice C6 1 d6] 37) = w15 at V Xn Yn Zn bn ⊢
  generalize w14.heap.size = gW at V ⊢
  have X := Xn
  clear Xn
  have Y := Yn
  clear Yn
  have Z := Zn
  clear Zn
  have b7 := bn
  clear bn
  obtain ⟨k0, k1, k2, k3⟩ := q4_of Y.out.blk
  obtain ⟨m0, m1, m2, m3⟩ := q4_of X.out.blk
  obtain ⟨n0, n1, n2, n3⟩ := q4_of Z.out.blk
  have WO := worth_any 1 1 A4 C4 2 1 c4 d4 bY.op 1 w15 rfl Y.out.bm.o (by decide) (Lib.hid fY.pl)
  rw [qW] at WO
  go_wp2_with (go_at_call 24; refine WO.mono ?_; rintro e w16 ⟨rfl, hb16⟩; have j0 := cell_later hb16 n3)
  go_ret
  exact madeB_mk rfl (below_step b7.out (by assumption))
end Go.Proofs.Ytjabfbeioapiaaa.Bkt
