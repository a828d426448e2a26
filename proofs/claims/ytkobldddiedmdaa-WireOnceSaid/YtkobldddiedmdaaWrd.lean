/- Contracts: wire's reader takes numbers, one behind the other, as a plain function of the bytes says. Condition: it is in memory, the bytes lie below it. -/
import Derived.Test.YtkobldddiedmdaaWtk
import Derived.Maps.Range
namespace Go.Proofs.Ytkobldddiedmdaa.Wrd
set_option maxRecDepth 100000
open Go.ChangeShapes Go.WideShapes Go.ChangeAt Go.RowKit Mem Tre Ref3 Law3 Fix3 CrdB CrdC Rr4 Wpl Wmr Wrt St7 Rul6 Wen Wtk
set_option linter.unusedVariables false
set_option linter.unusedSimpArgs false

def takS (size most : Nat) (l : List UInt8) (bad : Bool) : Int × List UInt8 × Bool := if TakF l size most = true then (0, l, true) else (val (l.take size), l.drop size, bad)
/-- a reader in memory -/
def Rdr (w : World) (g B : Nat) (te : TypeId) (l : List UInt8) (bad : Bool) : Prop :=
  ∃ A c, Blk w g te #[.slice A l.length c, .bool bad] ∧ B ≤ g ∧ By w B A l ∧ l.length ≤ c ∧ (c : Int) ≤ 9223372036854775807 ∧ l.length ≤ 1000000
theorem grown_set (w : World) (g i : Nat) (u : Value) : w.grownBy (w.setCell ⟨g, i, none⟩ u) (some g) :=
  ⟨rfl, rfl, rfl, by simp [World.setCell], fun k hk hne => Below.heap_setCell w _ u k (by intro e; exact hne (by rw [e]))⟩
theorem by_grown {w w' : World} {g B : Nat} {A : Option Addr} {l : List UInt8} (h : By w B A l) (hB : B ≤ g) (hg : w.grownBy w' (some g)) (hw : g ≤ w.heap.size) : By w' B A l := by
  rcases h with h | ⟨b, o, hA, hb, hc⟩
  · exact .inl h
  · refine .inr ⟨b, o, hA, hb, fun i v hv => ?_⟩
    exact hg.cell (hc i v hv) (by intro e; have e2 : b = g := Option.some.inj e; omega)
def MadeTr (g B : Nat) (te : TypeId) (r : Int × List UInt8 × Bool) (w : World) (e : Ending) (w' : World) : Prop :=
  e = .returned (.int .i64 r.1) ∧ Rdr w' g B te r.2.1 r.2.2 ∧ w.grownBy w' (some g)
theorem take_r (g B : Nat) (l : List UInt8) (bad : Bool) (size most : Nat) (w : World) (hs0 : 1 ≤ size) (hs : size ≤ 8) (hm : most < 9223372036854775808) (hr : Hid (Rdr w g B 54 l bad)) :
    Calls Try.prog 20 #[.pointer (some ⟨g, 0, none⟩), .int .i64 size, .int .u64 most] w (MadeTr g B 54 (takS size most l bad) w) := by
  obtain ⟨A, c, hb, hB, hby, hlc, hc, hl⟩ := hr.out
  refine (take_any g B A c l bad size most w hs0 hs hm hl hlc hc hb hB hby).mono ?_
  rintro e w' (⟨hF, rfl, rfl⟩ | ⟨hF, hle, A', c', rfl, rfl, h1, h2, h3⟩)
  · unfold takS
    rw [if_pos hF]
    exact ⟨rfl, ⟨A, c, blk_set hb 1 _, hB, by_grown hby hB (grown_set _ _ _ _) (by have := hb.lt; omega), hlc, hc, hl⟩, grown_set _ _ _ _⟩
  · unfold takS
    rw [if_neg (by rw [hF]; decide)]
    exact ⟨rfl, ⟨A', c', blk_set hb 0 _, hB, by_grown h3.out hB (grown_set _ _ _ _) (by have := hb.lt; omega), h1, by omega, by rw [List.length_drop]; omega⟩, grown_set _ _ _ _⟩
theorem Rdr.two {w : World} {g B : Nat} {te : TypeId} {l : List UInt8} {bad : Bool} (h : Rdr w g B te l bad) : ∃ A n c, w.cell? ⟨g, 0, none⟩ = some (.slice A n c) ∧ w.cell? ⟨g, 1, none⟩ = some (.bool bad) := by
  obtain ⟨A, c, hb, _⟩ := h
  exact ⟨A, _, c, hb.cell 0, hb.cell 1⟩
theorem place_r (g B : Nat) (l : List UInt8) (bad : Bool) (w : World) (hr : Hid (Rdr w g B 54 l bad)) :
    Calls Try.prog 24 #[.pointer (some ⟨g, 0, none⟩)] w (MadeTr g B 54 (takS 2 65535 l bad) w) := by
  go_enter Try.func24, Try.ntmps24
  go_wp2_with fail
  refine (take_r g B l bad 2 65535 w (by omega) (by omega) (by omega) hr).mono ?_
  rintro e w1 ⟨rfl, h1, h2⟩
  go_wp2_with fail
  go_ret
  exact ⟨rfl, h1, h2⟩
theorem id_r (g B : Nat) (l : List UInt8) (bad : Bool) (w : World) (hr : Hid (Rdr w g B 54 l bad)) :
    Calls Try.prog 22 #[.pointer (some ⟨g, 0, none⟩)] w (MadeTr g B 54 (takS 4 4294967295 l bad) w) := by
  go_enter Try.func22, Try.ntmps22
  go_wp2_with fail
  refine (take_r g B l bad 4 4294967295 w (by omega) (by omega) (by omega) hr).mono ?_
  rintro e w1 ⟨rfl, h1, h2⟩
  go_wp2_with fail
  go_ret
  exact ⟨rfl, h1, h2⟩
theorem number_r (g B : Nat) (l : List UInt8) (bad : Bool) (w : World) (hr : Hid (Rdr w g B 54 l bad)) :
    Calls Try.prog 23 #[.pointer (some ⟨g, 0, none⟩)] w (MadeTr g B 54 (takS 8 9223372036854775807 l bad) w) := by
  go_enter Try.func23, Try.ntmps23
  go_wp2_with fail
  refine (take_r g B l bad 8 9223372036854775807 w (by omega) (by omega) (by omega) hr).mono ?_
  rintro e w1 ⟨rfl, h1, h2⟩
  go_wp2_with fail
  go_ret
  exact ⟨rfl, h1, h2⟩
structure OrdR (l : List UInt8) (bad : Bool) (a s : Int) (x : Bool) (p q n t : Int) (l' : List UInt8) (bad' : Bool) : Prop where
  ex : ∃ r1 r2 r3 r4 r5 r6 r7 : Int × List UInt8 × Bool, r1 = takS 2 65535 l bad ∧ r2 = takS 2 65535 r1.2.1 r1.2.2 ∧ r3 = takS 1 1 r2.2.1 r2.2.2 ∧ r4 = takS 8 9223372036854775807 r3.2.1 r3.2.2 ∧
    r5 = takS 8 9223372036854775807 r4.2.1 r4.2.2 ∧ r6 = takS 8 9223372036854775807 r5.2.1 r5.2.2 ∧ r7 = takS 8 9223372036854775807 r6.2.1 r6.2.2 ∧
    a = r1.1 ∧ s = r2.1 ∧ x = (r3.1 == 1) ∧ p = r4.1 ∧ q = r5.1 ∧ n = r6.1 ∧ t = r7.1 ∧ l' = r7.2.1 ∧ bad' = r7.2.2
def MadeOr (g B : Nat) (l : List UInt8) (bad : Bool) (w : World) (e : Ending) (w' : World) : Prop :=
  ∃ a s x p q n t l' bad', OrdR l bad a s x p q n t l' bad' ∧ e = .returned (.agg #[.int .i64 a, .int .i64 s, .bool x, .int .i64 p, .int .i64 q, .int .i64 n, .int .i64 t]) ∧ Rdr w' g B 54 l' bad' ∧ w.grownBy w' (some g)
theorem grown_far {w W : World} {row : Option Nat} {gV i : Nat} (h : w.grownBy W row) (hg : w.heap.size ≤ gV) (v : Value) : w.grownBy (W.setCell ⟨gV, i, none⟩ v) row :=
  h.andThen (grown_set _ _ _ _) (fun j hj => .inl (by injection hj with hj; omega))
structure Ost (w W : World) (g B gR gV : Nat) (cs : Array Value) (l : List UInt8) (bad : Bool) : Prop where
  rdr : Rdr W g B 54 l bad
  var : Blk W gV 26 cs
  res : Blk W gR 26 #[.int .i64 0, .int .i64 0, .bool false, .int .i64 0, .int .i64 0, .int .i64 0, .int .i64 0]
  gr : w.grownBy W (some g)
theorem Rdr.far {W : World} {g B gV i : Nat} {te : TypeId} {l : List UInt8} {bad : Bool} (h : Rdr W g B te l bad) (hne : g < gV) (v : Value) : Rdr (W.setCell ⟨gV, i, none⟩ v) g B te l bad := by
  obtain ⟨A, c, hb, hB, hby, r⟩ := h
  refine ⟨A, c, blk_far hb (by show g ≠ gV; omega) _, hB, ?_, r⟩
  rcases hby with h | ⟨b, o, hA, hbb, hc⟩
  · exact .inl h
  · exact .inr ⟨b, o, hA, hbb, fun j u hu => by rw [World.cell?_of_block (w := W) (Below.heap_setCell W _ v b (by show b ≠ gV; omega))]; exact hc j u hu⟩
theorem Ost.step {w W W' : World} {g B gR gV : Nat} {cs : Array Value} {l l' : List UInt8} {bad bad' : Bool} (h : Ost w W g B gR gV cs l bad) (hr : Rdr W' g B 54 l' bad') (hg : W.grownBy W' (some g)) (h1 : g ≠ gR) (h2 : g ≠ gV) : Ost w W' g B gR gV cs l' bad' :=
  ⟨hr, Blk_grown h.var hg (by intro e; exact h2 (Option.some.inj e).symm), Blk_grown h.res hg (by intro e; exact h1 (Option.some.inj e).symm), h.gr.trans hg⟩
theorem Ost.put {w W : World} {g B gR gV : Nat} {cs : Array Value} {l : List UInt8} {bad : Bool} (h : Ost w W g B gR gV cs l bad) (h1 : g < gV) (h2 : gR ≠ gV) (h3 : w.heap.size ≤ gV) (i : Nat) (v : Value) : Ost w (W.setCell ⟨gV, i, none⟩ v) g B gR gV (cs.setIfInBounds i v) l bad :=
  ⟨h.rdr.far h1 v, blk_set h.var i v, blk_far h.res h2 v, h.gr.andThen (grown_set _ _ _ _) (fun j hj => .inl (by injection hj with hj; omega))⟩
set_option maxHeartbeats 4000000 in
theorem order_r (g B : Nat) (l : List UInt8) (bad : Bool) (w : World) (hr : Hid (Rdr w g B 54 l bad)) :
    Calls Try.prog 21 #[.pointer (some ⟨g, 0, none⟩)] w (MadeOr g B l bad w) := by
  have hgl : g < w.heap.size := by obtain ⟨A, c, hb, _⟩ := hr.out; exact hb.lt
  have h0 : Hid (Ost w ((w.alloc (.cells #[.int .i64 0, .int .i64 0, .bool false, .int .i64 0, .int .i64 0, .int .i64 0, .int .i64 0] 26)).alloc (.cells #[.int .i64 0, .int .i64 0, .bool false, .int .i64 0, .int .i64 0, .int .i64 0, .int .i64 0] 26)) g B w.heap.size (w.heap.size + 1) #[.int .i64 0, .int .i64 0, .bool false, .int .i64 0, .int .i64 0, .int .i64 0, .int .i64 0] l bad) := by
    refine ⟨?_, blk_at (by simp), (Blk.fresh w _ _).alloc _, ((World.grownBy_alloc w _ _).trans (World.grownBy_alloc _ _ _))⟩
    obtain ⟨A, c, hb, hB, hby, r⟩ := hr.out
    refine ⟨A, c, (hb.alloc _).alloc _, hB, ?_, r⟩
    exact by_grown hby hB ((World.grownBy_alloc w _ _).trans (World.grownBy_alloc _ _ _)) (by omega)
  have e1 : g ≠ w.heap.size := by omega
  have e2 : g ≠ w.heap.size + 1 := by omega
  have e3 : g < w.heap.size + 1 := by omega
  have e4 : w.heap.size ≠ w.heap.size + 1 := by omega
  have e5 : w.heap.size ≤ w.heap.size + 1 := by omega
  go_enter Try.func21, Try.ntmps21
  go_upto_region 2 with fail
  generalize (w.alloc (.cells #[.int .i64 0, .int .i64 0, .bool false, .int .i64 0, .int .i64 0, .int .i64 0, .int .i64 0] 26)).alloc (.cells #[.int .i64 0, .int .i64 0, .bool false, .int .i64 0, .int .i64 0, .int .i64 0, .int .i64 0] 26) = W0 at h0 ⊢
  generalize w.heap.size + 1 = gV at h0 e2 e3 e4 e5 ⊢
  generalize hgR : w.heap.size = gR at h0 e1 e4 e5 ⊢
  have HG := Lib.hid hgR
  clear hgR
  go_wp2_with fail
  refine (place_r g B l bad _ h0.out.rdr).mono ?_
  rintro e w1 ⟨rfl, r1, g1⟩
  generalize ht1 : takS 2 65535 l bad = T1 at r1 ⊢
  have HT1 := Lib.hid ht1
  obtain ⟨v1, l1, b1⟩ := T1
  have k1 : Hid (Ost w w1 g B gR gV #[.int .i64 0, .int .i64 0, .bool false, .int .i64 0, .int .i64 0, .int .i64 0, .int .i64 0] l1 b1) := h0.out.step r1 g1 e1 e2
  have x1 : w1.cell? ⟨gV, 0, none⟩ = some (.int .i64 0) := k1.out.var.cell 0
  have y1 : w1.frozen? ⟨gV, 0, none⟩ = false := k1.out.var.thaw 0
  clear ht1 r1 g1 h0
  have h1 : Hid (Ost w (w1.setCell ⟨gV, 0, none⟩ (.int .i64 v1)) g B gR gV #[.int .i64 v1, .int .i64 0, .bool false, .int .i64 0, .int .i64 0, .int .i64 0, .int .i64 0] l1 b1) := k1.out.put e3 e4 (by rw [HG.out]; exact e5) 0 _
  go_wp2_with fail
  refine (place_r g B l1 b1 _ h1.out.rdr).mono ?_
  rintro e w2 ⟨rfl, r2, g2⟩
  generalize ht2 : takS 2 65535 l1 b1 = T2 at r2 ⊢
  have HT2 := Lib.hid ht2
  obtain ⟨v2, l2, b2⟩ := T2
  have k2 : Hid (Ost w w2 g B gR gV #[.int .i64 v1, .int .i64 0, .bool false, .int .i64 0, .int .i64 0, .int .i64 0, .int .i64 0] l2 b2) := h1.out.step r2 g2 e1 e2
  have x2 : w2.cell? ⟨gV, 1, none⟩ = some (.int .i64 0) := k2.out.var.cell 1
  have y2 : w2.frozen? ⟨gV, 1, none⟩ = false := k2.out.var.thaw 1
  clear ht2 r2 g2 h1
  have h2 : Hid (Ost w (w2.setCell ⟨gV, 1, none⟩ (.int .i64 v2)) g B gR gV #[.int .i64 v1, .int .i64 v2, .bool false, .int .i64 0, .int .i64 0, .int .i64 0, .int .i64 0] l2 b2) := k2.out.put e3 e4 (by rw [HG.out]; exact e5) 1 _
  go_wp2_with fail
  refine (take_r g B l2 b2 1 1 _ (by omega) (by omega) (by omega) h2.out.rdr).mono ?_
  rintro e w3 ⟨rfl, r3, g3⟩
  generalize ht3 : takS 1 1 l2 b2 = T3 at r3 ⊢
  have HT3 := Lib.hid ht3
  obtain ⟨v3, l3, b3⟩ := T3
  have k3 : Hid (Ost w w3 g B gR gV #[.int .i64 v1, .int .i64 v2, .bool false, .int .i64 0, .int .i64 0, .int .i64 0, .int .i64 0] l3 b3) := h2.out.step r3 g3 e1 e2
  have x3 : w3.cell? ⟨gV, 2, none⟩ = some (.bool false) := k3.out.var.cell 2
  have y3 : w3.frozen? ⟨gV, 2, none⟩ = false := k3.out.var.thaw 2
  clear ht3 r3 g3 h2
  have h3 : Hid (Ost w (w3.setCell ⟨gV, 2, none⟩ (.bool (v3 == 1))) g B gR gV #[.int .i64 v1, .int .i64 v2, .bool (v3 == 1), .int .i64 0, .int .i64 0, .int .i64 0, .int .i64 0] l3 b3) := k3.out.put e3 e4 (by rw [HG.out]; exact e5) 2 _
  go_wp2_with fail
  refine (number_r g B l3 b3 _ h3.out.rdr).mono ?_
  rintro e w4 ⟨rfl, r4, g4⟩
  generalize ht4 : takS 8 9223372036854775807 l3 b3 = T4 at r4 ⊢
  have HT4 := Lib.hid ht4
  obtain ⟨v4, l4, b4⟩ := T4
  have k4 : Hid (Ost w w4 g B gR gV #[.int .i64 v1, .int .i64 v2, .bool (v3 == 1), .int .i64 0, .int .i64 0, .int .i64 0, .int .i64 0] l4 b4) := h3.out.step r4 g4 e1 e2
  have x4 : w4.cell? ⟨gV, 3, none⟩ = some (.int .i64 0) := k4.out.var.cell 3
  have y4 : w4.frozen? ⟨gV, 3, none⟩ = false := k4.out.var.thaw 3
  clear ht4 r4 g4 h3
  have h4 : Hid (Ost w (w4.setCell ⟨gV, 3, none⟩ (.int .i64 v4)) g B gR gV #[.int .i64 v1, .int .i64 v2, .bool (v3 == 1), .int .i64 v4, .int .i64 0, .int .i64 0, .int .i64 0] l4 b4) := k4.out.put e3 e4 (by rw [HG.out]; exact e5) 3 _
  go_wp2_with fail
  refine (number_r g B l4 b4 _ h4.out.rdr).mono ?_
  rintro e w5 ⟨rfl, r5, g5⟩
  generalize ht5 : takS 8 9223372036854775807 l4 b4 = T5 at r5 ⊢
  have HT5 := Lib.hid ht5
  obtain ⟨v5, l5, b5⟩ := T5
  have k5 : Hid (Ost w w5 g B gR gV #[.int .i64 v1, .int .i64 v2, .bool (v3 == 1), .int .i64 v4, .int .i64 0, .int .i64 0, .int .i64 0] l5 b5) := h4.out.step r5 g5 e1 e2
  have x5 : w5.cell? ⟨gV, 4, none⟩ = some (.int .i64 0) := k5.out.var.cell 4
  have y5 : w5.frozen? ⟨gV, 4, none⟩ = false := k5.out.var.thaw 4
  clear ht5 r5 g5 h4
  have h5 : Hid (Ost w (w5.setCell ⟨gV, 4, none⟩ (.int .i64 v5)) g B gR gV #[.int .i64 v1, .int .i64 v2, .bool (v3 == 1), .int .i64 v4, .int .i64 v5, .int .i64 0, .int .i64 0] l5 b5) := k5.out.put e3 e4 (by rw [HG.out]; exact e5) 4 _
  go_wp2_with fail
  refine (number_r g B l5 b5 _ h5.out.rdr).mono ?_
  rintro e w6 ⟨rfl, r6, g6⟩
  generalize ht6 : takS 8 9223372036854775807 l5 b5 = T6 at r6 ⊢
  have HT6 := Lib.hid ht6
  obtain ⟨v6, l6, b6⟩ := T6
  have k6 : Hid (Ost w w6 g B gR gV #[.int .i64 v1, .int .i64 v2, .bool (v3 == 1), .int .i64 v4, .int .i64 v5, .int .i64 0, .int .i64 0] l6 b6) := h5.out.step r6 g6 e1 e2
  have x6 : w6.cell? ⟨gV, 5, none⟩ = some (.int .i64 0) := k6.out.var.cell 5
  have y6 : w6.frozen? ⟨gV, 5, none⟩ = false := k6.out.var.thaw 5
  clear ht6 r6 g6 h5
  have h6 : Hid (Ost w (w6.setCell ⟨gV, 5, none⟩ (.int .i64 v6)) g B gR gV #[.int .i64 v1, .int .i64 v2, .bool (v3 == 1), .int .i64 v4, .int .i64 v5, .int .i64 v6, .int .i64 0] l6 b6) := k6.out.put e3 e4 (by rw [HG.out]; exact e5) 5 _
  go_wp2_with fail
  refine (number_r g B l6 b6 _ h6.out.rdr).mono ?_
  rintro e w7 ⟨rfl, r7, g7⟩
  generalize ht7 : takS 8 9223372036854775807 l6 b6 = T7 at r7 ⊢
  have HT7 := Lib.hid ht7
  obtain ⟨v7, l7, b7⟩ := T7
  have k7 : Hid (Ost w w7 g B gR gV #[.int .i64 v1, .int .i64 v2, .bool (v3 == 1), .int .i64 v4, .int .i64 v5, .int .i64 v6, .int .i64 0] l7 b7) := h6.out.step r7 g7 e1 e2
  have x7 : w7.cell? ⟨gV, 6, none⟩ = some (.int .i64 0) := k7.out.var.cell 6
  have y7 : w7.frozen? ⟨gV, 6, none⟩ = false := k7.out.var.thaw 6
  clear ht7 r7 g7 h6
  have h7 : Hid (Ost w (w7.setCell ⟨gV, 6, none⟩ (.int .i64 v7)) g B gR gV #[.int .i64 v1, .int .i64 v2, .bool (v3 == 1), .int .i64 v4, .int .i64 v5, .int .i64 v6, .int .i64 v7] l7 b7) := k7.out.put e3 e4 (by rw [HG.out]; exact e5) 6 _
  go_upto_region 9 with fail
  clear k1 k2 k3 k4 k5 k6 k7
  generalize w7.setCell ⟨gV, 6, none⟩ (.int .i64 v7) = w8 at h7 ⊢
  have m0 := h7.out.var.cell 0
  have m1 := h7.out.var.cell 1
  have m2 := h7.out.var.cell 2
  have m3 := h7.out.var.cell 3
  have m4 := h7.out.var.cell 4
  have m5 := h7.out.var.cell 5
  have m6 := h7.out.var.cell 6
  simp only [List.getElem?_toArray, List.getElem?_cons_zero, List.getElem?_cons_succ] at m0 m1 m2 m3 m4 m5 m6
  obtain ⟨r0, r1, r2, r3, r4, r5, r6, z0, z1, z2, z3, z4, z5, z6⟩ := z_of h7.out.res
  obtain ⟨c0, c1, c2, c3, c4, c5, c6⟩ := st7_cells (a := .int .i64 v1) (b := .int .i64 v2) (c := .bool (v3 == 1)) (d := .int .i64 v4) (e := .int .i64 v5) (f := .int .i64 v6) (h := .int .i64 v7) h7.out.res
  go_wp2_with fail
  have hgR2 : g < gR := by have := HG.out; omega
  have hgw : w.heap.size ≤ gR := by have := HG.out; omega
  have hfin : MadeOr g B l bad w (.returned (.agg #[.int .i64 v1, .int .i64 v2, .bool (v3 == 1), .int .i64 v4, .int .i64 v5, .int .i64 v6, .int .i64 v7])) (st7 w8 gR (.int .i64 v1) (.int .i64 v2) (.bool (v3 == 1)) (.int .i64 v4) (.int .i64 v5) (.int .i64 v6) (.int .i64 v7)) :=
    ⟨v1, v2, v3 == 1, v4, v5, v6, v7, l7, b7, ⟨⟨_, _, _, _, _, _, _, HT1.out.symm, HT2.out.symm, HT3.out.symm, HT4.out.symm, HT5.out.symm, HT6.out.symm, HT7.out.symm, rfl, rfl, rfl, rfl, rfl, rfl, rfl, rfl, rfl⟩⟩, rfl,
      ((((((h7.out.rdr.far hgR2 _).far hgR2 _).far hgR2 _).far hgR2 _).far hgR2 _).far hgR2 _).far hgR2 _,
      grown_far (grown_far (grown_far (grown_far (grown_far (grown_far (grown_far h7.out.gr hgw _) hgw _) hgw _) hgw _) hgw _) hgw _) hgw _⟩
  unfold st7 at c0 c1 c2 c3 c4 c5 c6 hfin
  exact bodyPost_ret (v := .agg #[.int .i64 v1, .int .i64 v2, .bool (v3 == 1), .int .i64 v4, .int .i64 v5, .int .i64 v6, .int .i64 v7]) (by simp [results, Try.results21, go_sem, c0, c1, c2, c3, c4, c5, c6]) rfl hfin
end Go.Proofs.Ytkobldddiedmdaa.Wrd
