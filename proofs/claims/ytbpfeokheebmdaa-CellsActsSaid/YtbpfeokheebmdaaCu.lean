/- told of the laws on cells answers true, whatever memory there is. No condition. -/
import Derived.Test.YtbpfeokheebmdaaCt
namespace Go.Proofs.Ytbpfeokheebmdaa.Cu
set_option maxRecDepth 100000
open Go.ChangeShapes Go.WideShapes Go.ChangeAt Go.RowKit Mem Cel Cm Cn Cx Cy Cz Cr Ct
set_option linter.unusedVariables false
def MadeB (b : Bool) (w : World) (e : Ending) (w' : World) : Prop := e = .returned (.bool b) ∧ Below w.heap.size w w'
theorem madeB_mk {b b' : Bool} {w w' : World} (h : b' = b) (hb : Below w.heap.size w w') : MadeB b' w (.returned (.bool b)) w' := by subst h; exact ⟨rfl, hb⟩
theorem kept_step {g gw gh : Nat} {w a b : World} (h : Below w.heap.size w a) (k : Kept g gw gh a b) (h1 : w.heap.size ≤ g) (h2 : w.heap.size ≤ gw) (h3 : w.heap.size ≤ gh) : Below w.heap.size w b :=
  h.trans (k.below h.size h1 h2 h3)
def S0 : S := ⟨[0], [-1], 0⟩
def S1 : S := ⟨[0], [0], 1⟩
def S2 : S := ⟨[0], [0], 2⟩
def S3 : S := ⟨[0], [0], 3⟩
def S4 : S := ⟨[7], [0], 4⟩
def S5 : S := ⟨[9], [0], 5⟩
def S6 : S := ⟨[9], [0], 6⟩
def S7 : S := ⟨[9], [0], 7⟩
theorem e0 : takeF S0 0 0 = (true, S1) := by kernel_rfl
theorem e1 : takeF S1 1 0 = (false, S2) := by kernel_rfl
theorem e2 : freeF S2 1 0 = (false, S3) := by kernel_rfl
theorem e3 : storeF S3 0 7 = S4 := by kernel_rfl
theorem e4 : swapF S4 0 7 9 = (true, S5) := by kernel_rfl
theorem e5 : swapF S5 0 7 8 = (false, S6) := by kernel_rfl
theorem e6 : loadF S6 0 = (9, S7) := by kernel_rfl
theorem eh : holdF S7 0 = 0 := by kernel_rfl
theorem ep : peekF S7 0 = 9 := by kernel_rfl
theorem l1 (s : S) (h : s.ws.length = 1 ∧ s.hs.length = 1) : (s.ws.length : Int) ≤ 9223372036854775807 ∧ (s.hs.length : Int) ≤ 9223372036854775807 := by omega

set_option maxHeartbeats 4000000 in
theorem told_any (w : World) : Calls Try.prog 8 #[] w (MadeB true w) := by
  go_enter Try.func8, Try.ntmps8
  go_wp2_with fail
  refine (new_any 1 1 _ (by omega) (by omega)).mono ?_
  rintro e w0 ⟨g, gw, gh, rfl, h0, hg, hgw, hgh, hb0⟩
  have B0 := Lib.hid hb0
  have H0 : Hid (Cs w0 51 g gw gh S0) := h0
  clear hb0 h0
  simp only [vNew]
  go_wp2_with fail
  refine (take_any g gw gh S0 0 0 _ H0 (l1 _ ⟨rfl, rfl⟩).1 (l1 _ ⟨rfl, rfl⟩).2).mono ?_
  rintro e w1 ⟨rfl, h1, k1⟩
  rw [e0] at h1 ⊢
  have H1 : Hid (Cs w1 51 g gw gh S1) := h1
  have B1 := Lib.hid (kept_step B0.out k1 hg hgw hgh)
  clear h1 k1
  go_wp2_with fail
  refine (take_any g gw gh S1 1 0 _ H1 (l1 _ ⟨rfl, rfl⟩).1 (l1 _ ⟨rfl, rfl⟩).2).mono ?_
  rintro e w2 ⟨rfl, h2, k2⟩
  rw [e1] at h2 ⊢
  have H2 : Hid (Cs w2 51 g gw gh S2) := h2
  have B2 := Lib.hid (kept_step B1.out k2 hg hgw hgh)
  clear h2 k2
  go_wp2_with fail
  refine (free_any g gw gh S2 1 0 _ H2 (l1 _ ⟨rfl, rfl⟩).1 (l1 _ ⟨rfl, rfl⟩).2).mono ?_
  rintro e w3 ⟨rfl, h3, k3⟩
  rw [e2] at h3 ⊢
  have H3 : Hid (Cs w3 51 g gw gh S3) := h3
  have B3 := Lib.hid (kept_step B2.out k3 hg hgw hgh)
  clear h3 k3
  go_wp2_with fail
  refine (store_any g gw gh S3 0 7 _ H3 (l1 _ ⟨rfl, rfl⟩).1 (l1 _ ⟨rfl, rfl⟩).2).mono ?_
  rintro e w4 ⟨rfl, h4, k4⟩
  rw [e3] at h4
  have H4 : Hid (Cs w4 51 g gw gh S4) := h4
  have B4 := Lib.hid (kept_step B3.out k4 hg hgw hgh)
  clear h4 k4
  go_wp2_with fail
  refine (swap_any g gw gh S4 0 7 9 _ H4 (l1 _ ⟨rfl, rfl⟩).1 (l1 _ ⟨rfl, rfl⟩).2).mono ?_
  rintro e w5 ⟨rfl, h5, k5⟩
  rw [e4] at h5 ⊢
  have H5 : Hid (Cs w5 51 g gw gh S5) := h5
  have B5 := Lib.hid (kept_step B4.out k5 hg hgw hgh)
  clear h5 k5
  go_wp2_with fail
  refine (swap_any g gw gh S5 0 7 8 _ H5 (l1 _ ⟨rfl, rfl⟩).1 (l1 _ ⟨rfl, rfl⟩).2).mono ?_
  rintro e w6 ⟨rfl, h6, k6⟩
  rw [e5] at h6 ⊢
  have H6 : Hid (Cs w6 51 g gw gh S6) := h6
  have B6 := Lib.hid (kept_step B5.out k6 hg hgw hgh)
  clear h6 k6
  go_wp2_with fail
  refine (load_any g gw gh S6 0 _ H6 (l1 _ ⟨rfl, rfl⟩).1 (l1 _ ⟨rfl, rfl⟩).2).mono ?_
  rintro e w7 ⟨rfl, h7, k7⟩
  rw [e6] at h7 ⊢
  have H7 : Hid (Cs w7 51 g gw gh S7) := h7
  have B7 := Lib.hid (kept_step B6.out k7 hg hgw hgh)
  clear h7 k7
  go_wp2_with fail
  refine (time_any g gw gh S7 _ H7 (l1 _ ⟨rfl, rfl⟩).1 (l1 _ ⟨rfl, rfl⟩).2).mono ?_
  rintro e w8 ⟨rfl, rfl⟩
  rw [show S7.t = 7 from rfl]
  go_wp2_with fail
  refine (holder_any g gw gh S7 0 _ H7 (l1 _ ⟨rfl, rfl⟩).1 (l1 _ ⟨rfl, rfl⟩).2).mono ?_
  rintro e w8 ⟨rfl, rfl⟩
  rw [eh]
  go_wp2_with fail
  refine (peek_any g gw gh S7 0 _ H7 (l1 _ ⟨rfl, rfl⟩).1 (l1 _ ⟨rfl, rfl⟩).2).mono ?_
  rintro e w8 ⟨rfl, rfl⟩
  rw [ep]
  go_wp2_with fail
  go_ret
  exact madeB_mk rfl B7.out
end Go.Proofs.Ytbpfeokheebmdaa.Cu
