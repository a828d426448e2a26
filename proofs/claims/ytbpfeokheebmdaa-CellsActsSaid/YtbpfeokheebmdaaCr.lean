/- The contracts of the law's 'do' and of the reference's Do: both are the plain step. Condition: the Cells lie in memory, in three blocks of their own; the kind is one of five (the reference). -/
import Derived.Test.YtbpfeokheebmdaaCn
namespace Go.Proofs.Ytbpfeokheebmdaa.Cr
set_option maxRecDepth 100000
open Go.ChangeShapes Go.WideShapes Go.ChangeAt Go.RowKit Mem Cel Cm Cn
set_option linter.unusedVariables false
theorem madeP_mk {te : TypeId} {g gw gh : Nat} {r : (Int × Bool) × S} {x : Int} {b : Bool} {s'' : S} {w w' : World} (hr : r = ((x, b), s'')) (h : Cs w' te g gw gh s'') (hk : Kept g gw gh w w') : MadeC te g gw gh (.tuple #[.int .i64 r.1.1, .bool r.1.2]) r.2 w (.returned (.tuple #[.int .i64 x, .bool b])) w' := by
  subst hr; exact ⟨rfl, h, hk⟩
theorem step0 (s : S) (who a old v : Int) : stepF s 0 who a old v = (((loadF s a).1, false), (loadF s a).2) := rfl
theorem step1 (s : S) (who a old v : Int) : stepF s 1 who a old v = ((0, false), storeF s a v) := rfl
theorem step2 (s : S) (who a old v : Int) : stepF s 2 who a old v = ((0, (swapF s a old v).1), (swapF s a old v).2) := rfl
theorem step3 (s : S) (who a old v : Int) : stepF s 3 who a old v = ((0, (takeF s who a).1), (takeF s who a).2) := rfl
theorem step4 (s : S) (who a old v : Int) : stepF s 4 who a old v = ((0, (freeF s who a).1), (freeF s who a).2) := rfl

set_option maxHeartbeats 2000000 in
theorem do_any (g gw gh : Nat) (s : S) (k who a old v : Int) (w : World) (h : Hid (Cs w 51 g gw gh s)) (m1 : (s.ws.length : Int) ≤ 9223372036854775807) (m2 : (s.hs.length : Int) ≤ 9223372036854775807) (hk : k = 0 ∨ k = 1 ∨ k = 2 ∨ k = 3 ∨ k = 4) :
    Calls Try.prog 9 #[.pointer (some ⟨g, 0, none⟩), .agg #[.int .i64 k, .int .i64 who, .int .i64 a, .int .i64 old, .int .i64 v]] w (MadeC 51 g gw gh (.tuple #[.int .i64 (stepF s k who a old v).1.1, .bool (stepF s k who a old v).1.2]) (stepF s k who a old v).2 w) := by
  have b1 : Below w.heap.size w (w.alloc (.cells #[.int .i64 k, .int .i64 who, .int .i64 a, .int .i64 old, .int .i64 v] 31)) := (Below.refl _ _).alloc (Nat.le_refl _) _
  have k1 : Hid (Kept g gw gh w (w.alloc (.cells #[.int .i64 k, .int .i64 who, .int .i64 a, .int .i64 old, .int .i64 v] 31))) := Kept.of_below b1
  have h1 : Hid (Cs (w.alloc (.cells #[.int .i64 k, .int .i64 who, .int .i64 a, .int .i64 old, .int .i64 v] 31)) 51 g gw gh s) := h.out.below b1
  clear b1
  rcases hk with rfl | rfl | rfl | rfl | rfl
  · rw [step0]
    go_enter Try.func9, Try.ntmps9
    go_wp2_with (go_at_call 15; refine (load_any _ _ _ s a _ h1 m1 m2).mono ?_; rintro e w9 ⟨rfl, h9, k9⟩; have H9 := Lib.hid h9; have K9 := Lib.hid k9; clear h9 k9)
    go_ret2
    exact madeP_mk rfl H9.out (k1.out.trans K9.out)
  · rw [step1]
    go_enter Try.func9, Try.ntmps9
    go_wp2_with (go_at_call 14; refine (store_any _ _ _ s a v _ h1 m1 m2).mono ?_; rintro e w9 ⟨rfl, h9, k9⟩; have H9 := Lib.hid h9; have K9 := Lib.hid k9; clear h9 k9)
    go_ret2
    exact madeP_mk rfl H9.out (k1.out.trans K9.out)
  · rw [step2]
    go_enter Try.func9, Try.ntmps9
    go_wp2_with (go_at_call 16; refine (swap_any _ _ _ s a old v _ h1 m1 m2).mono ?_; rintro e w9 ⟨rfl, h9, k9⟩; have H9 := Lib.hid h9; have K9 := Lib.hid k9; clear h9 k9)
    go_ret2
    exact madeP_mk rfl H9.out (k1.out.trans K9.out)
  · rw [step3]
    go_enter Try.func9, Try.ntmps9
    go_wp2_with (go_at_call 17; refine (take_any _ _ _ s who a _ h1 m1 m2).mono ?_; rintro e w9 ⟨rfl, h9, k9⟩; have H9 := Lib.hid h9; have K9 := Lib.hid k9; clear h9 k9)
    go_ret2
    exact madeP_mk rfl H9.out (k1.out.trans K9.out)
  · rw [step4]
    go_enter Try.func9, Try.ntmps9
    go_wp2_with (go_at_call 18; refine (free_any _ _ _ s who a _ h1 m1 m2).mono ?_; rintro e w9 ⟨rfl, h9, k9⟩; have H9 := Lib.hid h9; have K9 := Lib.hid k9; clear h9 k9)
    go_ret2
    exact madeP_mk rfl H9.out (k1.out.trans K9.out)

set_option maxHeartbeats 2000000 in
theorem rdo0 (g gw gh : Nat) (s : S) (who a old v : Int) (w : World) (h : Hid (Cs w 40 g gw gh s)) (m1 : (s.ws.length : Int) ≤ 9223372036854775807) (m2 : (s.hs.length : Int) ≤ 9223372036854775807) :
    Calls Try.prog 10 #[.pointer (some ⟨g, 0, none⟩), .int .i64 0, .int .i64 who, .int .i64 a, .int .i64 old, .int .i64 v] w (MadeC 40 g gw gh (.tuple #[.int .i64 (stepF s 0 who a old v).1.1, .bool (stepF s 0 who a old v).1.2]) (stepF s 0 who a old v).2 w) := by
  have c0 : w.cell? ⟨g, 0, none⟩ = some (.slice (some ⟨gw, 0, none⟩) s.ws.length s.ws.length) := h.out.c.cell 0
  have c1 : w.cell? ⟨g, 1, none⟩ = some (.slice (some ⟨gh, 0, none⟩) s.hs.length s.hs.length) := h.out.c.cell 1
  have c2 : w.cell? ⟨g, 2, none⟩ = some (.int .i64 s.t) := h.out.c.cell 2
  have z2 : w.frozen? ⟨g, 2, none⟩ = false := h.out.c.thaw 2
  cases hr : inR s.ws.length a with
  | false =>
    have hq : a < 0 ∨ (s.ws.length : Int) ≤ a := by
      by_cases h0 : a < 0
      · exact .inl h0
      · right
        by_cases h1 : a < s.ws.length
        · have := inR_t (n := s.ws.length) (k := a) (by omega) h1
          rw [this] at hr; cases hr
        · omega
    have E1 : Hid (stepF s 0 who a old v = ((0, false), s)) := by show _ = _; rw [step0]; unfold loadF; simp [hr]
    clear hr
    by_cases h0 : a < 0
    · go_enter Try.func10, Try.ntmps10
      go_wp2_with fail
      go_ret2
      exact madeP_mk E1.out h.out (Kept.refl _ _ _ _)
    · have h1 : (s.ws.length : Int) ≤ a := by omega
      clear hq
      go_enter Try.func10, Try.ntmps10
      go_wp2_with fail
      go_ret2
      exact madeP_mk E1.out h.out (Kept.refl _ _ _ _)
  | true =>
    obtain ⟨r0, r1⟩ := inR_of hr
    obtain ⟨i, rfl⟩ : ∃ i : Nat, a = i := ⟨a.toNat, by omega⟩
    have hi : i < s.ws.length := by omega
    have h2 := Lib.hid (h.out.setT (wrap64 (s.t + 1)))
    have d0 : (w.setCell ⟨g, 2, none⟩ (.int .i64 (wrap64 (s.t + 1)))).cell? ⟨gw, i, none⟩ = some (.int .i64 (gI s.ws i)) := blk_ints_cell h2.out.cw hi
    have d1 : (w.setCell ⟨g, 2, none⟩ (.int .i64 (wrap64 (s.t + 1)))).cell? ⟨g, 0, none⟩ = some (.slice (some ⟨gw, 0, none⟩) s.ws.length s.ws.length) := h2.out.c.cell 0
    have d2 : (w.setCell ⟨g, 2, none⟩ (.int .i64 (wrap64 (s.t + 1)))).cell? ⟨g, 1, none⟩ = some (.slice (some ⟨gh, 0, none⟩) s.hs.length s.hs.length) := h2.out.c.cell 1
    have d3 : (w.setCell ⟨g, 2, none⟩ (.int .i64 (wrap64 (s.t + 1)))).frozen? ⟨gw, i, none⟩ = false := h2.out.cw.thaw i
    have E1 : Hid (stepF s 0 who i old v = ((gI s.ws i, false), ⟨s.ws, s.hs, wrap64 (s.t + 1)⟩)) := by show _ = _; rw [step0]; unfold loadF; simp [hr]
    clear hr r0
    go_enter Try.func10, Try.ntmps10
    go_wp2_with fail
    go_ret2
    exact madeP_mk E1.out h2.out (kept_t (Kept.refl _ _ _ _) _ _)

set_option maxHeartbeats 2000000 in
theorem rdo1 (g gw gh : Nat) (s : S) (who a old v : Int) (w : World) (h : Hid (Cs w 40 g gw gh s)) (m1 : (s.ws.length : Int) ≤ 9223372036854775807) (m2 : (s.hs.length : Int) ≤ 9223372036854775807) :
    Calls Try.prog 10 #[.pointer (some ⟨g, 0, none⟩), .int .i64 1, .int .i64 who, .int .i64 a, .int .i64 old, .int .i64 v] w (MadeC 40 g gw gh (.tuple #[.int .i64 (stepF s 1 who a old v).1.1, .bool (stepF s 1 who a old v).1.2]) (stepF s 1 who a old v).2 w) := by
  have c0 : w.cell? ⟨g, 0, none⟩ = some (.slice (some ⟨gw, 0, none⟩) s.ws.length s.ws.length) := h.out.c.cell 0
  have c1 : w.cell? ⟨g, 1, none⟩ = some (.slice (some ⟨gh, 0, none⟩) s.hs.length s.hs.length) := h.out.c.cell 1
  have c2 : w.cell? ⟨g, 2, none⟩ = some (.int .i64 s.t) := h.out.c.cell 2
  have z2 : w.frozen? ⟨g, 2, none⟩ = false := h.out.c.thaw 2
  cases hr : inR s.ws.length a with
  | false =>
    have hq : a < 0 ∨ (s.ws.length : Int) ≤ a := by
      by_cases h0 : a < 0
      · exact .inl h0
      · right
        by_cases h1 : a < s.ws.length
        · have := inR_t (n := s.ws.length) (k := a) (by omega) h1
          rw [this] at hr; cases hr
        · omega
    have E1 : Hid (stepF s 1 who a old v = ((0, false), s)) := by show _ = _; rw [step1]; unfold storeF; simp [hr]
    clear hr
    by_cases h0 : a < 0
    · go_enter Try.func10, Try.ntmps10
      go_wp2_with fail
      go_ret2
      exact madeP_mk E1.out h.out (Kept.refl _ _ _ _)
    · have h1 : (s.ws.length : Int) ≤ a := by omega
      clear hq
      go_enter Try.func10, Try.ntmps10
      go_wp2_with fail
      go_ret2
      exact madeP_mk E1.out h.out (Kept.refl _ _ _ _)
  | true =>
    obtain ⟨r0, r1⟩ := inR_of hr
    obtain ⟨i, rfl⟩ : ∃ i : Nat, a = i := ⟨a.toNat, by omega⟩
    have hi : i < s.ws.length := by omega
    have h2 := Lib.hid (h.out.setT (wrap64 (s.t + 1)))
    have d0 : (w.setCell ⟨g, 2, none⟩ (.int .i64 (wrap64 (s.t + 1)))).cell? ⟨gw, i, none⟩ = some (.int .i64 (gI s.ws i)) := blk_ints_cell h2.out.cw hi
    have d1 : (w.setCell ⟨g, 2, none⟩ (.int .i64 (wrap64 (s.t + 1)))).cell? ⟨g, 0, none⟩ = some (.slice (some ⟨gw, 0, none⟩) s.ws.length s.ws.length) := h2.out.c.cell 0
    have d2 : (w.setCell ⟨g, 2, none⟩ (.int .i64 (wrap64 (s.t + 1)))).cell? ⟨g, 1, none⟩ = some (.slice (some ⟨gh, 0, none⟩) s.hs.length s.hs.length) := h2.out.c.cell 1
    have d3 : (w.setCell ⟨g, 2, none⟩ (.int .i64 (wrap64 (s.t + 1)))).frozen? ⟨gw, i, none⟩ = false := h2.out.cw.thaw i
    have E1 : Hid (stepF s 1 who i old v = ((0, false), ⟨s.ws.set i v, s.hs, wrap64 (s.t + 1)⟩)) := by show _ = _; rw [step1]; unfold storeF; simp [hr]
    clear hr r0
    go_enter Try.func10, Try.ntmps10
    go_wp2_with fail
    go_ret2
    exact madeP_mk E1.out (h2.out.setW i v) (kept_w (kept_t (Kept.refl _ _ _ _) _ _) _ _)

set_option maxHeartbeats 2000000 in
theorem rdo2 (g gw gh : Nat) (s : S) (who a old v : Int) (w : World) (h : Hid (Cs w 40 g gw gh s)) (m1 : (s.ws.length : Int) ≤ 9223372036854775807) (m2 : (s.hs.length : Int) ≤ 9223372036854775807) :
    Calls Try.prog 10 #[.pointer (some ⟨g, 0, none⟩), .int .i64 2, .int .i64 who, .int .i64 a, .int .i64 old, .int .i64 v] w (MadeC 40 g gw gh (.tuple #[.int .i64 (stepF s 2 who a old v).1.1, .bool (stepF s 2 who a old v).1.2]) (stepF s 2 who a old v).2 w) := by
  have c0 : w.cell? ⟨g, 0, none⟩ = some (.slice (some ⟨gw, 0, none⟩) s.ws.length s.ws.length) := h.out.c.cell 0
  have c1 : w.cell? ⟨g, 1, none⟩ = some (.slice (some ⟨gh, 0, none⟩) s.hs.length s.hs.length) := h.out.c.cell 1
  have c2 : w.cell? ⟨g, 2, none⟩ = some (.int .i64 s.t) := h.out.c.cell 2
  have z2 : w.frozen? ⟨g, 2, none⟩ = false := h.out.c.thaw 2
  cases hr : inR s.ws.length a with
  | false =>
    have hq : a < 0 ∨ (s.ws.length : Int) ≤ a := by
      by_cases h0 : a < 0
      · exact .inl h0
      · right
        by_cases h1 : a < s.ws.length
        · have := inR_t (n := s.ws.length) (k := a) (by omega) h1
          rw [this] at hr; cases hr
        · omega
    have E1 : Hid (stepF s 2 who a old v = ((0, false), s)) := by show _ = _; rw [step2]; unfold swapF swF; simp [hr]
    clear hr
    by_cases h0 : a < 0
    · go_enter Try.func10, Try.ntmps10
      go_wp2_with fail
      go_ret2
      exact madeP_mk E1.out h.out (Kept.refl _ _ _ _)
    · have h1 : (s.ws.length : Int) ≤ a := by omega
      clear hq
      go_enter Try.func10, Try.ntmps10
      go_wp2_with fail
      go_ret2
      exact madeP_mk E1.out h.out (Kept.refl _ _ _ _)
  | true =>
    obtain ⟨r0, r1⟩ := inR_of hr
    obtain ⟨i, rfl⟩ : ∃ i : Nat, a = i := ⟨a.toNat, by omega⟩
    have hi : i < s.ws.length := by omega
    have h2 := Lib.hid (h.out.setT (wrap64 (s.t + 1)))
    have d0 : (w.setCell ⟨g, 2, none⟩ (.int .i64 (wrap64 (s.t + 1)))).cell? ⟨gw, i, none⟩ = some (.int .i64 (gI s.ws i)) := blk_ints_cell h2.out.cw hi
    have d1 : (w.setCell ⟨g, 2, none⟩ (.int .i64 (wrap64 (s.t + 1)))).cell? ⟨g, 0, none⟩ = some (.slice (some ⟨gw, 0, none⟩) s.ws.length s.ws.length) := h2.out.c.cell 0
    have d2 : (w.setCell ⟨g, 2, none⟩ (.int .i64 (wrap64 (s.t + 1)))).cell? ⟨g, 1, none⟩ = some (.slice (some ⟨gh, 0, none⟩) s.hs.length s.hs.length) := h2.out.c.cell 1
    have d3 : (w.setCell ⟨g, 2, none⟩ (.int .i64 (wrap64 (s.t + 1)))).frozen? ⟨gw, i, none⟩ = false := h2.out.cw.thaw i
    by_cases he : gI s.ws i = old
    · have E1 : Hid (stepF s 2 who i old v = ((0, true), ⟨s.ws.set i v, s.hs, wrap64 (s.t + 1)⟩)) := by show _ = _; rw [step2]; unfold swapF swF; simp [hr, he]
      have e2 : (gI s.ws i != old) = false := by simp [he]
      clear hr r0 he
      go_enter Try.func10, Try.ntmps10
      go_wp2_with fail
      go_ret2
      exact madeP_mk E1.out (h2.out.setW i v) (kept_w (kept_t (Kept.refl _ _ _ _) _ _) _ _)
    · have E1 : Hid (stepF s 2 who i old v = ((0, false), ⟨s.ws, s.hs, wrap64 (s.t + 1)⟩)) := by show _ = _; rw [step2]; unfold swapF swF; simp [hr, he]
      have e2 : (gI s.ws i != old) = true := by simp [he]
      clear hr r0 he
      go_enter Try.func10, Try.ntmps10
      go_wp2_with fail
      go_ret2
      exact madeP_mk E1.out h2.out (kept_t (Kept.refl _ _ _ _) _ _)

set_option maxHeartbeats 2000000 in
theorem rdo3 (g gw gh : Nat) (s : S) (who a old v : Int) (w : World) (h : Hid (Cs w 40 g gw gh s)) (m1 : (s.ws.length : Int) ≤ 9223372036854775807) (m2 : (s.hs.length : Int) ≤ 9223372036854775807) :
    Calls Try.prog 10 #[.pointer (some ⟨g, 0, none⟩), .int .i64 3, .int .i64 who, .int .i64 a, .int .i64 old, .int .i64 v] w (MadeC 40 g gw gh (.tuple #[.int .i64 (stepF s 3 who a old v).1.1, .bool (stepF s 3 who a old v).1.2]) (stepF s 3 who a old v).2 w) := by
  have c0 : w.cell? ⟨g, 0, none⟩ = some (.slice (some ⟨gw, 0, none⟩) s.ws.length s.ws.length) := h.out.c.cell 0
  have c1 : w.cell? ⟨g, 1, none⟩ = some (.slice (some ⟨gh, 0, none⟩) s.hs.length s.hs.length) := h.out.c.cell 1
  have c2 : w.cell? ⟨g, 2, none⟩ = some (.int .i64 s.t) := h.out.c.cell 2
  have z2 : w.frozen? ⟨g, 2, none⟩ = false := h.out.c.thaw 2
  by_cases hw : who < 0
  · have E1 : Hid (stepF s 3 who a old v = ((0, false), s)) := by show _ = _; rw [step3]; unfold takeF latF; simp [show ¬ 0 ≤ who by omega]
    by_cases h0 : a < 0
    · go_enter Try.func10, Try.ntmps10
      go_wp2_with fail
      go_ret2
      exact madeP_mk E1.out h.out (Kept.refl _ _ _ _)
    · by_cases h1 : (s.hs.length : Int) ≤ a
      · go_enter Try.func10, Try.ntmps10
        go_wp2_with fail
        go_ret2
        exact madeP_mk E1.out h.out (Kept.refl _ _ _ _)
      · go_enter Try.func10, Try.ntmps10
        go_wp2_with fail
        go_ret2
        exact madeP_mk E1.out h.out (Kept.refl _ _ _ _)
  have hw0 : 0 ≤ who := by omega
  cases hr : inR s.hs.length a with
  | false =>
    have hq : a < 0 ∨ (s.hs.length : Int) ≤ a := by
      by_cases h0 : a < 0
      · exact .inl h0
      · right
        by_cases h1 : a < s.hs.length
        · have := inR_t (n := s.hs.length) (k := a) (by omega) h1
          rw [this] at hr; cases hr
        · omega
    have E1 : Hid (stepF s 3 who a old v = ((0, false), s)) := by show _ = _; rw [step3]; unfold takeF latF swF; simp [hr, hw0]
    clear hr
    by_cases h0 : a < 0
    · go_enter Try.func10, Try.ntmps10
      go_wp2_with fail
      go_ret2
      exact madeP_mk E1.out h.out (Kept.refl _ _ _ _)
    · have h1 : (s.hs.length : Int) ≤ a := by omega
      clear hq
      go_enter Try.func10, Try.ntmps10
      go_wp2_with fail
      go_ret2
      exact madeP_mk E1.out h.out (Kept.refl _ _ _ _)
  | true =>
    obtain ⟨r0, r1⟩ := inR_of hr
    obtain ⟨i, rfl⟩ : ∃ i : Nat, a = i := ⟨a.toNat, by omega⟩
    have hi : i < s.hs.length := by omega
    have h2 := Lib.hid (h.out.setT (wrap64 (s.t + 1)))
    have d0 : (w.setCell ⟨g, 2, none⟩ (.int .i64 (wrap64 (s.t + 1)))).cell? ⟨gh, i, none⟩ = some (.int .i64 (gI s.hs i)) := blk_ints_cell h2.out.ch hi
    have d1 : (w.setCell ⟨g, 2, none⟩ (.int .i64 (wrap64 (s.t + 1)))).cell? ⟨g, 0, none⟩ = some (.slice (some ⟨gw, 0, none⟩) s.ws.length s.ws.length) := h2.out.c.cell 0
    have d2 : (w.setCell ⟨g, 2, none⟩ (.int .i64 (wrap64 (s.t + 1)))).cell? ⟨g, 1, none⟩ = some (.slice (some ⟨gh, 0, none⟩) s.hs.length s.hs.length) := h2.out.c.cell 1
    have d3 : (w.setCell ⟨g, 2, none⟩ (.int .i64 (wrap64 (s.t + 1)))).frozen? ⟨gh, i, none⟩ = false := h2.out.ch.thaw i
    by_cases he : gI s.hs i = (-1)
    · have E1 : Hid (stepF s 3 who i old v = ((0, true), ⟨s.ws, s.hs.set i who, wrap64 (s.t + 1)⟩)) := by show _ = _; rw [step3]; unfold takeF latF swF; simp [hr, he, hw0]
      have e2 : (gI s.hs i != (-1)) = false := by simp [he]
      clear hr r0 he
      go_enter Try.func10, Try.ntmps10
      go_wp2_with fail
      go_ret2
      exact madeP_mk E1.out (h2.out.setH i who) (kept_h (kept_t (Kept.refl _ _ _ _) _ _) _ _)
    · have E1 : Hid (stepF s 3 who i old v = ((0, false), ⟨s.ws, s.hs, wrap64 (s.t + 1)⟩)) := by show _ = _; rw [step3]; unfold takeF latF swF; simp [hr, he, hw0]
      have e2 : (gI s.hs i != (-1)) = true := by simp [he]
      clear hr r0 he
      go_enter Try.func10, Try.ntmps10
      go_wp2_with fail
      go_ret2
      exact madeP_mk E1.out h2.out (kept_t (Kept.refl _ _ _ _) _ _)

set_option maxHeartbeats 2000000 in
theorem rdo4 (g gw gh : Nat) (s : S) (who a old v : Int) (w : World) (h : Hid (Cs w 40 g gw gh s)) (m1 : (s.ws.length : Int) ≤ 9223372036854775807) (m2 : (s.hs.length : Int) ≤ 9223372036854775807) :
    Calls Try.prog 10 #[.pointer (some ⟨g, 0, none⟩), .int .i64 4, .int .i64 who, .int .i64 a, .int .i64 old, .int .i64 v] w (MadeC 40 g gw gh (.tuple #[.int .i64 (stepF s 4 who a old v).1.1, .bool (stepF s 4 who a old v).1.2]) (stepF s 4 who a old v).2 w) := by
  have c0 : w.cell? ⟨g, 0, none⟩ = some (.slice (some ⟨gw, 0, none⟩) s.ws.length s.ws.length) := h.out.c.cell 0
  have c1 : w.cell? ⟨g, 1, none⟩ = some (.slice (some ⟨gh, 0, none⟩) s.hs.length s.hs.length) := h.out.c.cell 1
  have c2 : w.cell? ⟨g, 2, none⟩ = some (.int .i64 s.t) := h.out.c.cell 2
  have z2 : w.frozen? ⟨g, 2, none⟩ = false := h.out.c.thaw 2
  by_cases hw : who < 0
  · have E1 : Hid (stepF s 4 who a old v = ((0, false), s)) := by show _ = _; rw [step4]; unfold freeF latF; simp [show ¬ 0 ≤ who by omega]
    by_cases h0 : a < 0
    · go_enter Try.func10, Try.ntmps10
      go_wp2_with fail
      go_ret2
      exact madeP_mk E1.out h.out (Kept.refl _ _ _ _)
    · by_cases h1 : (s.hs.length : Int) ≤ a
      · go_enter Try.func10, Try.ntmps10
        go_wp2_with fail
        go_ret2
        exact madeP_mk E1.out h.out (Kept.refl _ _ _ _)
      · go_enter Try.func10, Try.ntmps10
        go_wp2_with fail
        go_ret2
        exact madeP_mk E1.out h.out (Kept.refl _ _ _ _)
  have hw0 : 0 ≤ who := by omega
  cases hr : inR s.hs.length a with
  | false =>
    have hq : a < 0 ∨ (s.hs.length : Int) ≤ a := by
      by_cases h0 : a < 0
      · exact .inl h0
      · right
        by_cases h1 : a < s.hs.length
        · have := inR_t (n := s.hs.length) (k := a) (by omega) h1
          rw [this] at hr; cases hr
        · omega
    have E1 : Hid (stepF s 4 who a old v = ((0, false), s)) := by show _ = _; rw [step4]; unfold freeF latF swF; simp [hr, hw0]
    clear hr
    by_cases h0 : a < 0
    · go_enter Try.func10, Try.ntmps10
      go_wp2_with fail
      go_ret2
      exact madeP_mk E1.out h.out (Kept.refl _ _ _ _)
    · have h1 : (s.hs.length : Int) ≤ a := by omega
      clear hq
      go_enter Try.func10, Try.ntmps10
      go_wp2_with fail
      go_ret2
      exact madeP_mk E1.out h.out (Kept.refl _ _ _ _)
  | true =>
    obtain ⟨r0, r1⟩ := inR_of hr
    obtain ⟨i, rfl⟩ : ∃ i : Nat, a = i := ⟨a.toNat, by omega⟩
    have hi : i < s.hs.length := by omega
    have h2 := Lib.hid (h.out.setT (wrap64 (s.t + 1)))
    have d0 : (w.setCell ⟨g, 2, none⟩ (.int .i64 (wrap64 (s.t + 1)))).cell? ⟨gh, i, none⟩ = some (.int .i64 (gI s.hs i)) := blk_ints_cell h2.out.ch hi
    have d1 : (w.setCell ⟨g, 2, none⟩ (.int .i64 (wrap64 (s.t + 1)))).cell? ⟨g, 0, none⟩ = some (.slice (some ⟨gw, 0, none⟩) s.ws.length s.ws.length) := h2.out.c.cell 0
    have d2 : (w.setCell ⟨g, 2, none⟩ (.int .i64 (wrap64 (s.t + 1)))).cell? ⟨g, 1, none⟩ = some (.slice (some ⟨gh, 0, none⟩) s.hs.length s.hs.length) := h2.out.c.cell 1
    have d3 : (w.setCell ⟨g, 2, none⟩ (.int .i64 (wrap64 (s.t + 1)))).frozen? ⟨gh, i, none⟩ = false := h2.out.ch.thaw i
    by_cases he : gI s.hs i = who
    · have E1 : Hid (stepF s 4 who i old v = ((0, true), ⟨s.ws, s.hs.set i (-1), wrap64 (s.t + 1)⟩)) := by show _ = _; rw [step4]; unfold freeF latF swF; simp [hr, he, hw0]
      have e2 : (gI s.hs i != who) = false := by simp [he]
      clear hr r0 he
      go_enter Try.func10, Try.ntmps10
      go_wp2_with fail
      go_ret2
      exact madeP_mk E1.out (h2.out.setH i (-1)) (kept_h (kept_t (Kept.refl _ _ _ _) _ _) _ _)
    · have E1 : Hid (stepF s 4 who i old v = ((0, false), ⟨s.ws, s.hs, wrap64 (s.t + 1)⟩)) := by show _ = _; rw [step4]; unfold freeF latF swF; simp [hr, he, hw0]
      have e2 : (gI s.hs i != who) = true := by simp [he]
      clear hr r0 he
      go_enter Try.func10, Try.ntmps10
      go_wp2_with fail
      go_ret2
      exact madeP_mk E1.out h2.out (kept_t (Kept.refl _ _ _ _) _ _)

theorem rdo_any (g gw gh : Nat) (s : S) (k who a old v : Int) (w : World) (h : Hid (Cs w 40 g gw gh s)) (m1 : (s.ws.length : Int) ≤ 9223372036854775807) (m2 : (s.hs.length : Int) ≤ 9223372036854775807) (hk : k = 0 ∨ k = 1 ∨ k = 2 ∨ k = 3 ∨ k = 4) :
    Calls Try.prog 10 #[.pointer (some ⟨g, 0, none⟩), .int .i64 k, .int .i64 who, .int .i64 a, .int .i64 old, .int .i64 v] w (MadeC 40 g gw gh (.tuple #[.int .i64 (stepF s k who a old v).1.1, .bool (stepF s k who a old v).1.2]) (stepF s k who a old v).2 w) := by
  rcases hk with rfl | rfl | rfl | rfl | rfl
  · exact rdo0 g gw gh s who a old v w h m1 m2
  · exact rdo1 g gw gh s who a old v w h m1 m2
  · exact rdo2 g gw gh s who a old v w h m1 m2
  · exact rdo3 g gw gh s who a old v w h m1 m2
  · exact rdo4 g gw gh s who a old v w h m1 m2
end Go.Proofs.Ytbpfeokheebmdaa.Cr
