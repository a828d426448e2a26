/- For every two numbers the law CellsNews returns true, and changes nothing: it is told whether there may be Cells; of such as aren't there nothing is told. No condition. -/
import Derived.Test.YtbpfeokheebmdaaCu
namespace Go.Proofs.Ytbpfeokheebmdaa.cellsNews
set_option maxRecDepth 100000
open Go.ChangeShapes Go.WideShapes Go.ChangeAt Go.RowKit Mem Cel Cm Cn Cx Cy Cz Cr Ct Cu
set_option linter.unusedVariables false

theorem own : ownKnob Try.prog.godebug = none := by kernel_rfl
theorem laidOut : laidOutB Try.prog = true := by kernel_rfl

set_option maxHeartbeats 4000000 in
theorem walk_big (a b : Int) (w : World) (h : (9000 < a ∧ a ≤ 65536) ∨ (9000 < b ∧ b ≤ 65536)) : Calls Try.prog 4 #[.int .i64 a, .int .i64 b] w (MadeB true w) := by
  by_cases h1 : 9000 < a ∧ a ≤ 65536
  · obtain ⟨p1, p2⟩ := h1
    clear h
    go_enter Try.func4, Try.ntmps4
    go_wp2_with fail
    refine (told_any _).mono ?_
    rintro e w4 ⟨rfl, hb4⟩
    have B4 := Lib.hid hb4
    clear hb4
    go_wp2_with fail
    go_ret
    exact madeB_mk rfl B4.out
  · obtain ⟨p1, p2⟩ := h.resolve_left h1
    by_cases h2 : 9000 < a
    · have h3 : 65536 < a := by omega
      clear h1 h
      go_enter Try.func4, Try.ntmps4
      go_wp2_with fail
      refine (told_any _).mono ?_
      rintro e w4 ⟨rfl, hb4⟩
      have B4 := Lib.hid hb4
      clear hb4
      go_wp2_with fail
      go_ret
      exact madeB_mk rfl B4.out
    · clear h1 h
      go_enter Try.func4, Try.ntmps4
      go_wp2_with fail
      refine (told_any _).mono ?_
      rintro e w4 ⟨rfl, hb4⟩
      have B4 := Lib.hid hb4
      clear hb4
      go_wp2_with fail
      go_ret
      exact madeB_mk rfl B4.out
set_option maxHeartbeats 4000000 in
theorem walk_ok (n m : Nat) (w : World) (hn : n ≤ 9000) (hm : m ≤ 9000) : Calls Try.prog 4 #[.int .i64 n, .int .i64 m] w (MadeB true w) := by
  go_enter Try.func4, Try.ntmps4
  go_wp2_with fail
  refine (new_any n m _ (by omega) (by omega)).mono ?_
  rintro e w0 ⟨g, gw, gh, rfl, h0, hg, hgw, hgh, hb0⟩
  have B0 := Lib.hid hb0
  clear hb0 h0
  simp only [vNew]
  go_wp2_with fail
  refine (store_nil 0 1 0 _).mono ?_
  rintro e w3 ⟨rfl, rfl⟩
  go_wp2_with fail
  refine (told_any _).mono ?_
  rintro e w4 ⟨rfl, hb4⟩
  have B4 := Lib.hid (below_step B0.out hb4)
  clear hb4
  go_wp2_with fail
  refine (time_nil 0 0 0 _).mono ?_
  rintro e w5 ⟨rfl, rfl⟩
  go_wp2_with fail
  refine (load_nil 0 0 0 _).mono ?_
  rintro e w5 ⟨rfl, rfl⟩
  go_wp2_with fail
  refine (swap_nil 0 0 1 _).mono ?_
  rintro e w5 ⟨rfl, rfl⟩
  go_wp2_with fail
  refine (take_nil 0 0 0 _).mono ?_
  rintro e w5 ⟨rfl, rfl⟩
  go_wp2_with fail
  refine (free_nil 0 0 0 _).mono ?_
  rintro e w5 ⟨rfl, rfl⟩
  go_wp2_with fail
  refine (peek_nil 0 0 0 _).mono ?_
  rintro e w5 ⟨rfl, rfl⟩
  go_wp2_with fail
  refine (holder_nil 0 0 0 _).mono ?_
  rintro e w5 ⟨rfl, rfl⟩
  go_wp2_with fail
  go_ret
  exact madeB_mk rfl B4.out

set_option maxHeartbeats 4000000 in
theorem bad1 (a b : Int) (w : World) (h1 : a < 0) (h2 : b ≤ 9000) : Calls Try.prog 4 #[.int .i64 a, .int .i64 b] w (MadeB true w) := by
  have hf : fitF a = false ∨ fitF b = false := by
    first
      | exact .inl (fit_f (by omega))
      | exact .inr (fit_f (by omega))
  have HF := Lib.hid hf
  have B0 : Hid (Below w.heap.size w w) := Below.refl _ _
  clear hf
  go_enter Try.func4, Try.ntmps4
  go_wp2_with fail
  refine (new_bad a b _ HF.out).mono ?_
  rintro e w0 ⟨rfl, rfl⟩
  go_wp2_with fail
  refine (store_nil 0 1 0 _).mono ?_
  rintro e w3 ⟨rfl, rfl⟩
  go_wp2_with fail
  refine (told_any _).mono ?_
  rintro e w4 ⟨rfl, hb4⟩
  have B4 := Lib.hid (below_step B0.out hb4)
  clear hb4
  go_wp2_with fail
  refine (time_nil 0 0 0 _).mono ?_
  rintro e w5 ⟨rfl, rfl⟩
  go_wp2_with fail
  refine (load_nil 0 0 0 _).mono ?_
  rintro e w5 ⟨rfl, rfl⟩
  go_wp2_with fail
  refine (swap_nil 0 0 1 _).mono ?_
  rintro e w5 ⟨rfl, rfl⟩
  go_wp2_with fail
  refine (take_nil 0 0 0 _).mono ?_
  rintro e w5 ⟨rfl, rfl⟩
  go_wp2_with fail
  refine (free_nil 0 0 0 _).mono ?_
  rintro e w5 ⟨rfl, rfl⟩
  go_wp2_with fail
  refine (peek_nil 0 0 0 _).mono ?_
  rintro e w5 ⟨rfl, rfl⟩
  go_wp2_with fail
  refine (holder_nil 0 0 0 _).mono ?_
  rintro e w5 ⟨rfl, rfl⟩
  go_wp2_with fail
  go_ret
  exact madeB_mk rfl B4.out

set_option maxHeartbeats 4000000 in
theorem bad2 (a b : Int) (w : World) (h1 : a < 0) (h2 : 65536 < b) : Calls Try.prog 4 #[.int .i64 a, .int .i64 b] w (MadeB true w) := by
  have hf : fitF a = false ∨ fitF b = false := by
    first
      | exact .inl (fit_f (by omega))
      | exact .inr (fit_f (by omega))
  have HF := Lib.hid hf
  have B0 : Hid (Below w.heap.size w w) := Below.refl _ _
  clear hf
  go_enter Try.func4, Try.ntmps4
  go_wp2_with fail
  refine (new_bad a b _ HF.out).mono ?_
  rintro e w0 ⟨rfl, rfl⟩
  go_wp2_with fail
  refine (store_nil 0 1 0 _).mono ?_
  rintro e w3 ⟨rfl, rfl⟩
  go_wp2_with fail
  refine (told_any _).mono ?_
  rintro e w4 ⟨rfl, hb4⟩
  have B4 := Lib.hid (below_step B0.out hb4)
  clear hb4
  go_wp2_with fail
  refine (time_nil 0 0 0 _).mono ?_
  rintro e w5 ⟨rfl, rfl⟩
  go_wp2_with fail
  refine (load_nil 0 0 0 _).mono ?_
  rintro e w5 ⟨rfl, rfl⟩
  go_wp2_with fail
  refine (swap_nil 0 0 1 _).mono ?_
  rintro e w5 ⟨rfl, rfl⟩
  go_wp2_with fail
  refine (take_nil 0 0 0 _).mono ?_
  rintro e w5 ⟨rfl, rfl⟩
  go_wp2_with fail
  refine (free_nil 0 0 0 _).mono ?_
  rintro e w5 ⟨rfl, rfl⟩
  go_wp2_with fail
  refine (peek_nil 0 0 0 _).mono ?_
  rintro e w5 ⟨rfl, rfl⟩
  go_wp2_with fail
  refine (holder_nil 0 0 0 _).mono ?_
  rintro e w5 ⟨rfl, rfl⟩
  go_wp2_with fail
  go_ret
  exact madeB_mk rfl B4.out

set_option maxHeartbeats 4000000 in
theorem bad3 (a b : Int) (w : World) (h1 : 65536 < a) (h2 : b ≤ 9000) (h3 : 0 ≤ b) : Calls Try.prog 4 #[.int .i64 a, .int .i64 b] w (MadeB true w) := by
  have hf : fitF a = false ∨ fitF b = false := by
    first
      | exact .inl (fit_f (by omega))
      | exact .inr (fit_f (by omega))
  have HF := Lib.hid hf
  have B0 : Hid (Below w.heap.size w w) := Below.refl _ _
  clear hf
  go_enter Try.func4, Try.ntmps4
  go_wp2_with fail
  refine (new_bad a b _ HF.out).mono ?_
  rintro e w0 ⟨rfl, rfl⟩
  go_wp2_with fail
  refine (store_nil 0 1 0 _).mono ?_
  rintro e w3 ⟨rfl, rfl⟩
  go_wp2_with fail
  refine (told_any _).mono ?_
  rintro e w4 ⟨rfl, hb4⟩
  have B4 := Lib.hid (below_step B0.out hb4)
  clear hb4
  go_wp2_with fail
  refine (time_nil 0 0 0 _).mono ?_
  rintro e w5 ⟨rfl, rfl⟩
  go_wp2_with fail
  refine (load_nil 0 0 0 _).mono ?_
  rintro e w5 ⟨rfl, rfl⟩
  go_wp2_with fail
  refine (swap_nil 0 0 1 _).mono ?_
  rintro e w5 ⟨rfl, rfl⟩
  go_wp2_with fail
  refine (take_nil 0 0 0 _).mono ?_
  rintro e w5 ⟨rfl, rfl⟩
  go_wp2_with fail
  refine (free_nil 0 0 0 _).mono ?_
  rintro e w5 ⟨rfl, rfl⟩
  go_wp2_with fail
  refine (peek_nil 0 0 0 _).mono ?_
  rintro e w5 ⟨rfl, rfl⟩
  go_wp2_with fail
  refine (holder_nil 0 0 0 _).mono ?_
  rintro e w5 ⟨rfl, rfl⟩
  go_wp2_with fail
  go_ret
  exact madeB_mk rfl B4.out

set_option maxHeartbeats 4000000 in
theorem bad4 (a b : Int) (w : World) (h1 : 65536 < a) (h2 : 65536 < b) : Calls Try.prog 4 #[.int .i64 a, .int .i64 b] w (MadeB true w) := by
  have hf : fitF a = false ∨ fitF b = false := by
    first
      | exact .inl (fit_f (by omega))
      | exact .inr (fit_f (by omega))
  have HF := Lib.hid hf
  have B0 : Hid (Below w.heap.size w w) := Below.refl _ _
  clear hf
  go_enter Try.func4, Try.ntmps4
  go_wp2_with fail
  refine (new_bad a b _ HF.out).mono ?_
  rintro e w0 ⟨rfl, rfl⟩
  go_wp2_with fail
  refine (store_nil 0 1 0 _).mono ?_
  rintro e w3 ⟨rfl, rfl⟩
  go_wp2_with fail
  refine (told_any _).mono ?_
  rintro e w4 ⟨rfl, hb4⟩
  have B4 := Lib.hid (below_step B0.out hb4)
  clear hb4
  go_wp2_with fail
  refine (time_nil 0 0 0 _).mono ?_
  rintro e w5 ⟨rfl, rfl⟩
  go_wp2_with fail
  refine (load_nil 0 0 0 _).mono ?_
  rintro e w5 ⟨rfl, rfl⟩
  go_wp2_with fail
  refine (swap_nil 0 0 1 _).mono ?_
  rintro e w5 ⟨rfl, rfl⟩
  go_wp2_with fail
  refine (take_nil 0 0 0 _).mono ?_
  rintro e w5 ⟨rfl, rfl⟩
  go_wp2_with fail
  refine (free_nil 0 0 0 _).mono ?_
  rintro e w5 ⟨rfl, rfl⟩
  go_wp2_with fail
  refine (peek_nil 0 0 0 _).mono ?_
  rintro e w5 ⟨rfl, rfl⟩
  go_wp2_with fail
  refine (holder_nil 0 0 0 _).mono ?_
  rintro e w5 ⟨rfl, rfl⟩
  go_wp2_with fail
  go_ret
  exact madeB_mk rfl B4.out

set_option maxHeartbeats 4000000 in
theorem bad5 (a b : Int) (w : World) (h1 : 0 ≤ a) (h2 : a ≤ 9000) (h3 : b < 0) : Calls Try.prog 4 #[.int .i64 a, .int .i64 b] w (MadeB true w) := by
  have hf : fitF a = false ∨ fitF b = false := by
    first
      | exact .inl (fit_f (by omega))
      | exact .inr (fit_f (by omega))
  have HF := Lib.hid hf
  have B0 : Hid (Below w.heap.size w w) := Below.refl _ _
  clear hf
  go_enter Try.func4, Try.ntmps4
  go_wp2_with fail
  refine (new_bad a b _ HF.out).mono ?_
  rintro e w0 ⟨rfl, rfl⟩
  go_wp2_with fail
  refine (store_nil 0 1 0 _).mono ?_
  rintro e w3 ⟨rfl, rfl⟩
  go_wp2_with fail
  refine (told_any _).mono ?_
  rintro e w4 ⟨rfl, hb4⟩
  have B4 := Lib.hid (below_step B0.out hb4)
  clear hb4
  go_wp2_with fail
  refine (time_nil 0 0 0 _).mono ?_
  rintro e w5 ⟨rfl, rfl⟩
  go_wp2_with fail
  refine (load_nil 0 0 0 _).mono ?_
  rintro e w5 ⟨rfl, rfl⟩
  go_wp2_with fail
  refine (swap_nil 0 0 1 _).mono ?_
  rintro e w5 ⟨rfl, rfl⟩
  go_wp2_with fail
  refine (take_nil 0 0 0 _).mono ?_
  rintro e w5 ⟨rfl, rfl⟩
  go_wp2_with fail
  refine (free_nil 0 0 0 _).mono ?_
  rintro e w5 ⟨rfl, rfl⟩
  go_wp2_with fail
  refine (peek_nil 0 0 0 _).mono ?_
  rintro e w5 ⟨rfl, rfl⟩
  go_wp2_with fail
  refine (holder_nil 0 0 0 _).mono ?_
  rintro e w5 ⟨rfl, rfl⟩
  go_wp2_with fail
  go_ret
  exact madeB_mk rfl B4.out

set_option maxHeartbeats 4000000 in
theorem bad6 (a b : Int) (w : World) (h1 : 0 ≤ a) (h2 : a ≤ 9000) (h3 : 65536 < b) : Calls Try.prog 4 #[.int .i64 a, .int .i64 b] w (MadeB true w) := by
  have hf : fitF a = false ∨ fitF b = false := by
    first
      | exact .inl (fit_f (by omega))
      | exact .inr (fit_f (by omega))
  have HF := Lib.hid hf
  have t1 : decide (b ≤ 65536) = false := by simp; omega
  have B0 : Hid (Below w.heap.size w w) := Below.refl _ _
  clear hf
  go_enter Try.func4, Try.ntmps4
  go_wp2_with fail
  refine (new_bad a b _ HF.out).mono ?_
  rintro e w0 ⟨rfl, rfl⟩
  go_wp2_with fail
  refine (store_nil 0 1 0 _).mono ?_
  rintro e w3 ⟨rfl, rfl⟩
  go_wp2_with fail
  refine (told_any _).mono ?_
  rintro e w4 ⟨rfl, hb4⟩
  have B4 := Lib.hid (below_step B0.out hb4)
  clear hb4
  go_wp2_with fail
  refine (time_nil 0 0 0 _).mono ?_
  rintro e w5 ⟨rfl, rfl⟩
  go_wp2_with fail
  refine (load_nil 0 0 0 _).mono ?_
  rintro e w5 ⟨rfl, rfl⟩
  go_wp2_with fail
  refine (swap_nil 0 0 1 _).mono ?_
  rintro e w5 ⟨rfl, rfl⟩
  go_wp2_with fail
  refine (take_nil 0 0 0 _).mono ?_
  rintro e w5 ⟨rfl, rfl⟩
  go_wp2_with fail
  refine (free_nil 0 0 0 _).mono ?_
  rintro e w5 ⟨rfl, rfl⟩
  go_wp2_with fail
  refine (peek_nil 0 0 0 _).mono ?_
  rintro e w5 ⟨rfl, rfl⟩
  go_wp2_with fail
  refine (holder_nil 0 0 0 _).mono ?_
  rintro e w5 ⟨rfl, rfl⟩
  go_wp2_with fail
  go_ret
  exact madeB_mk rfl B4.out

set_option maxHeartbeats 4000000 in
theorem bad7 (a b : Int) (w : World) (h1 : 65536 < a) (h2 : b < 0) : Calls Try.prog 4 #[.int .i64 a, .int .i64 b] w (MadeB true w) := by
  have hf : fitF a = false ∨ fitF b = false := by
    first
      | exact .inl (fit_f (by omega))
      | exact .inr (fit_f (by omega))
  have HF := Lib.hid hf
  have B0 : Hid (Below w.heap.size w w) := Below.refl _ _
  clear hf
  go_enter Try.func4, Try.ntmps4
  go_wp2_with fail
  refine (new_bad a b _ HF.out).mono ?_
  rintro e w0 ⟨rfl, rfl⟩
  go_wp2_with fail
  refine (store_nil 0 1 0 _).mono ?_
  rintro e w3 ⟨rfl, rfl⟩
  go_wp2_with fail
  refine (told_any _).mono ?_
  rintro e w4 ⟨rfl, hb4⟩
  have B4 := Lib.hid (below_step B0.out hb4)
  clear hb4
  go_wp2_with fail
  refine (time_nil 0 0 0 _).mono ?_
  rintro e w5 ⟨rfl, rfl⟩
  go_wp2_with fail
  refine (load_nil 0 0 0 _).mono ?_
  rintro e w5 ⟨rfl, rfl⟩
  go_wp2_with fail
  refine (swap_nil 0 0 1 _).mono ?_
  rintro e w5 ⟨rfl, rfl⟩
  go_wp2_with fail
  refine (take_nil 0 0 0 _).mono ?_
  rintro e w5 ⟨rfl, rfl⟩
  go_wp2_with fail
  refine (free_nil 0 0 0 _).mono ?_
  rintro e w5 ⟨rfl, rfl⟩
  go_wp2_with fail
  refine (peek_nil 0 0 0 _).mono ?_
  rintro e w5 ⟨rfl, rfl⟩
  go_wp2_with fail
  refine (holder_nil 0 0 0 _).mono ?_
  rintro e w5 ⟨rfl, rfl⟩
  go_wp2_with fail
  go_ret
  exact madeB_mk rfl B4.out

theorem walk (a b : Int) (w : World) : Calls Try.prog 4 #[.int .i64 a, .int .i64 b] w (MadeB true w) := by
  by_cases h : (9000 < a ∧ a ≤ 65536) ∨ (9000 < b ∧ b ≤ 65536)
  · exact walk_big a b w h
  · by_cases a0 : a < 0
    · by_cases b0 : b ≤ 9000
      · exact bad1 a b w a0 b0
      · exact bad2 a b w a0 (by omega)
    · by_cases a1 : 65536 < a
      · by_cases b0 : b < 0
        · exact bad7 a b w a1 b0
        · by_cases b1 : b ≤ 9000
          · exact bad3 a b w a1 b1 (by omega)
          · exact bad4 a b w a1 (by omega)
      · by_cases b0 : b < 0
        · exact bad5 a b w (by omega) (by omega) b0
        · by_cases b1 : b ≤ 9000
          · obtain ⟨n, rfl⟩ : ∃ n : Nat, a = n := ⟨a.toNat, by omega⟩
            obtain ⟨m, rfl⟩ : ∃ m : Nat, b = m := ⟨b.toNat, by omega⟩
            exact walk_ok n m w (by omega) (by omega)
          · exact bad6 a b w (by omega) (by omega) (by omega)

set_option maxRecDepth 100000 in
theorem lifted (os : Os) (started : os.Started) (H : Type) (enc : TypeId × Value → H) :
    ReturnsInHanded {} Try.checked os 4 .any (Rows.cellsNewsSpec.pre6 enc Try.prog Try.f4 Rows.cellsNewsRow.domain false) (Rows.cellsNewsSpec.post enc Try.prog Try.f4 false true false false) := by
  refine returnsInHanded_of_change (C := Try.checked) own started (by kernel_rfl) Try.func4
    (ChangeSpec.witness6 (enc := enc) (C := Try.checked) false ⟨#[], #[.int .i64 0, .int .i64 0], []⟩ 8 (by kernel_rfl) (by kernel_rfl) (by kernel_rfl) (by kernel_rfl)) ?_
  intro W base args ds gs before hval0 hW hcnd _
  have hval : ∀ (j : Nat) t v, Try.f4.params[j]? = some t → args[j]? = some v → Value.okWide Try.prog W .any base t v := hval0
  have hW' := hW
  obtain ⟨p, q, hA0, hV, rfl, hfz, hnd⟩ := hW
  have hA : DataW.TrodAll enc Try.prog W 0 (fun _ => true) true Try.f4.params.toList args.toList ds p := hA0
  rw [Try.params4] at hA hval
  obtain ⟨v0, vs0, d0, ds0, p0, q0, hargs, rfl, rfl, h0, r0⟩ := trodAll_cons hA
  obtain ⟨v1, vs1, d1, ds1, p1, q1, rfl, rfl, rfl, h1, r1⟩ := trodAll_cons r0
  obtain ⟨rfl, rfl, rfl⟩ := trodAll_nil r1
  obtain rfl : args = #[v0, v1] := by cases args; simp_all
  obtain ⟨a0, rfl, rfl, rfl, w0⟩ := open_int Try.underlying3 (hval 0 3 v0 rfl rfl) h0
  obtain ⟨a1, rfl, rfl, rfl, w1⟩ := open_int Try.underlying3 (hval 1 3 v1 rfl rfl) h1
  refine (walk a0 a1 W).mono fun e W' ⟨he, hb⟩ => ?_
  subst he
  exact ⟨_, rfl, law_post hW' rfl rfl rfl rfl (by kernel_rfl) Try.underlying4 (by rw [Try.params4]; simp only [List.mem_cons, List.not_mem_nil, or_false, forall_eq_or_imp, forall_eq]; exact ⟨⟨by kernel_rfl, of_decide_eq_true (by kernel_rfl)⟩, ⟨by kernel_rfl, of_decide_eq_true (by kernel_rfl)⟩⟩) laidOut hb⟩

theorem over : Rows.cellsNewsRow.holds Try.pinned (OpenSpec.ofChange Rows.cellsNewsSpec) :=
  OpenClaim.holds_of_wide 4 Try.f4 rfl rfl rfl rfl rfl rfl rfl ⟨rfl, rfl, rfl, rfl, rfl⟩ rfl rfl rfl rfl rfl (by kernel_rfl) Try.func4 (by kernel_rfl)
    (of_decide_eq_true (by kernel_rfl)) (by unfold Func.isWrapper; first | (rw [if_pos (by decide +kernel)]; kernel_rfl) | (rw [if_neg (by decide +kernel)]; exact ⟨rfl, rfl⟩))
    (fun os started H enc _ => lifted os started H enc)

theorem proved : Rows.CellsNewsSaid := over
#print axioms proved
end Go.Proofs.Ytbpfeokheebmdaa.cellsNews
