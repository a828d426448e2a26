/- Texts side by side. -/
import Derived.Test.YtmjkhejfhpgiiaaDoorSrqb
import Derived.Test.YtmjkhejfhpgiiaaDoorSrqf
set_option linter.unusedVariables false
set_option linter.unusedSimpArgs false
set_option maxRecDepth 100000
set_option maxHeartbeats 16000000
namespace Go.Proofs.YtmjkhejfhpgiiaaDoor
open Kap Go.ChangeShapes Go.WideShapes Go.ChangeAt Go.RowKit Go.Lib Mem Wpl Wmr Wrt St7 Rul6 Wfi Wto Spa Spm Shw
namespace Sgu
def MadeT (l : List (List UInt8)) (w : World) (e : Ending) (w' : World) : Prop := ∃ A c, e = .returned (.slice A l.length c) ∧ Txs w' w'.heap.size A l ∧ Below w.heap.size w w'
theorem splitN_any (s : List UInt8) (w : World) (hL : Hid (Lw w)) (hs : s.length ≤ 400) : Calls Tryd.prog 34 #[sv s, .string ⟨#[32]⟩, .int .i64 8] w (MadeT (splP s) w) := by
  obtain ⟨m, hm⟩ := hL.out.m
  have hz : (⟨s.toArray⟩ : ByteArray).size = s.length := rfl
  refine (Tryd.strings_SplitN ⟨s.toArray⟩ ⟨#[32]⟩ 8 m w (by omega) hm (by decide) (by omega) (by omega)).mono ?_
  rintro e w' ⟨rfl, rfl⟩
  have hd := splitB_data ⟨#[32]⟩ 0 (min 8 (s.length + 1) - 1) ⟨s.toArray⟩
  have hd : (splitB ⟨#[32]⟩ 0 (min 8 ((⟨s.toArray⟩ : ByteArray).size + 1) - 1) ⟨s.toArray⟩).map (·.data.toList) = splP s := hd
  generalize splitB ⟨#[32]⟩ 0 (min 8 ((⟨s.toArray⟩ : ByteArray).size + 1) - 1) ⟨s.toArray⟩ = ps at hd ⊢
  have hl : ps.length = (splP s).length := by rw [← hd, List.length_map]
  rw [hl]
  refine ⟨_, _, rfl, .inr ⟨_, _, rfl, by simp, ?_⟩, (Below.refl _ _).alloc (Nat.le_refl _) _⟩
  intro i v hv
  unfold stx at hv
  rw [← hd, List.map_map, List.getElem?_map] at hv
  rw [World.cell?_alloc_at _ _ _ _ rfl, Nat.zero_add]
  unfold cellsOf
  cases hp : ps[i]? with
  | none => rw [hp] at hv; cases hv
  | some x =>
    rw [hp] at hv
    injection hv with hv
    have hi : i < ps.length := (List.getElem?_eq_some_iff.1 hp).1
    rw [List.getElem?_toArray, List.getElem?_append_left (by simpa using hi), List.getElem?_map, hp, ← hv]
    rfl
theorem splP_len (s : List UInt8) : 1 ≤ (splP s).length ∧ (splP s).length ≤ 8 := by
  have h2 : ∀ (k : Nat) (s : List UInt8), 1 ≤ (splitK [32] 0 k s).length ∧ (splitK [32] 0 k s).length ≤ k + 1 := by
    intro k
    induction k with
    | zero => intro s; simp [splitK]
    | succ k ih =>
      intro s
      unfold splitK
      split
      · simp
      · have := ih (s.drop ((index s [32]).toNat + [(32 : UInt8)].length))
        simp only [List.length_cons] at this ⊢
        omega
  have := h2 (min 8 (s.length + 1) - 1) s
  unfold splP
  omega
theorem splP_each (s : List UInt8) (k : Nat) : (at0 (splP s) k).length ≤ s.length := by
  have h2 : ∀ (k : Nat) (s : List UInt8), ∀ x ∈ splitK [32] 0 k s, x.length ≤ s.length := by
    intro k
    induction k with
    | zero => intro s x hx; simp [splitK] at hx; subst hx; exact Nat.le_refl _
    | succ k ih =>
      intro s x hx
      unfold splitK at hx
      split at hx
      · simp at hx; subst hx; exact Nat.le_refl _
      · rcases List.mem_cons.1 hx with rfl | hx
        · rw [List.length_take]; omega
        · have := ih _ x hx
          rw [List.length_drop] at this
          omega
  unfold at0
  rw [List.getD_eq_getElem?_getD]
  cases h : (splP s)[k]? with
  | none => simp
  | some x => exact h2 _ _ x (List.mem_of_getElem? h)
theorem beq_dec (a b : List UInt8) : (a == b) = decide (a = b) := by
  by_cases h : a = b
  · rw [decide_eq_true h]; exact beq_iff_eq.2 h
  · rw [decide_eq_false h]; exact beq_eq_false_iff_ne.2 h
theorem beq_t {a b : List UInt8} (h : a = b) : (a == b) = true := beq_iff_eq.2 h
theorem beq_f {a b : List UInt8} (h : ¬ a = b) : (a == b) = false := beq_eq_false_iff_ne.2 h
theorem guess_any (s : List UInt8) (w : World) (hL : Hid (Lw w)) (hs : s.length ≤ 400) : Calls Tryd.prog 23 #[sv s] w (MadeM (guessP s) w) := by
  have b0 := κ (β w (.cells #[.int .i64 0, .int .i64 0, .int .i64 0, .bool false, .int .i64 0, .int .i64 0, .int .i64 0, .int .i64 0, .int .i64 0, .int .i64 0, .int .i64 0, .int .i64 0] 54))
  have z0 := κ (δ w 54 #[.int .i64 0, .int .i64 0, .int .i64 0, .bool false, .int .i64 0, .int .i64 0, .int .i64 0, .int .i64 0, .int .i64 0, .int .i64 0, .int .i64 0, .int .i64 0] w.heap.size rfl)
  have L0 := lwb hL b0.out
  go_enter Tryd.func23, Tryd.ntmps23
  go_wp2_with fail
  generalize w.alloc (.cells #[.int .i64 0, .int .i64 0, .int .i64 0, .bool false, .int .i64 0, .int .i64 0, .int .i64 0, .int .i64 0, .int .i64 0, .int .i64 0, .int .i64 0, .int .i64 0] 54) = w0 at b0 z0 L0 ⊢
  have hg : Hid (w.heap.size ≤ w.heap.size) := κ (Nat.le_refl _)
  generalize hgR : w.heap.size = gR at z0 ⊢
  have hg : Hid (w.heap.size ≤ gR) := κ (by omega)
  clear hgR
  refine (splitN_any s w0 L0 hs).mono ?_
  rintro e w1 ⟨A, c, rfl, ht1, hb1⟩
  have t1 := κ ht1
  have b1 := κ (CrdB.below_step b0.out hb1)
  have z1 := κ (z0.out.below' hb1)
  have L1 := lwb L0 hb1
  clear ht1 hb1 b0 z0 L0
  obtain ⟨hn1, hn8⟩ := splP_len s
  go_wp2_with fail
  refine (word_any A c (splP s) 0 w1 t1 (by omega) (by omega)).mono ?_
  rintro e w2 ⟨rfl, rfl⟩
  by_cases n0 : at0 (splP s) 0 = wOrder
  · have q0 : (at0 (splP s) 0 == [111, 114, 100, 101, 114]) = true := beq_t n0
    have hm : Hid (guessP s = { m0 with k := 0, a := numP (at0 (splP s) 1), s := numP (at0 (splP s) 2), x := decide (at0 (splP s) 3 = wSell), p := numP (at0 (splP s) 4), q := numP (at0 (splP s) 5), n := numP (at0 (splP s) 6), t := numP (at0 (splP s) 7) }) := κ (by unfold guessP guessW;  rw [if_pos n0])
    clear n0
    go_wp2_with fail
    refine (number_any A c (splP s) 1 w1 L1 t1 (by omega) (by omega) (κ (by have := splP_each s 1; omega))).mono ?_
    rintro e w2 ⟨rfl, hb2⟩
    have t2 := κ (Rd.below' t1.out hb2 hb2.size)
    have b2 := κ (CrdB.below_step b1.out hb2)
    have z2 := κ (z1.out.below' hb2)
    have L2 := lwb L1 hb2
    clear hb2 b1 t1 L1 z1
    go_wp2_with fail
    refine (number_any A c (splP s) 2 w2 L2 t2 (by omega) (by omega) (κ (by have := splP_each s 2; omega))).mono ?_
    rintro e w3 ⟨rfl, hb3⟩
    have t3 := κ (Rd.below' t2.out hb3 hb3.size)
    have b3 := κ (CrdB.below_step b2.out hb3)
    have z3 := κ (z2.out.below' hb3)
    have L3 := lwb L2 hb3
    clear hb3 b2 t2 L2 z2
    go_wp2_with fail
    refine (word_any A c (splP s) 3 w3 t3 (by omega) (by omega)).mono ?_
    rintro e w2 ⟨rfl, rfl⟩
    have q8 : (at0 (splP s) 3 == [115, 101, 108, 108]) = decide (at0 (splP s) 3 = wSell) := beq_dec _ _
    go_wp2_with fail
    refine (number_any A c (splP s) 4 w3 L3 t3 (by omega) (by omega) (κ (by have := splP_each s 4; omega))).mono ?_
    rintro e w4 ⟨rfl, hb4⟩
    have t4 := κ (Rd.below' t3.out hb4 hb4.size)
    have b4 := κ (CrdB.below_step b3.out hb4)
    have z4 := κ (z3.out.below' hb4)
    have L4 := lwb L3 hb4
    clear hb4 b3 t3 L3 z3
    go_wp2_with fail
    refine (number_any A c (splP s) 5 w4 L4 t4 (by omega) (by omega) (κ (by have := splP_each s 5; omega))).mono ?_
    rintro e w5 ⟨rfl, hb5⟩
    have t5 := κ (Rd.below' t4.out hb5 hb5.size)
    have b5 := κ (CrdB.below_step b4.out hb5)
    have z5 := κ (z4.out.below' hb5)
    have L5 := lwb L4 hb5
    clear hb5 b4 t4 L4 z4
    go_wp2_with fail
    refine (number_any A c (splP s) 6 w5 L5 t5 (by omega) (by omega) (κ (by have := splP_each s 6; omega))).mono ?_
    rintro e w6 ⟨rfl, hb6⟩
    have t6 := κ (Rd.below' t5.out hb6 hb6.size)
    have b6 := κ (CrdB.below_step b5.out hb6)
    have z6 := κ (z5.out.below' hb6)
    have L6 := lwb L5 hb6
    clear hb6 b5 t5 L5 z5
    go_wp2_with fail
    refine (number_any A c (splP s) 7 w6 L6 t6 (by omega) (by omega) (κ (by have := splP_each s 7; omega))).mono ?_
    rintro e w7 ⟨rfl, hb7⟩
    have t7 := κ (Rd.below' t6.out hb7 hb7.size)
    have b7 := κ (CrdB.below_step b6.out hb7)
    have z7 := κ (z6.out.below' hb7)
    have L7 := lwb L6 hb7
    clear hb7 b6 t6 L6 z6
    obtain ⟨s0, s1, s2, s3, s4, s5, s6, s7, s8, s9, s10, s11, y0, y1, y2, y3, y4, y5, y6, y7, y8, y9, y10, y11⟩ := z12_of z7.out
    go_wp2_with fail
    have f3 : Blk (st12 w7 gR (.int .i64 0) (.int .i64 (numP (at0 (splP s) 1))) (.int .i64 (numP (at0 (splP s) 2))) (.bool (decide (at0 (splP s) 3 = wSell))) (.int .i64 (numP (at0 (splP s) 4))) (.int .i64 (numP (at0 (splP s) 5))) (.int .i64 (numP (at0 (splP s) 6))) (.int .i64 (numP (at0 (splP s) 7))) (.int .i64 0) (.int .i64 0) (.int .i64 0) (.int .i64 0)) gR 54 #[.int .i64 0, .int .i64 (numP (at0 (splP s) 1)), .int .i64 (numP (at0 (splP s) 2)), .bool (decide (at0 (splP s) 3 = wSell)), .int .i64 (numP (at0 (splP s) 4)), .int .i64 (numP (at0 (splP s) 5)), .int .i64 (numP (at0 (splP s) 6)), .int .i64 (numP (at0 (splP s) 7)), .int .i64 0, .int .i64 0, .int .i64 0, .int .i64 0] := st12_blk z7.out
    have hb : Below w.heap.size w (st12 w7 gR (.int .i64 0) (.int .i64 (numP (at0 (splP s) 1))) (.int .i64 (numP (at0 (splP s) 2))) (.bool (decide (at0 (splP s) 3 = wSell))) (.int .i64 (numP (at0 (splP s) 4))) (.int .i64 (numP (at0 (splP s) 5))) (.int .i64 (numP (at0 (splP s) 6))) (.int .i64 (numP (at0 (splP s) 7))) (.int .i64 0) (.int .i64 0) (.int .i64 0) (.int .i64 0)) := st12_below b7.out hg.out
    obtain ⟨d0, d1, d2, d3, d4, d5, d6, d7, d8, d9, d10, d11⟩ := c12_of f3
    unfold st12 at d0 d1 d2 d3 d4 d5 d6 d7 d8 d9 d10 d11 hb
    rw [hm.out]
    exact bodyPost_ret (v := .agg #[.int .i64 0, .int .i64 (numP (at0 (splP s) 1)), .int .i64 (numP (at0 (splP s) 2)), .bool (decide (at0 (splP s) 3 = wSell)), .int .i64 (numP (at0 (splP s) 4)), .int .i64 (numP (at0 (splP s) 5)), .int .i64 (numP (at0 (splP s) 6)), .int .i64 (numP (at0 (splP s) 7)), .int .i64 0, .int .i64 0, .int .i64 0, .int .i64 0]) (by simp [results, Tryd.results23, go_sem, d0, d1, d2, d3, d4, d5, d6, d7, d8, d9, d10, d11]) rfl ⟨rfl, hb⟩
  by_cases n1 : at0 (splP s) 0 = wCancel
  · have q0 : (at0 (splP s) 0 == [111, 114, 100, 101, 114]) = false := beq_f n0
    have q1 : (at0 (splP s) 0 == [99, 97, 110, 99, 101, 108]) = true := beq_t n1
    have hm : Hid (guessP s = { m0 with k := 1, i := numP (at0 (splP s) 1) }) := κ (by unfold guessP guessW; rw [if_neg n0]; rw [if_pos n1])
    clear n0 n1
    go_wp2_with fail
    refine (number_any A c (splP s) 1 w1 L1 t1 (by omega) (by omega) (κ (by have := splP_each s 1; omega))).mono ?_
    rintro e w2 ⟨rfl, hb2⟩
    have t2 := κ (Rd.below' t1.out hb2 hb2.size)
    have b2 := κ (CrdB.below_step b1.out hb2)
    have z2 := κ (z1.out.below' hb2)
    have L2 := lwb L1 hb2
    clear hb2 b1 t1 L1 z1
    obtain ⟨s0, s1, s2, s3, s4, s5, s6, s7, s8, s9, s10, s11, y0, y1, y2, y3, y4, y5, y6, y7, y8, y9, y10, y11⟩ := z12_of z2.out
    go_wp2_with fail
    have f3 : Blk (st12 w2 gR (.int .i64 1) (.int .i64 0) (.int .i64 0) (.bool false) (.int .i64 0) (.int .i64 0) (.int .i64 0) (.int .i64 0) (.int .i64 (numP (at0 (splP s) 1))) (.int .i64 0) (.int .i64 0) (.int .i64 0)) gR 54 #[.int .i64 1, .int .i64 0, .int .i64 0, .bool false, .int .i64 0, .int .i64 0, .int .i64 0, .int .i64 0, .int .i64 (numP (at0 (splP s) 1)), .int .i64 0, .int .i64 0, .int .i64 0] := st12_blk z2.out
    have hb : Below w.heap.size w (st12 w2 gR (.int .i64 1) (.int .i64 0) (.int .i64 0) (.bool false) (.int .i64 0) (.int .i64 0) (.int .i64 0) (.int .i64 0) (.int .i64 (numP (at0 (splP s) 1))) (.int .i64 0) (.int .i64 0) (.int .i64 0)) := st12_below b2.out hg.out
    obtain ⟨d0, d1, d2, d3, d4, d5, d6, d7, d8, d9, d10, d11⟩ := c12_of f3
    unfold st12 at d0 d1 d2 d3 d4 d5 d6 d7 d8 d9 d10 d11 hb
    rw [hm.out]
    exact bodyPost_ret (v := .agg #[.int .i64 1, .int .i64 0, .int .i64 0, .bool false, .int .i64 0, .int .i64 0, .int .i64 0, .int .i64 0, .int .i64 (numP (at0 (splP s) 1)), .int .i64 0, .int .i64 0, .int .i64 0]) (by simp [results, Tryd.results23, go_sem, d0, d1, d2, d3, d4, d5, d6, d7, d8, d9, d10, d11]) rfl ⟨rfl, hb⟩
  by_cases n2 : at0 (splP s) 0 = wFill
  · have q0 : (at0 (splP s) 0 == [111, 114, 100, 101, 114]) = false := beq_f n0
    have q1 : (at0 (splP s) 0 == [99, 97, 110, 99, 101, 108]) = false := beq_f n1
    have q2 : (at0 (splP s) 0 == [102, 105, 108, 108]) = true := beq_t n2
    have hm : Hid (guessP s = { m0 with k := 2, i := numP (at0 (splP s) 1), y := numP (at0 (splP s) 2) }) := κ (by unfold guessP guessW; rw [if_neg n0]; rw [if_neg n1]; rw [if_pos n2])
    clear n0 n1 n2
    go_wp2_with fail
    refine (number_any A c (splP s) 1 w1 L1 t1 (by omega) (by omega) (κ (by have := splP_each s 1; omega))).mono ?_
    rintro e w2 ⟨rfl, hb2⟩
    have t2 := κ (Rd.below' t1.out hb2 hb2.size)
    have b2 := κ (CrdB.below_step b1.out hb2)
    have z2 := κ (z1.out.below' hb2)
    have L2 := lwb L1 hb2
    clear hb2 b1 t1 L1 z1
    go_wp2_with fail
    refine (number_any A c (splP s) 2 w2 L2 t2 (by omega) (by omega) (κ (by have := splP_each s 2; omega))).mono ?_
    rintro e w3 ⟨rfl, hb3⟩
    have t3 := κ (Rd.below' t2.out hb3 hb3.size)
    have b3 := κ (CrdB.below_step b2.out hb3)
    have z3 := κ (z2.out.below' hb3)
    have L3 := lwb L2 hb3
    clear hb3 b2 t2 L2 z2
    obtain ⟨s0, s1, s2, s3, s4, s5, s6, s7, s8, s9, s10, s11, y0, y1, y2, y3, y4, y5, y6, y7, y8, y9, y10, y11⟩ := z12_of z3.out
    go_wp2_with fail
    have f3 : Blk (st12 w3 gR (.int .i64 2) (.int .i64 0) (.int .i64 0) (.bool false) (.int .i64 0) (.int .i64 0) (.int .i64 0) (.int .i64 0) (.int .i64 (numP (at0 (splP s) 1))) (.int .i64 (numP (at0 (splP s) 2))) (.int .i64 0) (.int .i64 0)) gR 54 #[.int .i64 2, .int .i64 0, .int .i64 0, .bool false, .int .i64 0, .int .i64 0, .int .i64 0, .int .i64 0, .int .i64 (numP (at0 (splP s) 1)), .int .i64 (numP (at0 (splP s) 2)), .int .i64 0, .int .i64 0] := st12_blk z3.out
    have hb : Below w.heap.size w (st12 w3 gR (.int .i64 2) (.int .i64 0) (.int .i64 0) (.bool false) (.int .i64 0) (.int .i64 0) (.int .i64 0) (.int .i64 0) (.int .i64 (numP (at0 (splP s) 1))) (.int .i64 (numP (at0 (splP s) 2))) (.int .i64 0) (.int .i64 0)) := st12_below b3.out hg.out
    obtain ⟨d0, d1, d2, d3, d4, d5, d6, d7, d8, d9, d10, d11⟩ := c12_of f3
    unfold st12 at d0 d1 d2 d3 d4 d5 d6 d7 d8 d9 d10 d11 hb
    rw [hm.out]
    exact bodyPost_ret (v := .agg #[.int .i64 2, .int .i64 0, .int .i64 0, .bool false, .int .i64 0, .int .i64 0, .int .i64 0, .int .i64 0, .int .i64 (numP (at0 (splP s) 1)), .int .i64 (numP (at0 (splP s) 2)), .int .i64 0, .int .i64 0]) (by simp [results, Tryd.results23, go_sem, d0, d1, d2, d3, d4, d5, d6, d7, d8, d9, d10, d11]) rfl ⟨rfl, hb⟩
  by_cases n3 : at0 (splP s) 0 = wAck
  · have q0 : (at0 (splP s) 0 == [111, 114, 100, 101, 114]) = false := beq_f n0
    have q1 : (at0 (splP s) 0 == [99, 97, 110, 99, 101, 108]) = false := beq_f n1
    have q2 : (at0 (splP s) 0 == [102, 105, 108, 108]) = false := beq_f n2
    have q3 : (at0 (splP s) 0 == [97, 99, 107]) = true := beq_t n3
    have hm : Hid (guessP s = { m0 with k := 3, i := numP (at0 (splP s) 1) }) := κ (by unfold guessP guessW; rw [if_neg n0]; rw [if_neg n1]; rw [if_neg n2]; rw [if_pos n3])
    clear n0 n1 n2 n3
    go_wp2_with fail
    refine (number_any A c (splP s) 1 w1 L1 t1 (by omega) (by omega) (κ (by have := splP_each s 1; omega))).mono ?_
    rintro e w2 ⟨rfl, hb2⟩
    have t2 := κ (Rd.below' t1.out hb2 hb2.size)
    have b2 := κ (CrdB.below_step b1.out hb2)
    have z2 := κ (z1.out.below' hb2)
    have L2 := lwb L1 hb2
    clear hb2 b1 t1 L1 z1
    obtain ⟨s0, s1, s2, s3, s4, s5, s6, s7, s8, s9, s10, s11, y0, y1, y2, y3, y4, y5, y6, y7, y8, y9, y10, y11⟩ := z12_of z2.out
    go_wp2_with fail
    have f3 : Blk (st12 w2 gR (.int .i64 3) (.int .i64 0) (.int .i64 0) (.bool false) (.int .i64 0) (.int .i64 0) (.int .i64 0) (.int .i64 0) (.int .i64 (numP (at0 (splP s) 1))) (.int .i64 0) (.int .i64 0) (.int .i64 0)) gR 54 #[.int .i64 3, .int .i64 0, .int .i64 0, .bool false, .int .i64 0, .int .i64 0, .int .i64 0, .int .i64 0, .int .i64 (numP (at0 (splP s) 1)), .int .i64 0, .int .i64 0, .int .i64 0] := st12_blk z2.out
    have hb : Below w.heap.size w (st12 w2 gR (.int .i64 3) (.int .i64 0) (.int .i64 0) (.bool false) (.int .i64 0) (.int .i64 0) (.int .i64 0) (.int .i64 0) (.int .i64 (numP (at0 (splP s) 1))) (.int .i64 0) (.int .i64 0) (.int .i64 0)) := st12_below b2.out hg.out
    obtain ⟨d0, d1, d2, d3, d4, d5, d6, d7, d8, d9, d10, d11⟩ := c12_of f3
    unfold st12 at d0 d1 d2 d3 d4 d5 d6 d7 d8 d9 d10 d11 hb
    rw [hm.out]
    exact bodyPost_ret (v := .agg #[.int .i64 3, .int .i64 0, .int .i64 0, .bool false, .int .i64 0, .int .i64 0, .int .i64 0, .int .i64 0, .int .i64 (numP (at0 (splP s) 1)), .int .i64 0, .int .i64 0, .int .i64 0]) (by simp [results, Tryd.results23, go_sem, d0, d1, d2, d3, d4, d5, d6, d7, d8, d9, d10, d11]) rfl ⟨rfl, hb⟩
  by_cases n4 : at0 (splP s) 0 = wKill
  · have q0 : (at0 (splP s) 0 == [111, 114, 100, 101, 114]) = false := beq_f n0
    have q1 : (at0 (splP s) 0 == [99, 97, 110, 99, 101, 108]) = false := beq_f n1
    have q2 : (at0 (splP s) 0 == [102, 105, 108, 108]) = false := beq_f n2
    have q3 : (at0 (splP s) 0 == [97, 99, 107]) = false := beq_f n3
    have q4 : (at0 (splP s) 0 == [107, 105, 108, 108]) = true := beq_t n4
    have hm : Hid (guessP s = { m0 with k := 4 }) := κ (by unfold guessP guessW; rw [if_neg n0]; rw [if_neg n1]; rw [if_neg n2]; rw [if_neg n3]; rw [if_pos n4])
    clear n0 n1 n2 n3 n4
    obtain ⟨s0, s1, s2, s3, s4, s5, s6, s7, s8, s9, s10, s11, y0, y1, y2, y3, y4, y5, y6, y7, y8, y9, y10, y11⟩ := z12_of z1.out
    go_wp2_with fail
    have f3 : Blk (st12 w1 gR (.int .i64 4) (.int .i64 0) (.int .i64 0) (.bool false) (.int .i64 0) (.int .i64 0) (.int .i64 0) (.int .i64 0) (.int .i64 0) (.int .i64 0) (.int .i64 0) (.int .i64 0)) gR 54 #[.int .i64 4, .int .i64 0, .int .i64 0, .bool false, .int .i64 0, .int .i64 0, .int .i64 0, .int .i64 0, .int .i64 0, .int .i64 0, .int .i64 0, .int .i64 0] := st12_blk z1.out
    have hb : Below w.heap.size w (st12 w1 gR (.int .i64 4) (.int .i64 0) (.int .i64 0) (.bool false) (.int .i64 0) (.int .i64 0) (.int .i64 0) (.int .i64 0) (.int .i64 0) (.int .i64 0) (.int .i64 0) (.int .i64 0)) := st12_below b1.out hg.out
    obtain ⟨d0, d1, d2, d3, d4, d5, d6, d7, d8, d9, d10, d11⟩ := c12_of f3
    unfold st12 at d0 d1 d2 d3 d4 d5 d6 d7 d8 d9 d10 d11 hb
    rw [hm.out]
    exact bodyPost_ret (v := .agg #[.int .i64 4, .int .i64 0, .int .i64 0, .bool false, .int .i64 0, .int .i64 0, .int .i64 0, .int .i64 0, .int .i64 0, .int .i64 0, .int .i64 0, .int .i64 0]) (by simp [results, Tryd.results23, go_sem, d0, d1, d2, d3, d4, d5, d6, d7, d8, d9, d10, d11]) rfl ⟨rfl, hb⟩
  by_cases n5 : at0 (splP s) 0 = wRearm
  · have q0 : (at0 (splP s) 0 == [111, 114, 100, 101, 114]) = false := beq_f n0
    have q1 : (at0 (splP s) 0 == [99, 97, 110, 99, 101, 108]) = false := beq_f n1
    have q2 : (at0 (splP s) 0 == [102, 105, 108, 108]) = false := beq_f n2
    have q3 : (at0 (splP s) 0 == [97, 99, 107]) = false := beq_f n3
    have q4 : (at0 (splP s) 0 == [107, 105, 108, 108]) = false := beq_f n4
    have q5 : (at0 (splP s) 0 == [114, 101, 97, 114, 109]) = true := beq_t n5
    have hm : Hid (guessP s = { m0 with k := 5 }) := κ (by unfold guessP guessW; rw [if_neg n0]; rw [if_neg n1]; rw [if_neg n2]; rw [if_neg n3]; rw [if_neg n4]; rw [if_pos n5])
    clear n0 n1 n2 n3 n4 n5
    obtain ⟨s0, s1, s2, s3, s4, s5, s6, s7, s8, s9, s10, s11, y0, y1, y2, y3, y4, y5, y6, y7, y8, y9, y10, y11⟩ := z12_of z1.out
    go_wp2_with fail
    have f3 : Blk (st12 w1 gR (.int .i64 5) (.int .i64 0) (.int .i64 0) (.bool false) (.int .i64 0) (.int .i64 0) (.int .i64 0) (.int .i64 0) (.int .i64 0) (.int .i64 0) (.int .i64 0) (.int .i64 0)) gR 54 #[.int .i64 5, .int .i64 0, .int .i64 0, .bool false, .int .i64 0, .int .i64 0, .int .i64 0, .int .i64 0, .int .i64 0, .int .i64 0, .int .i64 0, .int .i64 0] := st12_blk z1.out
    have hb : Below w.heap.size w (st12 w1 gR (.int .i64 5) (.int .i64 0) (.int .i64 0) (.bool false) (.int .i64 0) (.int .i64 0) (.int .i64 0) (.int .i64 0) (.int .i64 0) (.int .i64 0) (.int .i64 0) (.int .i64 0)) := st12_below b1.out hg.out
    obtain ⟨d0, d1, d2, d3, d4, d5, d6, d7, d8, d9, d10, d11⟩ := c12_of f3
    unfold st12 at d0 d1 d2 d3 d4 d5 d6 d7 d8 d9 d10 d11 hb
    rw [hm.out]
    exact bodyPost_ret (v := .agg #[.int .i64 5, .int .i64 0, .int .i64 0, .bool false, .int .i64 0, .int .i64 0, .int .i64 0, .int .i64 0, .int .i64 0, .int .i64 0, .int .i64 0, .int .i64 0]) (by simp [results, Tryd.results23, go_sem, d0, d1, d2, d3, d4, d5, d6, d7, d8, d9, d10, d11]) rfl ⟨rfl, hb⟩
  by_cases n6 : at0 (splP s) 0 = wLimit
  · have q0 : (at0 (splP s) 0 == [111, 114, 100, 101, 114]) = false := beq_f n0
    have q1 : (at0 (splP s) 0 == [99, 97, 110, 99, 101, 108]) = false := beq_f n1
    have q2 : (at0 (splP s) 0 == [102, 105, 108, 108]) = false := beq_f n2
    have q3 : (at0 (splP s) 0 == [97, 99, 107]) = false := beq_f n3
    have q4 : (at0 (splP s) 0 == [107, 105, 108, 108]) = false := beq_f n4
    have q5 : (at0 (splP s) 0 == [114, 101, 97, 114, 109]) = false := beq_f n5
    have q6 : (at0 (splP s) 0 == [108, 105, 109, 105, 116]) = true := beq_t n6
    have hm : Hid (guessP s = { m0 with k := 6, z := numP (at0 (splP s) 1), v := numP (at0 (splP s) 2) }) := κ (by unfold guessP guessW; rw [if_neg n0]; rw [if_neg n1]; rw [if_neg n2]; rw [if_neg n3]; rw [if_neg n4]; rw [if_neg n5]; rw [if_pos n6])
    clear n0 n1 n2 n3 n4 n5 n6
    go_wp2_with fail
    refine (number_any A c (splP s) 1 w1 L1 t1 (by omega) (by omega) (κ (by have := splP_each s 1; omega))).mono ?_
    rintro e w2 ⟨rfl, hb2⟩
    have t2 := κ (Rd.below' t1.out hb2 hb2.size)
    have b2 := κ (CrdB.below_step b1.out hb2)
    have z2 := κ (z1.out.below' hb2)
    have L2 := lwb L1 hb2
    clear hb2 b1 t1 L1 z1
    go_wp2_with fail
    refine (number_any A c (splP s) 2 w2 L2 t2 (by omega) (by omega) (κ (by have := splP_each s 2; omega))).mono ?_
    rintro e w3 ⟨rfl, hb3⟩
    have t3 := κ (Rd.below' t2.out hb3 hb3.size)
    have b3 := κ (CrdB.below_step b2.out hb3)
    have z3 := κ (z2.out.below' hb3)
    have L3 := lwb L2 hb3
    clear hb3 b2 t2 L2 z2
    obtain ⟨s0, s1, s2, s3, s4, s5, s6, s7, s8, s9, s10, s11, y0, y1, y2, y3, y4, y5, y6, y7, y8, y9, y10, y11⟩ := z12_of z3.out
    go_wp2_with fail
    have f3 : Blk (st12 w3 gR (.int .i64 6) (.int .i64 0) (.int .i64 0) (.bool false) (.int .i64 0) (.int .i64 0) (.int .i64 0) (.int .i64 0) (.int .i64 0) (.int .i64 0) (.int .i64 (numP (at0 (splP s) 1))) (.int .i64 (numP (at0 (splP s) 2)))) gR 54 #[.int .i64 6, .int .i64 0, .int .i64 0, .bool false, .int .i64 0, .int .i64 0, .int .i64 0, .int .i64 0, .int .i64 0, .int .i64 0, .int .i64 (numP (at0 (splP s) 1)), .int .i64 (numP (at0 (splP s) 2))] := st12_blk z3.out
    have hb : Below w.heap.size w (st12 w3 gR (.int .i64 6) (.int .i64 0) (.int .i64 0) (.bool false) (.int .i64 0) (.int .i64 0) (.int .i64 0) (.int .i64 0) (.int .i64 0) (.int .i64 0) (.int .i64 (numP (at0 (splP s) 1))) (.int .i64 (numP (at0 (splP s) 2)))) := st12_below b3.out hg.out
    obtain ⟨d0, d1, d2, d3, d4, d5, d6, d7, d8, d9, d10, d11⟩ := c12_of f3
    unfold st12 at d0 d1 d2 d3 d4 d5 d6 d7 d8 d9 d10 d11 hb
    rw [hm.out]
    exact bodyPost_ret (v := .agg #[.int .i64 6, .int .i64 0, .int .i64 0, .bool false, .int .i64 0, .int .i64 0, .int .i64 0, .int .i64 0, .int .i64 0, .int .i64 0, .int .i64 (numP (at0 (splP s) 1)), .int .i64 (numP (at0 (splP s) 2))]) (by simp [results, Tryd.results23, go_sem, d0, d1, d2, d3, d4, d5, d6, d7, d8, d9, d10, d11]) rfl ⟨rfl, hb⟩
  have q0 : (at0 (splP s) 0 == [111, 114, 100, 101, 114]) = false := beq_f n0
  have q1 : (at0 (splP s) 0 == [99, 97, 110, 99, 101, 108]) = false := beq_f n1
  have q2 : (at0 (splP s) 0 == [102, 105, 108, 108]) = false := beq_f n2
  have q3 : (at0 (splP s) 0 == [97, 99, 107]) = false := beq_f n3
  have q4 : (at0 (splP s) 0 == [107, 105, 108, 108]) = false := beq_f n4
  have q5 : (at0 (splP s) 0 == [114, 101, 97, 114, 109]) = false := beq_f n5
  have q6 : (at0 (splP s) 0 == [108, 105, 109, 105, 116]) = false := beq_f n6
  have hm : Hid (guessP s = m0) := κ (by unfold guessP guessW; rw [if_neg n0]; rw [if_neg n1]; rw [if_neg n2]; rw [if_neg n3]; rw [if_neg n4]; rw [if_neg n5]; rw [if_neg n6])
  clear n0 n1 n2 n3 n4 n5 n6
  obtain ⟨s0, s1, s2, s3, s4, s5, s6, s7, s8, s9, s10, s11, y0, y1, y2, y3, y4, y5, y6, y7, y8, y9, y10, y11⟩ := z12_of z1.out
  go_wp2_with fail
  have f3 : Blk (st12 w1 gR (.int .i64 0) (.int .i64 0) (.int .i64 0) (.bool false) (.int .i64 0) (.int .i64 0) (.int .i64 0) (.int .i64 0) (.int .i64 0) (.int .i64 0) (.int .i64 0) (.int .i64 0)) gR 54 #[.int .i64 0, .int .i64 0, .int .i64 0, .bool false, .int .i64 0, .int .i64 0, .int .i64 0, .int .i64 0, .int .i64 0, .int .i64 0, .int .i64 0, .int .i64 0] := st12_blk z1.out
  have hb : Below w.heap.size w (st12 w1 gR (.int .i64 0) (.int .i64 0) (.int .i64 0) (.bool false) (.int .i64 0) (.int .i64 0) (.int .i64 0) (.int .i64 0) (.int .i64 0) (.int .i64 0) (.int .i64 0) (.int .i64 0)) := st12_below b1.out hg.out
  obtain ⟨d0, d1, d2, d3, d4, d5, d6, d7, d8, d9, d10, d11⟩ := c12_of f3
  unfold st12 at d0 d1 d2 d3 d4 d5 d6 d7 d8 d9 d10 d11 hb
  rw [hm.out]
  exact bodyPost_ret (v := .agg #[.int .i64 0, .int .i64 0, .int .i64 0, .bool false, .int .i64 0, .int .i64 0, .int .i64 0, .int .i64 0, .int .i64 0, .int .i64 0, .int .i64 0, .int .i64 0]) (by simp [results, Tryd.results23, go_sem, d0, d1, d2, d3, d4, d5, d6, d7, d8, d9, d10, d11]) rfl ⟨rfl, hb⟩
end Sgu
end Go.Proofs.YtmjkhejfhpgiiaaDoor
