/- Texts side by side. -/
import Derived.Laws.Concat
import Derived.Laws.Strings2
import Derived.Test.YteclenloimbaeaaGreatDoorSljb
import Derived.Test.YteclenloimbaeaaGreatDoorSljc
set_option linter.unusedVariables false
set_option linter.unusedSimpArgs false
set_option maxRecDepth 100000
set_option maxHeartbeats 16000000
namespace Go.Proofs.YteclenloimbaeaaGreatDoor
open Kap Go.ChangeShapes Go.WideShapes Go.ChangeAt Go.RowKit Go.Lib Mem Wpl Spa Spm Shw
namespace Rsa
theorem ten {d : Nat} (h : d < 10) : (⟨#[48, 49, 50, 51, 52, 53, 54, 55, 56, 57]⟩ : ByteArray).extract d (d + 1) = ⟨#[dgt d]⟩ := by
  rw [show (⟨#[48, 49, 50, 51, 52, 53, 54, 55, 56, 57]⟩ : ByteArray) = ByteArray.mk ([48, 49, 50, 51, 52, 53, 54, 55, 56, 57] : List UInt8).toArray from rfl, ByteArray.extract_mk]
  match d, h with
  | 0, _ => rfl
  | 1, _ => rfl
  | 2, _ => rfl
  | 3, _ => rfl
  | 4, _ => rfl
  | 5, _ => rfl
  | 6, _ => rfl
  | 7, _ => rfl
  | 8, _ => rfl
  | 9, _ => rfl
theorem ret_eq {v u : Value} (h : v = u) : Ending.returned v = .returned u := by rw [h]
theorem dec_le20 (u : Nat) (h : u < 18446744073709551616) : (decDigits u).length ≤ 20 := by
  have e : (10 : Nat) ^ (19 + 1) = 100000000000000000000 := by decide
  exact dec_len 19 u (by omega)
theorem cut_dig (r : Nat) (h : r < 10) (W : World) : (Instr.slice 9 (.string ⟨#[48, 49, 50, 51, 52, 53, 54, 55, 56, 57]⟩) (some (.int .u64 (r : Int))) (some (.int .u64 ((r : Int) + 1))) none).run Tryz.prog W = .ok (sv [dgt r]) W := by
  have hz : ((⟨#[48, 49, 50, 51, 52, 53, 54, 55, 56, 57]⟩ : ByteArray).size : Int) = 10 := rfl
  rw [run_slice_string W 9 _ .u64 .u64 (r : Int) ((r : Int) + 1) Tryz.underlying9 (by omega) (by omega) (by omega)]
  have e1 : ((r : Int)).toNat = r := by omega
  have e2 : ((r : Int) + 1).toNat = r + 1 := by omega
  rw [e1, e2, ten h]
theorem u64_in {x : Int} (h : 0 ≤ x ∧ x ≤ 18446744073709551615) : IntKind.u64.wrap x = x := by
  rw [IntKind.wrap_u64]
  omega
def DigQ (u : Nat) : Prop := ∀ w, Calls Tryz.prog 58 #[.int .u64 u] w (fun e w' => e = .returned (sv (decDigits u)) ∧ ∃ n, w' = w.drewN n)
theorem rdig_any (u : Nat) : u < 18446744073709551616 → DigQ u := by
  induction u using Nat.strongRecOn with
  | ind u ih =>
    intro hu w
    have h0 : (0 : Int) ≤ (u : Int) := Int.natCast_nonneg _
    have h1 : (u : Int) ≤ 18446744073709551615 := by omega
    by_cases hs : u < 10
    · rw [dec_small hs]
      have hi : (u : Int) < 10 := by omega
      have hsl := cut_dig u hs
      clear ih
      go_enter Tryz.func58, Tryz.ntmps58
      go_wp2_with fail
      go_ret
      exact ⟨rfl, 0, rfl⟩
    · have IH : Hid (DigQ (u / 10)) := κ (ih (u / 10) (by omega) (by omega))
      have hl := dec_le20 (u / 10) (by omega)
      obtain ⟨q, hq⟩ : ∃ q, q = u / 10 := ⟨_, rfl⟩
      obtain ⟨r, hr⟩ : ∃ r, r = u % 10 := ⟨_, rfl⟩
      have hr10 : r < 10 := by omega
      have hsl := cut_dig r hr10
      rw [dec_big hs, ← hq, ← hr]
      rw [← hq] at IH hl
      have e1 : IntKind.u64.wrap ((u : Int) / 10) = (q : Int) := by rw [u64_in (by omega)]; omega
      have e2 : ((u : Int)).tmod 10 = (r : Int) := by rw [Int.tmod_eq_emod_of_nonneg h0]; omega
      have e3 : IntKind.u64.wrap ((r : Int) + 1) = (r : Int) + 1 := u64_in (by omega)
      have hc : ∀ W, (Op.stringOp .add ⟨(decDigits q).toArray⟩ ⟨[dgt r].toArray⟩).run Tryz.prog W = .ok (sv (decDigits q ++ [dgt r])) W := fun W => run_string_add_lists W _ _ (by omega) (by simp)
      have hi : ¬ (u : Int) < 10 := by omega
      clear ih hq hr
      go_enter Tryz.func58, Tryz.ntmps58
      go_wp2_with fail
      go_quiet ((go_at_call 58; exact Calls.quiet_of (IH.out _)))
      go_wp2_with fail
      go_ret
      exact ⟨rfl, nq, rfl⟩
def NumQ (n : Int) : Prop := ∀ w, Calls Tryz.prog 42 #[.int .i64 n] w (fun e w' => e = .returned (sv (itoa n)) ∧ ∃ n, w' = w.drewN n)
theorem rnum_any (n : Int) (h : 0 ≤ n) (h1 : n ≤ 9223372036854775807) : NumQ n := by
  intro w
  obtain ⟨u, rfl⟩ : ∃ u : Nat, n = (u : Int) := ⟨n.toNat, by omega⟩
  have D : Hid (DigQ u) := κ (rdig_any u (by omega))
  have e1 : IntKind.u64.wrap (u : Int) = (u : Int) := u64_in (by omega)
  rw [itoa_nonneg]
  have hn : ¬ (u : Int) < 0 := by omega
  go_enter Tryz.func42, Tryz.ntmps42
  go_wp2_with fail
  refine (D.out _).mono ?_
  rintro e w1 ⟨rfl, k, rfl⟩
  go_wp2_with fail
  go_ret
  exact ⟨rfl, k, rfl⟩
theorem rput_any (s : List UInt8) (n : Int) (hs : s.length ≤ 400) (h : 0 ≤ n) (h1 : n ≤ 9223372036854775807) (w : World) : Calls Tryz.prog 23 #[sv s, .int .i64 n] w (fun e w' => e = .returned (sv (s ++ 32 :: itoa n)) ∧ ∃ n, w' = w.drewN n) := by
  have D : Hid (∀ w, Calls Tryz.prog 42 #[.int .i64 n] w (fun e w' => e = .returned (sv (itoa n)) ∧ ∃ n, w' = w.drewN n)) := κ (rnum_any n h h1)
  have hl := itoa_length_le n (by omega) h1
  have e : s ++ 32 :: itoa n = s ++ [32] ++ itoa n := by simp
  rw [e]
  clear e
  generalize itoa n = z at hl D ⊢
  have c1 : ∀ W, (Op.stringOp .add ⟨s.toArray⟩ ⟨#[32]⟩).run Tryz.prog W = .ok (sv (s ++ [32])) W := fun W => run_string_add_lists W s [32] (by omega) (by simp)
  have c2 : ∀ W, (Op.stringOp .add ⟨(s ++ [32]).toArray⟩ ⟨z.toArray⟩).run Tryz.prog W = .ok (sv (s ++ [32] ++ z)) W := fun W => run_string_add_lists W _ _ (by simp; omega) (by omega)
  generalize s ++ [32] ++ z = y at c2 ⊢
  generalize s ++ [32] = x at c1 c2
  clear hl h h1 hs
  go_enter Tryz.func23, Tryz.ntmps23
  go_wp2_with fail
  refine (D.out _).mono ?_
  rintro e w1 ⟨rfl, k, rfl⟩
  go_wp2_with fail
  go_ret
  exact ⟨rfl, k, rfl⟩
end Rsa
namespace Rsn
open Rsa Fix
def SameI (x : Int) (w : World) (e : Ending) (w' : World) : Prop := e = .returned (.int .i64 x) ∧ w = w'
theorem same_i {x y : Int} {w : World} (h : x = y) : SameI x w (.returned (.int .i64 y)) w := by subst h; exact ⟨rfl, rfl⟩
theorem idx_any (l : List UInt8) (k : Nat) (hk : k < l.length) (c : Int) (hc : c = (l[k].toNat : Int)) (W : World) : (Instr.index 9 (sv l) (.int .i64 (k : Int))).run Tryz.prog W = .ok (.int .u8 c) W := by
  have hz : (⟨l.toArray⟩ : ByteArray).size = l.length := rfl
  rw [run_index_string W 9 _ .i64 (k : Int) Tryz.underlying9, dif_pos ⟨by omega, by omega⟩, hc]
  have e : ((k : Int)).toNat = k := by omega
  simp only [e]
  rfl
theorem mul_yes (v : Int) (h0 : 0 ≤ v) (h1 : v * 10 ≤ 9223372036854775807) (W : World) : Calls Tryz.prog 33 #[.int .i64 v, .int .i64 10] W (fun e w' => e = .returned (.tuple #[.int .i64 (v * 10), .bool true]) ∧ W = w') := by
  refine (rmul_any v 10 W (by omega) (by omega) (by omega) (by omega)).mono ?_
  rintro e w' ⟨he, hw⟩
  rw [numV_t (inB_t (by omega) h1), inB_t (by omega) h1] at he
  exact ⟨he, hw⟩
theorem mul_no (v : Int) (h0 : 0 ≤ v) (h2 : v ≤ 9223372036854775807) (h1 : 9223372036854775807 < v * 10) (W : World) : Calls Tryz.prog 33 #[.int .i64 v, .int .i64 10] W (fun e w' => e = .returned (.tuple #[.int .i64 0, .bool false]) ∧ W = w') := by
  refine (rmul_any v 10 W (by omega) (by omega) (by omega) (by omega)).mono ?_
  rintro e w' ⟨he, hw⟩
  rw [numV_f (inB_f (Or.inr h1)), inB_f (Or.inr h1)] at he
  exact ⟨he, hw⟩
theorem add_yes (v d : Int) (h0 : 0 ≤ v) (hd : 0 ≤ d) (h1 : v + d ≤ 9223372036854775807) (W : World) : Calls Tryz.prog 34 #[.int .i64 v, .int .i64 d] W (fun e w' => e = .returned (.tuple #[.int .i64 (v + d), .bool true]) ∧ W = w') := by
  refine (radd_any v d W (by omega) (by omega) (by omega) (by omega)).mono ?_
  rintro e w' ⟨he, hw⟩
  rw [numV_t (inB_t (by omega) h1), inB_t (by omega) h1] at he
  exact ⟨he, hw⟩
theorem add_no (v d : Int) (h0 : 0 ≤ v) (h2 : v ≤ 9223372036854775807) (hd : 0 ≤ d) (hd9 : d ≤ 9) (h1 : 9223372036854775807 < v + d) (W : World) : Calls Tryz.prog 34 #[.int .i64 v, .int .i64 d] W (fun e w' => e = .returned (.tuple #[.int .i64 0, .bool false]) ∧ W = w') := by
  refine (radd_any v d W (by omega) (by omega) (by omega) (by omega)).mono ?_
  rintro e w' ⟨he, hw⟩
  rw [numV_f (inB_f (Or.inr h1)), inB_f (Or.inr h1)] at he
  exact ⟨he, hw⟩
theorem rword_any (l : List UInt8) (w : World) (hl : (l.length : Int) ≤ 400) : Calls Tryz.prog 16 #[sv l] w (SameI (numR l) w) := by
  by_cases h1 : l.length < 1
  · have hr : Hid (numR l = -1) := κ (by unfold numR; rw [if_pos (Or.inl h1)])
    have hi : (l.length : Int) < 1 := by omega
    clear h1
    go_enter Tryz.func16, Tryz.ntmps16
    go_wp2_with fail
    go_ret
    exact same_i hr.out
  by_cases h2 : 19 < l.length
  · have hr : Hid (numR l = -1) := κ (by unfold numR; rw [if_pos (Or.inr h2)])
    have hi : ¬ (l.length : Int) < 1 := by omega
    have hj : (19 : Int) < (l.length : Int) := by omega
    clear h1 h2
    go_enter Tryz.func16, Tryz.ntmps16
    go_wp2_with fail
    go_ret
    exact same_i hr.out
  have hr : Hid (numR l = numF 0 l) := κ (by unfold numR; rw [if_neg (by omega)])
  rw [hr.out]
  have hi : ¬ (l.length : Int) < 1 := by omega
  have hj : ¬ (19 : Int) < (l.length : Int) := by omega
  clear h1 h2 hr
  go_enter Tryz.func16, Tryz.ntmps16
  go_wp2_with fail
  go_loopg [3, 4] l.length (fun g s3 s4 w' => ∃ (k : Nat) (v : Int), k + g = l.length ∧ s3 = .int .i64 v ∧ s4 = .int .i64 k ∧ 0 ≤ v ∧ v ≤ 9223372036854775807 ∧ Hid (numF v (l.drop k) = numF 0 l) ∧ w = w')
  case atStart => exact ⟨0, 0, by omega, rfl, rfl, by omega, by omega, κ rfl, rfl⟩
  case round =>
    obtain ⟨k, v, hkg, rfl, rfl, hv0, hv1, HN, rfl⟩ := hrel
    have hk0 : (0 : Int) ≤ (k : Int) := Int.natCast_nonneg _
    by_cases hlt : k < l.length
    · obtain ⟨c, hc⟩ : ∃ c : Int, c = (l[k].toNat : Int) := ⟨_, rfl⟩
      have hc0 : 0 ≤ c := by omega
      have hc1 : c ≤ 255 := by have := (l[k]).toNat_lt; omega
      have hix := fun W => idx_any l k hlt c hc W
      have H2 : Hid (numF 0 l = if c < 48 ∨ 57 < c then -1 else if 9223372036854775807 < v * 10 + (c - 48) then -1 else numF (v * 10 + (c - 48)) (l.drop (k + 1))) := κ (by
        rw [← HN.out, List.drop_eq_getElem_cons hlt, hc]
        simp only [numF]
        by_cases q : l[k].toNat < 48 ∨ 57 < l[k].toNat
        · rw [if_pos q]; exact (if_pos (by omega)).symm
        · rw [if_neg q]; exact (if_neg (by omega)).symm)
      have hki : (k : Int) < (l.length : Int) := by omega
      clear HN hc
      by_cases q1 : c < 48
      · have hR : Hid (numF 0 l = -1) := κ (by rw [H2.out, if_pos (Or.inl q1)])
        clear H2
        go_wp2_with fail
        go_ret
        exact same_i hR.out
      by_cases q2 : 57 < c
      · have hR : Hid (numF 0 l = -1) := κ (by rw [H2.out, if_pos (Or.inr q2)])
        clear H2
        go_wp2_with fail
        go_ret
        exact same_i hR.out
      by_cases q3 : 9223372036854775807 < v * 10
      · have hR : Hid (numF 0 l = -1) := κ (by rw [H2.out, if_neg (by omega), if_pos (by omega)])
        have A1 := κ (fun W => mul_no v hv0 hv1 q3 W)
        have A2 := κ (fun W => add_yes 0 (c - 48) (by omega) (by omega) (by omega) W)
        clear H2 q3
        go_wp2_with fail
        refine (A1.out _).mono ?_
        rintro e w1 ⟨rfl, rfl⟩
        go_wp2_with fail
        refine (A2.out _).mono ?_
        rintro e w1 ⟨rfl, rfl⟩
        go_wp2_with fail
        go_ret
        exact same_i hR.out
      by_cases q4 : 9223372036854775807 < v * 10 + (c - 48)
      · have hR : Hid (numF 0 l = -1) := κ (by rw [H2.out, if_neg (by omega), if_pos q4])
        have A1 := κ (fun W => mul_yes v hv0 (by omega) W)
        have A2 := κ (fun W => add_no (v * 10) (c - 48) (by omega) (by omega) (by omega) (by omega) q4 W)
        clear H2 q3 q4
        generalize v * 10 = x at A1 A2
        go_wp2_with fail
        refine (A1.out _).mono ?_
        rintro e w1 ⟨rfl, rfl⟩
        go_wp2_with fail
        refine (A2.out _).mono ?_
        rintro e w1 ⟨rfl, rfl⟩
        go_wp2_with fail
        go_ret
        exact same_i hR.out
      · have hR : Hid (numF (v * 10 + (c - 48)) (l.drop (k + 1)) = numF 0 l) := κ (by rw [H2.out, if_neg (by omega), if_neg q4])
        have A1 := κ (fun W => mul_yes v hv0 (by omega) W)
        have A2 := κ (fun W => add_yes (v * 10) (c - 48) (by omega) (by omega) (by omega) W)
        have g0 : 0 ≤ v * 10 + (c - 48) := by omega
        have g1 : v * 10 + (c - 48) ≤ 9223372036854775807 := by omega
        clear H2 q3 q4
        generalize v * 10 + (c - 48) = y at A2 hR g0 g1
        generalize v * 10 = x at A1 A2
        go_wp2_with fail
        refine (A1.out _).mono ?_
        rintro e w1 ⟨rfl, rfl⟩
        go_wp2_with fail
        refine (A2.out _).mono ?_
        rintro e w1 ⟨rfl, rfl⟩
        go_wp2_with fail
        go_roundg (gk - 1)
        case rel => exact ⟨k + 1, y, by omega, rfl, by go_num, g0, g1, hR, rfl⟩
        case measure => omega
    · have hk : k = l.length := by omega
      have hR : Hid (v = numF 0 l) := κ (by
        have h := HN.out
        rw [hk, List.drop_length] at h
        exact h)
      have hki : ¬ (k : Int) < (l.length : Int) := by omega
      clear HN hk
      go_wp2_with fail
      go_ret
      exact same_i hR.out.symm
end Rsn
namespace Rsw
open Rsa Rsn
theorem str_info : (Tryz.prog.info? 9).map (fun i => (i.zero, i.size, i.bytes)) = some (some (.string ByteArray.empty), 1, 16) := by kernel_rfl
theorem cut_any (l : List UInt8) (f k : Nat) (hf : f ≤ k) (hk : k ≤ l.length) (W : World) : (Instr.slice 9 (sv l) (some (.int .i64 (f : Int))) (some (.int .i64 (k : Int))) none).run Tryz.prog W = .ok (sv ((l.drop f).take (k - f))) W := by
  have hz : ((⟨l.toArray⟩ : ByteArray).size : Int) = (l.length : Int) := rfl
  rw [run_slice_string W 9 _ .i64 .i64 (f : Int) (k : Int) Tryz.underlying9 (by omega) (by omega) (by omega)]
  have e1 : ((f : Int)).toNat = f := by omega
  have e2 : ((k : Int)).toNat = k := by omega
  rw [e1, e2, ByteArray.extract_mk]
def togo (l : List UInt8) (done : List (List UInt8)) (f k : Nat) : List (List UInt8) := if k ≤ l.length then done ++ wordsR ((l.drop f).take (k - f)) (l.drop k) else done
theorem togo_end {l : List UInt8} {done : List (List UInt8)} {f k : Nat} (hk : k = l.length) (f' : Nat) : togo l (done ++ [(l.drop f).take (k - f)]) f' (k + 1) = togo l done f k := by
  unfold togo
  rw [if_neg (by omega), if_pos (by omega), hk, List.drop_length, wordsR]
theorem togo_cut {l : List UInt8} {done : List (List UInt8)} {f k : Nat} (hk : k < l.length) (h : l[k] = 32) : togo l (done ++ [(l.drop f).take (k - f)]) (k + 1) (k + 1) = togo l done f k := by
  unfold togo
  rw [if_pos (by omega), if_pos (by omega), List.drop_eq_getElem_cons hk, h, wordsR, if_pos rfl, Nat.sub_self, List.take_zero]
  simp
theorem togo_on {l : List UInt8} {done : List (List UInt8)} {f k : Nat} (hf : f ≤ k) (hk : k < l.length) (h : ¬ l[k] = 32) : togo l done f (k + 1) = togo l done f k := by
  unfold togo
  rw [if_pos (by omega), if_pos (by omega), List.drop_eq_getElem_cons hk, wordsR, if_neg h]
  have e : (l.drop f).take (k + 1 - f) = (l.drop f).take (k - f) ++ [l[k]] := by
    rw [show k + 1 - f = (k - f) + 1 by omega, List.take_succ_eq_append_getElem (by rw [List.length_drop]; omega), List.getElem_drop]
    congr 2
    congr 1
    omega
  rw [e]
theorem stx_snoc (d : List (List UInt8)) (x : List UInt8) : stx (d ++ [x]) = stx d ++ [sv x] := by simp [stx]
def MadeT (l : List (List UInt8)) (w : World) (e : Ending) (w' : World) : Prop := ∃ A c, e = .returned (.slice A l.length c) ∧ w'.ownsRow w.heap.size 9 1 (.slice A l.length c) l.length (stx l) ∧ Below w.heap.size w w'
theorem madeT_mk {l : List (List UInt8)} {w w' : World} {A : Option Addr} {n c : Nat} (h : n = l.length) (ho : w'.ownsRow w.heap.size 9 1 (.slice A n c) n (stx l)) (hb : Below w.heap.size w w') : MadeT l w (.returned (.slice A n c)) w' := by subst h; exact ⟨A, c, rfl, ho, hb⟩
theorem rwords_any (l : List UInt8) (w : World) (hl : (l.length : Int) ≤ 400) : Calls Tryz.prog 15 #[sv l] w (MadeT (wordsR [] l) w) := by
  obtain ⟨i0, hi, hz0, hz1, hz2⟩ := info_parts str_info
  have hz : (⟨l.toArray⟩ : ByteArray).size = l.length := rfl
  go_enter Tryz.func15, Tryz.ntmps15
  go_wp2_with fail
  go_loopg [3, 4, 5] (l.length + 1) (fun g s3 s4 s5 w' => ∃ (k f : Nat) (A : Option Addr) (n c : Nat) (done : List (List UInt8)), k + g = l.length + 1 ∧ f ≤ k ∧ n ≤ k ∧ s3 = .slice A n c ∧ s4 = .int .i64 f ∧ s5 = .int .i64 k ∧ Hid (n = done.length) ∧ Hid (togo l done f k = wordsR [] l) ∧ Hid (w'.ownsRow w.heap.size 9 1 (.slice A n c) n (stx done)) ∧ Hid (Below w.heap.size w w'))
  case atStart => exact ⟨0, 0, none, 0, 0, [], by omega, Nat.le_refl _, Nat.le_refl _, rfl, rfl, rfl, κ rfl, κ (by unfold togo; rw [if_pos (by omega)]; rfl), κ (World.ownsRow_nil _ _ _ _), κ (Below.refl _ _)⟩
  case round =>
    obtain ⟨k, f, A, n, c, done, hkg, hfk, hnk, rfl, rfl, rfl, HN, HT, HO, HB⟩ := hrel
    have hk0 : (0 : Int) ≤ (k : Int) := Int.natCast_nonneg _
    by_cases hlt : k < l.length
    · obtain ⟨c0, hc⟩ : ∃ c : Int, c = (l[k].toNat : Int) := ⟨_, rfl⟩
      have hc0 : 0 ≤ c0 := by omega
      have hc1 : c0 ≤ 255 := by have := (l[k]).toNat_lt; omega
      have hix := fun W => idx_any l k hlt c0 hc W
      have hsl := fun W => cut_any l f k hfk (by omega) W
      have hki : (k : Int) ≤ (l.length : Int) := by omega
      have hke : decide ((k : Int) = (l.length : Int)) = false := by simp; omega
      have hke2 : ((k : Int) == (l.length : Int)) = false := by rw [beq_eq_false_iff_ne]; omega
      have hke3 : ¬ k = l.length := by omega
      by_cases q : c0 = 32
      · have hq : l[k] = 32 := by apply UInt8.toNat_inj.1; show _ = 32; omega
        have H2 : Hid (togo l (done ++ [(l.drop f).take (k - f)]) (k + 1) (k + 1) = wordsR [] l) := κ ((togo_cut hlt hq).trans HT.out)
        clear hc HT hq
        generalize (l.drop f).take (k - f) = x at hsl H2
        subst q
        go_wp2_with (first | (at_builtin; refine wpList_app1 HO.out HB.out rfl _ _ _ rfl i0 (.string ByteArray.empty) 16 Tryz.underlying52 hi hz0 hz1 hz2 rfl (by decide) rfl rfl rfl [sv x] rfl rfl (by simp [Value.oneCell']) (by unfold maxLen; omega) (by omega) (Nat.le_refl _) HB.out.size HB.out.size ?_; intro A1 c1 w1 hown1 hbel1 hsz1))
        have HN1 : Hid (n + 1 = (done ++ [x]).length) := by show _ = _; rw [List.length_append, HN.out]; rfl
        have HO1 : Hid (w1.ownsRow w.heap.size 9 1 (.slice A1 (n + 1) c1) (n + 1) (stx (done ++ [x]))) := by rw [stx_snoc]; exact hown1
        have HB1 := κ hbel1
        clear hown1 hbel1
        go_roundg (gk - 1)
        case measure => omega
        case rel => exact ⟨k + 1, k + 1, A1, n + 1, c1, done ++ [x], by omega, Nat.le_refl _, by omega, rfl, by go_num, by go_num, HN1, H2, HO1, HB1⟩
      · have hq : ¬ l[k] = 32 := by intro e; rw [e] at hc; exact q hc
        have H2 : Hid (togo l done f (k + 1) = wordsR [] l) := κ ((togo_on hfk hlt hq).trans HT.out)
        clear hc HT hq
        go_wp2_with fail
        go_roundg (gk - 1)
        case measure => omega
        case rel => exact ⟨k + 1, f, A, n, c, done, by omega, by omega, by omega, rfl, rfl, by go_num, HN, H2, HO, HB⟩
    · by_cases hke : k = l.length
      · have hsl := fun W => cut_any l f k hfk (by omega) W
        have H2 : Hid (togo l (done ++ [(l.drop f).take (k - f)]) (k + 1) (k + 1) = wordsR [] l) := κ ((togo_end hke (k + 1)).trans HT.out)
        have hki : (k : Int) ≤ (l.length : Int) := by omega
        have he1 : ((k : Int) == (l.length : Int)) = true := by rw [beq_iff_eq]; omega
        generalize (l.drop f).take (k - f) = x at hsl H2
        clear HT hke
        go_wp2_with (first | (at_builtin; refine wpList_app1 HO.out HB.out rfl _ _ _ rfl i0 (.string ByteArray.empty) 16 Tryz.underlying52 hi hz0 hz1 hz2 rfl (by decide) rfl rfl rfl [sv x] rfl rfl (by simp [Value.oneCell']) (by unfold maxLen; omega) (by omega) (Nat.le_refl _) HB.out.size HB.out.size ?_; intro A1 c1 w1 hown1 hbel1 hsz1))
        have HN1 : Hid (n + 1 = (done ++ [x]).length) := by show _ = _; rw [List.length_append, HN.out]; rfl
        have HO1 : Hid (w1.ownsRow w.heap.size 9 1 (.slice A1 (n + 1) c1) (n + 1) (stx (done ++ [x]))) := by rw [stx_snoc]; exact hown1
        have HB1 := κ hbel1
        clear hown1 hbel1
        go_roundg (gk - 1)
        case measure => omega
        case rel => exact ⟨k + 1, k + 1, A1, n + 1, c1, done ++ [x], by omega, Nat.le_refl _, by omega, rfl, by go_num, by go_num, HN1, H2, HO1, HB1⟩
      · have hki : ¬ (k : Int) ≤ (l.length : Int) := by omega
        have hd : Hid (done = wordsR [] l) := κ (by have h := HT.out; unfold togo at h; rw [if_neg (by omega)] at h; exact h)
        clear HT
        go_wp2_with fail
        go_ret
        exact madeT_mk (by rw [← hd.out]; exact HN.out) (by rw [← hd.out]; exact HO.out) HB.out
end Rsw
end Go.Proofs.YteclenloimbaeaaGreatDoor
