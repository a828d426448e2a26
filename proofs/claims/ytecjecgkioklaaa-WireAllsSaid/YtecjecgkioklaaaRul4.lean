/- The contract of the law's few. Condition: the lengths are those of lists in memory. -/
import Derived.Test.YtecjecgkioklaaaSt7
import Derived.Test.YtecjecgkioklaaaLat
import Derived.Deep.DeepCutAuto
namespace Go.Proofs.Ytecjecgkioklaaa.Rul4
set_option maxRecDepth 100000
open Go.ChangeShapes Go.WideShapes Go.ChangeAt Go.RowKit Mem Tre Ref3 Law3 Fix3 Opn Bnd Flo Cfg Rul1 CrdB CrdC St7 Lat
set_option linter.unusedVariables false
set_option linter.unusedSimpArgs false
attribute [local go_sem] run_store_float

def cut (n m : Nat) : Nat := if m < n then m else n
theorem cut_le {n m : Nat} : cut n m ≤ n ∧ cut n m ≤ m := by unfold cut; split <;> omega
theorem cut_int {n m : Nat} : (if (m : Int) < (n : Int) then (m : Int) else (n : Int)) = ((cut n m : Nat) : Int) := by
  unfold cut
  by_cases h : m < n
  · rw [if_pos h, if_pos (by omega)]
  · rw [if_neg h, if_neg (by omega)]
theorem blk3 {W : World} {g : Nat} {te : TypeId} {v0 v1 v2 v3 v4 v5 v6 a b c : Value} (hk : Blk W g te #[v0, v1, v2, v3, v4, v5, v6]) : Blk (((W.setCell ⟨g, 4, none⟩ a).setCell ⟨g, 5, none⟩ b).setCell ⟨g, 6, none⟩ c).drew g te #[v0, v1, v2, v3, a, b, c] := by
  have k1 : Blk (W.setCell ⟨g, 4, none⟩ a) g te #[v0, v1, v2, v3, a, v5, v6] := blk_set hk 4 a
  have k2 : Blk ((W.setCell ⟨g, 4, none⟩ a).setCell ⟨g, 5, none⟩ b) g te #[v0, v1, v2, v3, a, b, v6] := blk_set k1 5 b
  have k3 : Blk (((W.setCell ⟨g, 4, none⟩ a).setCell ⟨g, 5, none⟩ b).setCell ⟨g, 6, none⟩ c) g te #[v0, v1, v2, v3, a, b, c] := blk_set k2 6 c
  exact k3
def MadeFew (sh wi ra ta : Int) (A B C : Option Addr) (n m k c d f : Nat) (w : World) (e : Ending) (w' : World) : Prop :=
  e = .returned (.agg #[.int .i64 sh, .int .i64 wi, .int .i64 ra, .int .i64 ta, .slice A n c, .slice B m d, .slice C k f]) ∧ Below w.heap.size w w'

set_option maxHeartbeats 8000000 in
theorem few_any (sh wi ra ta : Int) (A B C : Option Addr) (n m k c d f : Nat) (w : World) (hn : n ≤ c) (hm : m ≤ d) (hk : k ≤ f) (hc : (c : Int) ≤ 9223372036854775807) (hd : (d : Int) ≤ 9223372036854775807) (hf : (f : Int) ≤ 9223372036854775807) :
    Calls Try.prog 13 #[.agg #[.int .i64 sh, .int .i64 wi, .int .i64 ra, .int .i64 ta, .slice A n c, .slice B m d, .slice C k f]] w (MadeFew sh wi ra ta A B C (cut n 40) (cut m 40) (cut k 20) c d f w) := by
  have en : (if (40 : Int) < (n : Int) then (40 : Int) else (n : Int)) = ((cut n 40 : Nat) : Int) := cut_int
  have em : (if (40 : Int) < (m : Int) then (40 : Int) else (m : Int)) = ((cut m 40 : Nat) : Int) := cut_int
  have ek : (if (20 : Int) < (k : Int) then (20 : Int) else (k : Int)) = ((cut k 20 : Nat) : Int) := cut_int
  have ln := (cut_le (n := n) (m := 40)).1
  have lm := (cut_le (n := m) (m := 40)).1
  have lk := (cut_le (n := k) (m := 20)).1
  generalize cut n 40 = n' at *
  generalize cut m 40 = m' at *
  generalize cut k 20 = k' at *
  have ln2 : (n' : Int) ≤ (c : Int) := by omega
  have lm2 : (m' : Int) ≤ (d : Int) := by omega
  have lk2 : (k' : Int) ≤ (f : Int) := by omega
  have ln3 : (0 : Int) ≤ (n' : Int) := by omega
  have lm3 : (0 : Int) ≤ (m' : Int) := by omega
  have lk3 : (0 : Int) ≤ (k' : Int) := by omega
  have k0 : Blk ((w.alloc (.cells #[.int .i64 sh, .int .i64 wi, .int .i64 ra, .int .i64 ta, .slice A n c, .slice B m d, .slice C k f] 26)).alloc (.cells #[.int .i64 0, .int .i64 0, .int .i64 0, .int .i64 0, .slice none 0 0, .slice none 0 0, .slice none 0 0] 26)) w.heap.size 26 #[.int .i64 sh, .int .i64 wi, .int .i64 ra, .int .i64 ta, .slice A n c, .slice B m d, .slice C k f] := (Blk.fresh w _ _).alloc _
  have kR : Blk ((w.alloc (.cells #[.int .i64 sh, .int .i64 wi, .int .i64 ra, .int .i64 ta, .slice A n c, .slice B m d, .slice C k f] 26)).alloc (.cells #[.int .i64 0, .int .i64 0, .int .i64 0, .int .i64 0, .slice none 0 0, .slice none 0 0, .slice none 0 0] 26)) (w.heap.size + 1) 26 #[.int .i64 0, .int .i64 0, .int .i64 0, .int .i64 0, .slice none 0 0, .slice none 0 0, .slice none 0 0] := by
    have := Blk.fresh (w.alloc (.cells #[.int .i64 sh, .int .i64 wi, .int .i64 ra, .int .i64 ta, .slice A n c, .slice B m d, .slice C k f] 26)) 26 #[.int .i64 0, .int .i64 0, .int .i64 0, .int .i64 0, .slice none 0 0, .slice none 0 0, .slice none 0 0]
    simp only [World.size_alloc] at this
    exact this
  have b0 : Hid (Below w.heap.size w ((w.alloc (.cells #[.int .i64 sh, .int .i64 wi, .int .i64 ra, .int .i64 ta, .slice A n c, .slice B m d, .slice C k f] 26)).alloc (.cells #[.int .i64 0, .int .i64 0, .int .i64 0, .int .i64 0, .slice none 0 0, .slice none 0 0, .slice none 0 0] 26))) := ((Below.refl _ _).alloc (Nat.le_refl _) _).alloc (by simp) _
  go_enter Try.func13, Try.ntmps13
  go_upto_region 1 with fail
  generalize ((w.alloc (.cells #[.int .i64 sh, .int .i64 wi, .int .i64 ra, .int .i64 ta, .slice A n c, .slice B m d, .slice C k f] 26)).alloc (.cells #[.int .i64 0, .int .i64 0, .int .i64 0, .int .i64 0, .slice none 0 0, .slice none 0 0, .slice none 0 0] 26)) = W0 at k0 kR b0 ⊢
  have f4 := k0.cell 4
  have f5 := k0.cell 5
  have f6 := k0.cell 6
  have z4 := k0.thaw 4
  have z5 := k0.thaw 5
  have z6 := k0.thaw 6
  simp only [List.getElem?_toArray, List.getElem?_cons_zero, List.getElem?_cons_succ] at f4 f5 f6
  have K0 := Lib.hid k0
  have R0 := Lib.hid kR
  clear kR
  clear k0
  refine wp_region_noPanic ?_
  refine wp_region_L (T := (fun w' => w'.cell? ⟨w.heap.size, 4, none⟩ = some (.slice A n c) ∧ w'.cell? ⟨w.heap.size, 5, none⟩ = some (.slice B m d) ∧ w'.cell? ⟨w.heap.size, 6, none⟩ = some (.slice C k f))) (st := [22, 24, 26]) (by kernel_rfl) ?_
  have hT : (fun w' => w'.cell? ⟨w.heap.size, 4, none⟩ = some (.slice A n c) ∧ w'.cell? ⟨w.heap.size, 5, none⟩ = some (.slice B m d) ∧ w'.cell? ⟨w.heap.size, 6, none⟩ = some (.slice C k f)) W0.drew := ⟨f4, f5, f6⟩
  have HT := Lib.hid hT
  refine wpL_word (i := 0) (v := ?_) rfl (by kernel_rfl) (fun _ _ _ h => h) (by kernel_rfl) _ _ _ _ (by kernel_rfl) (by kernel_rfl) (Or.inl ⟨by rfl, ?_⟩) (fun _ => HT.out) ?_
  rotate_left
  · intro w' _
    go_simp
    try with_reducible rfl
  try simp only [Act.put, List.setIfInBounds_toArray, List.set_cons_zero, List.set_cons_succ]
  refine wpL_load (i := 1) (v := ?_) rfl (by kernel_rfl) (fun _ _ _ h => h) (by kernel_rfl) (by kernel_rfl) _ _ _ _ (by kernel_rfl) (by kernel_rfl) (Or.inl ⟨by rfl, ?_⟩) (by kernel_rfl) HT.out ?_
  rotate_left
  · intro w' hS
    try dsimp only at hS
    obtain ⟨x4, x5, x6⟩ := hS
    go_simp
    try with_reducible rfl
  try simp only [Act.put, List.setIfInBounds_toArray, List.set_cons_zero, List.set_cons_succ]
  refine wpL_word (i := 2) (v := ?_) rfl (by kernel_rfl) (fun _ _ _ h => h) (by kernel_rfl) _ _ _ _ (by kernel_rfl) (by kernel_rfl) (Or.inl ⟨by rfl, ?_⟩) (fun _ => HT.out) ?_
  rotate_left
  · intro w' _
    go_simp
    try with_reducible rfl
  try simp only [Act.put, List.setIfInBounds_toArray, List.set_cons_zero, List.set_cons_succ]
  refine wpL_load (i := 3) (v := ?_) rfl (by kernel_rfl) (fun _ _ _ h => h) (by kernel_rfl) (by kernel_rfl) _ _ _ _ (by kernel_rfl) (by kernel_rfl) (Or.inl ⟨by rfl, ?_⟩) (by kernel_rfl) HT.out ?_
  rotate_left
  · intro w' hS
    try dsimp only at hS
    obtain ⟨x4, x5, x6⟩ := hS
    go_simp
    try with_reducible rfl
  try simp only [Act.put, List.setIfInBounds_toArray, List.set_cons_zero, List.set_cons_succ]
  refine wpL_word (i := 4) (v := ?_) rfl (by kernel_rfl) (fun _ _ _ h => h) (by kernel_rfl) _ _ _ _ (by kernel_rfl) (by kernel_rfl) (Or.inl ⟨by rfl, ?_⟩) (fun _ => HT.out) ?_
  rotate_left
  · intro w' _
    go_simp
    try with_reducible rfl
  try simp only [Act.put, List.setIfInBounds_toArray, List.set_cons_zero, List.set_cons_succ]
  refine wpL_word (i := 5) (v := ?_) rfl (by kernel_rfl) (fun _ _ _ h => h) (by kernel_rfl) _ _ _ _ (by kernel_rfl) (by kernel_rfl) (Or.inl ⟨by rfl, ?_⟩) (fun _ => HT.out) ?_
  rotate_left
  · intro w' _
    go_simp
    try with_reducible rfl
  try simp only [Act.put, List.setIfInBounds_toArray, List.set_cons_zero, List.set_cons_succ]
  refine wpL_word (i := 6) (v := ?_) rfl (by kernel_rfl) (fun _ _ _ h => h) (by kernel_rfl) _ _ _ _ (by kernel_rfl) (by kernel_rfl) (Or.inl ⟨by rfl, ?_⟩) (fun _ => HT.out) ?_
  rotate_left
  · intro w' _
    go_simp
    try with_reducible rfl
  try simp only [Act.put, List.setIfInBounds_toArray, List.set_cons_zero, List.set_cons_succ]
  refine wpL_word (i := 7) (v := ?_) rfl (by kernel_rfl) (fun _ _ _ h => h) (by kernel_rfl) _ _ _ _ (by kernel_rfl) (by kernel_rfl) (Or.inl ⟨by rfl, ?_⟩) (fun _ => HT.out) ?_
  rotate_left
  · intro w' _
    go_simp
    try with_reducible rfl
  try simp only [Act.put, List.setIfInBounds_toArray, List.set_cons_zero, List.set_cons_succ]
  refine wpL_load (i := 8) (v := ?_) rfl (by kernel_rfl) (fun _ _ _ h => h) (by kernel_rfl) (by kernel_rfl) _ _ _ _ (by kernel_rfl) (by kernel_rfl) (Or.inl ⟨by rfl, ?_⟩) (by kernel_rfl) HT.out ?_
  rotate_left
  · intro w' hS
    try dsimp only at hS
    obtain ⟨x4, x5, x6⟩ := hS
    go_simp
    try with_reducible rfl
  try simp only [Act.put, List.setIfInBounds_toArray, List.set_cons_zero, List.set_cons_succ]
  refine wpL_word (i := 9) (v := ?_) rfl (by kernel_rfl) (fun _ _ _ h => h) (by kernel_rfl) _ _ _ _ (by kernel_rfl) (by kernel_rfl) (Or.inl ⟨by rfl, ?_⟩) (fun _ => HT.out) ?_
  rotate_left
  · intro w' _
    go_simp
    try with_reducible rfl
  try simp only [Act.put, List.setIfInBounds_toArray, List.set_cons_zero, List.set_cons_succ]
  refine wpL_load (i := 10) (v := ?_) rfl (by kernel_rfl) (fun _ _ _ h => h) (by kernel_rfl) (by kernel_rfl) _ _ _ _ (by kernel_rfl) (by kernel_rfl) (Or.inl ⟨by rfl, ?_⟩) (by kernel_rfl) HT.out ?_
  rotate_left
  · intro w' hS
    try dsimp only at hS
    obtain ⟨x4, x5, x6⟩ := hS
    go_simp
    try with_reducible rfl
  try simp only [Act.put, List.setIfInBounds_toArray, List.set_cons_zero, List.set_cons_succ]
  refine wpL_word (i := 11) (v := ?_) rfl (by kernel_rfl) (fun _ _ _ h => h) (by kernel_rfl) _ _ _ _ (by kernel_rfl) (by kernel_rfl) (Or.inl ⟨by rfl, ?_⟩) (fun _ => HT.out) ?_
  rotate_left
  · intro w' _
    go_simp
    try with_reducible rfl
  try simp only [Act.put, List.setIfInBounds_toArray, List.set_cons_zero, List.set_cons_succ]
  refine wpL_word (i := 12) (v := ?_) rfl (by kernel_rfl) (fun _ _ _ h => h) (by kernel_rfl) _ _ _ _ (by kernel_rfl) (by kernel_rfl) (Or.inl ⟨by rfl, ?_⟩) (fun _ => HT.out) ?_
  rotate_left
  · intro w' _
    go_simp
    try with_reducible rfl
  try simp only [Act.put, List.setIfInBounds_toArray, List.set_cons_zero, List.set_cons_succ]
  refine wpL_word (i := 13) (v := ?_) rfl (by kernel_rfl) (fun _ _ _ h => h) (by kernel_rfl) _ _ _ _ (by kernel_rfl) (by kernel_rfl) (Or.inl ⟨by rfl, ?_⟩) (fun _ => HT.out) ?_
  rotate_left
  · intro w' _
    go_simp
    try with_reducible rfl
  try simp only [Act.put, List.setIfInBounds_toArray, List.set_cons_zero, List.set_cons_succ]
  refine wpL_word (i := 14) (v := ?_) rfl (by kernel_rfl) (fun _ _ _ h => h) (by kernel_rfl) _ _ _ _ (by kernel_rfl) (by kernel_rfl) (Or.inl ⟨by rfl, ?_⟩) (fun _ => HT.out) ?_
  rotate_left
  · intro w' _
    go_simp
    try with_reducible rfl
  try simp only [Act.put, List.setIfInBounds_toArray, List.set_cons_zero, List.set_cons_succ]
  refine wpL_load (i := 15) (v := ?_) rfl (by kernel_rfl) (fun _ _ _ h => h) (by kernel_rfl) (by kernel_rfl) _ _ _ _ (by kernel_rfl) (by kernel_rfl) (Or.inl ⟨by rfl, ?_⟩) (by kernel_rfl) HT.out ?_
  rotate_left
  · intro w' hS
    try dsimp only at hS
    obtain ⟨x4, x5, x6⟩ := hS
    go_simp
    try with_reducible rfl
  try simp only [Act.put, List.setIfInBounds_toArray, List.set_cons_zero, List.set_cons_succ]
  refine wpL_word (i := 16) (v := ?_) rfl (by kernel_rfl) (fun _ _ _ h => h) (by kernel_rfl) _ _ _ _ (by kernel_rfl) (by kernel_rfl) (Or.inl ⟨by rfl, ?_⟩) (fun _ => HT.out) ?_
  rotate_left
  · intro w' _
    go_simp
    try with_reducible rfl
  try simp only [Act.put, List.setIfInBounds_toArray, List.set_cons_zero, List.set_cons_succ]
  refine wpL_load (i := 17) (v := ?_) rfl (by kernel_rfl) (fun _ _ _ h => h) (by kernel_rfl) (by kernel_rfl) _ _ _ _ (by kernel_rfl) (by kernel_rfl) (Or.inl ⟨by rfl, ?_⟩) (by kernel_rfl) HT.out ?_
  rotate_left
  · intro w' hS
    try dsimp only at hS
    obtain ⟨x4, x5, x6⟩ := hS
    go_simp
    try with_reducible rfl
  try simp only [Act.put, List.setIfInBounds_toArray, List.set_cons_zero, List.set_cons_succ]
  refine wpL_word (i := 18) (v := ?_) rfl (by kernel_rfl) (fun _ _ _ h => h) (by kernel_rfl) _ _ _ _ (by kernel_rfl) (by kernel_rfl) (Or.inl ⟨by rfl, ?_⟩) (fun _ => HT.out) ?_
  rotate_left
  · intro w' _
    go_simp
    try with_reducible rfl
  try simp only [Act.put, List.setIfInBounds_toArray, List.set_cons_zero, List.set_cons_succ]
  refine wpL_word (i := 19) (v := ?_) rfl (by kernel_rfl) (fun _ _ _ h => h) (by kernel_rfl) _ _ _ _ (by kernel_rfl) (by kernel_rfl) (Or.inl ⟨by rfl, ?_⟩) (fun _ => HT.out) ?_
  rotate_left
  · intro w' _
    go_simp
    try with_reducible rfl
  try simp only [Act.put, List.setIfInBounds_toArray, List.set_cons_zero, List.set_cons_succ]
  refine wpL_word (i := 20) (v := ?_) rfl (by kernel_rfl) (fun _ _ _ h => h) (by kernel_rfl) _ _ _ _ (by kernel_rfl) (by kernel_rfl) (Or.inl ⟨by rfl, ?_⟩) (fun _ => HT.out) ?_
  rotate_left
  · intro w' _
    go_simp
    try with_reducible rfl
  try simp only [Act.put, List.setIfInBounds_toArray, List.set_cons_zero, List.set_cons_succ]
  refine wpL_word (i := 21) (v := ?_) rfl (by kernel_rfl) (fun _ _ _ h => h) (by kernel_rfl) _ _ _ _ (by kernel_rfl) (by kernel_rfl) (Or.inl ⟨by rfl, ?_⟩) (fun _ => HT.out) ?_
  rotate_left
  · intro w' _
    go_simp
    try with_reducible rfl
  try simp only [Act.put, List.setIfInBounds_toArray, List.set_cons_zero, List.set_cons_succ]
  refine wpL_late (n := 22) (by kernel_rfl) rfl (by kernel_rfl) (fun K hK => ?_)
  go_simp
  refine hK.out _ _ ?_
  clear hK K
  try simp only [Act.put, List.setIfInBounds_toArray, List.set_cons_zero, List.set_cons_succ]
  refine wpL_word (i := 23) (v := ?_) rfl (by kernel_rfl) (fun _ _ _ h => h) (by kernel_rfl) _ _ _ _ (by kernel_rfl) (by kernel_rfl) (Or.inl ⟨by rfl, ?_⟩) (fun h => absurd h (by rw [Bool.not_eq_true]; kernel_rfl)) ?_
  rotate_left
  · intro w' _
    go_simp
    try with_reducible rfl
  try simp only [Act.put, List.setIfInBounds_toArray, List.set_cons_zero, List.set_cons_succ]
  refine wpL_late (n := 24) (by kernel_rfl) rfl (by kernel_rfl) (fun K hK => ?_)
  go_simp
  refine hK.out _ _ ?_
  clear hK K
  try simp only [Act.put, List.setIfInBounds_toArray, List.set_cons_zero, List.set_cons_succ]
  refine wpL_word (i := 25) (v := ?_) rfl (by kernel_rfl) (fun _ _ _ h => h) (by kernel_rfl) _ _ _ _ (by kernel_rfl) (by kernel_rfl) (Or.inl ⟨by rfl, ?_⟩) (fun h => absurd h (by rw [Bool.not_eq_true]; kernel_rfl)) ?_
  rotate_left
  · intro w' _
    go_simp
    try with_reducible rfl
  try simp only [Act.put, List.setIfInBounds_toArray, List.set_cons_zero, List.set_cons_succ]
  refine wpL_late (n := 26) (by kernel_rfl) rfl (by kernel_rfl) (fun K hK => ?_)
  go_simp
  refine hK.out _ _ ?_
  clear hK K
  try simp only [Act.put, List.setIfInBounds_toArray, List.set_cons_zero, List.set_cons_succ]
  refine wpL_done (by kernel_rfl) ?_ _
  refine NoPanic.normal ?_
  have k1 : Hid (Blk (((W0.setCell ⟨w.heap.size, 4, none⟩ (.slice A n' c)).setCell ⟨w.heap.size, 5, none⟩ (.slice B m' d)).setCell ⟨w.heap.size, 6, none⟩ (.slice C k' f)).drew w.heap.size 26 #[.int .i64 sh, .int .i64 wi, .int .i64 ra, .int .i64 ta, .slice A n' c, .slice B m' d, .slice C k' f]) := blk3 K0.out
  have k2 : Hid (Blk (((W0.setCell ⟨w.heap.size, 4, none⟩ (.slice A n' c)).setCell ⟨w.heap.size, 5, none⟩ (.slice B m' d)).setCell ⟨w.heap.size, 6, none⟩ (.slice C k' f)).drew (w.heap.size + 1) 26 #[.int .i64 0, .int .i64 0, .int .i64 0, .int .i64 0, .slice none 0 0, .slice none 0 0, .slice none 0 0]) := blk_far (blk_far (blk_far R0.out (by simp) _) (by simp) _) (by simp) _
  have b1 : Hid (Below w.heap.size w (((W0.setCell ⟨w.heap.size, 4, none⟩ (.slice A n' c)).setCell ⟨w.heap.size, 5, none⟩ (.slice B m' d)).setCell ⟨w.heap.size, 6, none⟩ (.slice C k' f)).drew) := (((b0.out.setCell (p := ⟨w.heap.size, 4, none⟩) (Nat.le_refl _) _).setCell (p := ⟨w.heap.size, 5, none⟩) (Nat.le_refl _) _).setCell (p := ⟨w.heap.size, 6, none⟩) (Nat.le_refl _) _).drew
  clear hT HT f4 f5 f6 z4 z5 z6
  generalize (((W0.setCell ⟨w.heap.size, 4, none⟩ (.slice A n' c)).setCell ⟨w.heap.size, 5, none⟩ (.slice B m' d)).setCell ⟨w.heap.size, 6, none⟩ (.slice C k' f)).drew = W1 at k1 k2 b1 ⊢
  have e0 := k1.out.cell 0
  have e1 := k1.out.cell 1
  have e2 := k1.out.cell 2
  have e3 := k1.out.cell 3
  have e4 := k1.out.cell 4
  have e5 := k1.out.cell 5
  have e6 := k1.out.cell 6
  have r0 := k2.out.cell 0
  have r1 := k2.out.cell 1
  have r2 := k2.out.cell 2
  have r3 := k2.out.cell 3
  have r4 := k2.out.cell 4
  have r5 := k2.out.cell 5
  have r6 := k2.out.cell 6
  have y0 := k2.out.thaw 0
  have y1 := k2.out.thaw 1
  have y2 := k2.out.thaw 2
  have y3 := k2.out.thaw 3
  have y4 := k2.out.thaw 4
  have y5 := k2.out.thaw 5
  have y6 := k2.out.thaw 6
  simp only [List.getElem?_toArray, List.getElem?_cons_zero, List.getElem?_cons_succ] at e0 e1 e2 e3 e4 e5 e6 r0 r1 r2 r3 r4 r5 r6
  obtain ⟨c0, c1, c2, c3, c4, c5, c6⟩ := st7_cells (a := .int .i64 sh) (b := .int .i64 wi) (c := .int .i64 ra) (d := .int .i64 ta) (e := .slice A n' c) (f := .slice B m' d) (h := .slice C k' f) k2.out
  have bF : Hid (Below w.heap.size w (st7 W1 (w.heap.size + 1) (.int .i64 sh) (.int .i64 wi) (.int .i64 ra) (.int .i64 ta) (.slice A n' c) (.slice B m' d) (.slice C k' f))) := st7_below b1.out (by omega)
  clear k1 k2 b0 b1 K0 R0
  go_wp2_with fail
  unfold st7 at c0 c1 c2 c3 c4 c5 c6 bF
  exact bodyPost_ret (v := .agg #[.int .i64 sh, .int .i64 wi, .int .i64 ra, .int .i64 ta, .slice A n' c, .slice B m' d, .slice C k' f]) (by simp [results, Try.results13, go_sem, c0, c1, c2, c3, c4, c5, c6]) rfl ⟨rfl, bF.out⟩
end Go.Proofs.Ytecjecgkioklaaa.Rul4
