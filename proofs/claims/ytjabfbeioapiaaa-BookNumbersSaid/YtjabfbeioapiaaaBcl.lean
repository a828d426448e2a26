/- Contracts of slices.Clone and slices.Delete at book's rows, entries and numbers: memory of the call's own. Condition: what is cloned lies in memory and is not long; what is deleted in is a row of the caller's own. -/
import Derived.Test.YtjabfbeioapiaaaDlk
import Derived.Test.YtjabfbeioapiaaaCrd
import Derived.Deep.MidRow
namespace Go.Proofs.Ytjabfbeioapiaaa.Bcl
set_option maxRecDepth 100000
open Go.ChangeShapes Go.WideShapes Go.ChangeAt Go.RowKit Mem Tre Ref3 Law3 Crd Bkp Dlk
set_option linter.unusedVariables false
theorem ints_len1 (l : List Int) : (ints l).length = l.length * 1 := by rw [ints_len]; omega
/-- a row of the caller's own made at or behind block base -/
def MadeOw (te : TypeId) (size : Nat) (n : Nat) (xs : List Value) (w : World) (e : Ending) (w' : World) : Prop :=
  ∃ A c, e = .returned (.slice A n c) ∧ w'.ownsRow w.heap.size te size (.slice A n c) n xs ∧ Below w.heap.size w w'
theorem infoR : (Try.prog.info? 68).map (fun i => (i.zero, i.size, i.bytes)) = some (some (.agg #[.slice none 0 0, .int .i64 0, .int .i64 0]), 3, 40) := by kernel_rfl
set_option maxHeartbeats 1000000 in
theorem cloneR (A : Option Addr) (n c : Nat) (l : List Rc) (w : World) (hn : Hid (n = l.length)) (hl : Hid (Rd w w.heap.size A (rcs l))) (hmax : (n : Int) ≤ 1000000) :
    Calls Try.prog 30 #[.slice A n c] w (MadeOw 68 3 n (rcs l) w) := by
  obtain ⟨i0, hi, hz0, hz1, hz2⟩ := info_parts infoR
  have hq := fun (W : World) (n c : Nat) => Lib.run_eql_slice_nil (P := Try.prog) W 34 68 A n c 0 0 Try.underlying34
  have hln : Hid ((rcs l).length = n * 3) := by show _ = _; rw [hn.out]; exact rcs_len l
  cases A with
  | none =>
    have hl0 : rcs l = [] := by
      rcases hl.out with h | ⟨b, o, h, _⟩
      · exact h
      · cases h
    have hn0 : n = 0 := by have := hln.out; rw [hl0] at this; simp at this; omega
    have HL := Lib.hid hl0
    clear hn hln hl0
    subst hn0
    go_enter Try.func30, Try.ntmps30
    go_wp2_with fail
    go_ret
    rw [HL.out]
    exact ⟨none, 0, rfl, World.ownsRow_nil _ _ _ _, Below.refl _ _⟩
  | some ad =>
    have hl1 : Hid (Rd (w.alloc (.cells #[] 68)) w.heap.size (some ad) (rcs l)) := Rd.below hl.out ((Below.refl _ _).alloc (Nat.le_refl _) _)
    have how : Hid ((w.alloc (.cells #[] 68)).ownsRow w.heap.size 68 3 (.slice (some ⟨w.heap.size, 0, none⟩) 0 0) 0 []) := own_empty (Blk.fresh w _ _) (Nat.le_refl _)
    have hb0 : Below w.heap.size w (w.alloc (.cells #[] 68)) := (Below.refl _ _).alloc (Nat.le_refl _) _
    go_enter Try.func30, Try.ntmps30
    go_wp2_with (at_builtin; go_loud (refine wpList_appR (nm := n) how hb0 hl1 (by simp) rfl _ _ _ rfl i0 (.agg #[.slice none 0 0, .int .i64 0, .int .i64 0]) 40 Try.underlying34 hi hz0 hz1 hz2 rfl (by decide) rfl rfl hln.out (rcs_one l) (by unfold maxLen; omega) (by omega) (Nat.le_refl _) (by simp) (by simp) ?_); intro A1 c1 w1 hown1 hbel1 hsz1)
    go_ret
    exact ⟨A1, c1, rfl, hown1, hbel1⟩
theorem infoE : (Try.prog.info? 58).map (fun i => (i.zero, i.size, i.bytes)) = some (some (.agg #[.int .i64 0, .int .i64 0, .int .i64 0, .bool false, .int .i64 0, .int .i64 0, .int .i64 0, .int .i64 0, .int .i64 0, .int .i64 0, .int .i64 0]), 11, 88) := by kernel_rfl
set_option maxHeartbeats 1000000 in
theorem cloneE (A : Option Addr) (n c : Nat) (l : List En) (w : World) (hn : Hid (n = l.length)) (hl : Hid (Rd w w.heap.size A (ens l))) (hmax : (n : Int) ≤ 1000000) :
    Calls Try.prog 29 #[.slice A n c] w (MadeOw 58 11 n (ens l) w) := by
  obtain ⟨i0, hi, hz0, hz1, hz2⟩ := info_parts infoE
  have hq := fun (W : World) (n c : Nat) => Lib.run_eql_slice_nil (P := Try.prog) W 35 58 A n c 0 0 Try.underlying35
  have hln : Hid ((ens l).length = n * 11) := by show _ = _; rw [hn.out]; exact ens_len l
  cases A with
  | none =>
    have hl0 : ens l = [] := by
      rcases hl.out with h | ⟨b, o, h, _⟩
      · exact h
      · cases h
    have hn0 : n = 0 := by have := hln.out; rw [hl0] at this; simp at this; omega
    have HL := Lib.hid hl0
    clear hn hln hl0
    subst hn0
    go_enter Try.func29, Try.ntmps29
    go_wp2_with fail
    go_ret
    rw [HL.out]
    exact ⟨none, 0, rfl, World.ownsRow_nil _ _ _ _, Below.refl _ _⟩
  | some ad =>
    have hl1 : Hid (Rd (w.alloc (.cells #[] 58)) w.heap.size (some ad) (ens l)) := Rd.below hl.out ((Below.refl _ _).alloc (Nat.le_refl _) _)
    have how : Hid ((w.alloc (.cells #[] 58)).ownsRow w.heap.size 58 11 (.slice (some ⟨w.heap.size, 0, none⟩) 0 0) 0 []) := own_empty (Blk.fresh w _ _) (Nat.le_refl _)
    have hb0 : Below w.heap.size w (w.alloc (.cells #[] 58)) := (Below.refl _ _).alloc (Nat.le_refl _) _
    go_enter Try.func29, Try.ntmps29
    go_wp2_with (at_builtin; go_loud (refine wpList_appR (nm := n) how hb0 hl1 (by simp) rfl _ _ _ rfl i0 (.agg #[.int .i64 0, .int .i64 0, .int .i64 0, .bool false, .int .i64 0, .int .i64 0, .int .i64 0, .int .i64 0, .int .i64 0, .int .i64 0, .int .i64 0]) 88 Try.underlying35 hi hz0 hz1 hz2 rfl (by decide) rfl rfl hln.out (ens_one l) (by unfold maxLen; omega) (by omega) (Nat.le_refl _) (by simp) (by simp) ?_); intro A1 c1 w1 hown1 hbel1 hsz1)
    go_ret
    exact ⟨A1, c1, rfl, hown1, hbel1⟩
theorem infoI : (Try.prog.info? 2).map (fun i => (i.zero, i.size, i.bytes)) = some (some (.int .i64 0), 1, 8) := by kernel_rfl
set_option maxHeartbeats 1000000 in
theorem cloneI (A : Option Addr) (n c : Nat) (l : List Int) (w : World) (hn : Hid (n = l.length)) (hl : Hid (Rd w w.heap.size A (ints l))) (hmax : (n : Int) ≤ 1000000) :
    Calls Try.prog 31 #[.slice A n c] w (MadeOw 2 1 n (ints l) w) := by
  obtain ⟨i0, hi, hz0, hz1, hz2⟩ := info_parts infoI
  have hq := fun (W : World) (n c : Nat) => Lib.run_eql_slice_nil (P := Try.prog) W 22 2 A n c 0 0 Try.underlying22
  have hln : Hid ((ints l).length = n * 1) := by show _ = _; rw [hn.out]; exact ints_len1 l
  cases A with
  | none =>
    have hl0 : ints l = [] := by
      rcases hl.out with h | ⟨b, o, h, _⟩
      · exact h
      · cases h
    have hn0 : n = 0 := by have := hln.out; rw [hl0] at this; simp at this; omega
    have HL := Lib.hid hl0
    clear hn hln hl0
    subst hn0
    go_enter Try.func31, Try.ntmps31
    go_wp2_with fail
    go_ret
    rw [HL.out]
    exact ⟨none, 0, rfl, World.ownsRow_nil _ _ _ _, Below.refl _ _⟩
  | some ad =>
    have hl1 : Hid (Rd (w.alloc (.cells #[] 2)) w.heap.size (some ad) (ints l)) := Rd.below hl.out ((Below.refl _ _).alloc (Nat.le_refl _) _)
    have how : Hid ((w.alloc (.cells #[] 2)).ownsRow w.heap.size 2 1 (.slice (some ⟨w.heap.size, 0, none⟩) 0 0) 0 []) := own_empty (Blk.fresh w _ _) (Nat.le_refl _)
    have hb0 : Below w.heap.size w (w.alloc (.cells #[] 2)) := (Below.refl _ _).alloc (Nat.le_refl _) _
    go_enter Try.func31, Try.ntmps31
    go_wp2_with (at_builtin; go_loud (refine wpList_appR (nm := n) how hb0 hl1 (by simp) rfl _ _ _ rfl i0 (.int .i64 0) 8 Try.underlying22 hi hz0 hz1 hz2 rfl (by decide) rfl rfl hln.out (ints_one l) (by unfold maxLen; omega) (by omega) (Nat.le_refl _) (by simp) (by simp) ?_); intro A1 c1 w1 hown1 hbel1 hsz1)
    go_ret
    exact ⟨A1, c1, rfl, hown1, hbel1⟩
set_option maxHeartbeats 4000000 in
theorem deleteI (g n cap i j : Nat) (xs : List Value) (base : Nat) (w : World) (how : Hid (w.ownsRow base 2 1 (.slice (some ⟨g, 0, none⟩) n cap) n xs)) (h1c : Hid (∀ u ∈ xs, u.oneCell' = true)) (hij : i < j) (hj : j ≤ n) (hcap : (cap : Int) ≤ 9223372036854775807) :
    Calls Try.prog 32 #[.slice (some ⟨g, 0, none⟩) n cap, .int .i64 i, .int .i64 j] w (fun e w' => e = .returned (.slice (some ⟨g, 0, none⟩) (i + (n - j)) cap) ∧ Rd w' w'.heap.size (some ⟨g, 0, none⟩) (xs.take (i * 1) ++ xs.drop (j * 1)) ∧ w.grownBy w' (some g)) := by
  obtain ⟨i0, hi, hz0, hz1, hz2⟩ := info_parts infoI
  obtain ⟨hb, hlt, hnc, hcm, hroom, hcell⟩ := own_room how.out
  have hxl : Hid (xs.length = n * 1) := how.out.1
  obtain ⟨news, hnews⟩ : ∃ news, news = xs.drop (j * 1) := ⟨_, rfl⟩
  have hlen : Hid (news.length = (n - j) * 1) := by show _ = _; rw [hnews, List.length_drop, hxl.out]; omega
  obtain ⟨A, hA, hsrc⟩ : ∃ A : Addr, (if cap = j then some (⟨g, 0, none⟩ : Addr) else some ⟨g, j, none⟩) = some A ∧ Hid (∀ t u, news[t]? = some u → w.drew.cell? (A.add t) = some u) := by
    by_cases h : cap = j
    · refine ⟨⟨g, 0, none⟩, by simp [h], fun t u hu => ?_⟩
      have h0 : news.length = 0 := by rw [hlen.out]; omega
      rw [List.length_eq_zero_iff.1 h0] at hu
      simp at hu
    · refine ⟨⟨g, j, none⟩, by simp [h], fun t u hu => ?_⟩
      rw [hnews, List.getElem?_drop] at hu
      rw [Addr.add_lit]
      exact hcell _ u (by first | exact hu | simpa using hu)
  have s2 : Hid (∀ u ∈ news, u.oneCell' = true) := by
    intro u hu
    rw [hnews] at hu
    exact h1c.out u (List.mem_of_mem_drop hu)
  have s3 : Hid (∀ t, t < news.length → (w.drew.cell? ⟨g, 0 + i * 1 + t, none⟩).isSome = true ∧ w.drew.frozen? ⟨g, 0 + i * 1 + t, none⟩ = false) := by
    intro t ht
    rw [hlen.out] at ht
    rw [Nat.zero_add]
    exact hroom (i * 1 + t) (by omega)
  obtain ⟨W1, hW1⟩ : ∃ W1, W1 = w.drew.setCells g (0 + i * 1) news := ⟨_, rfl⟩
  have gr1 : w.grownBy W1 (some g) := by rw [hW1]; exact grown_setCells (grown_drew (grown_refl w _)) _ _
  have hroom1 : ∀ t, t < cap * 1 → (W1.cell? ⟨g, t, none⟩).isSome = true ∧ W1.frozen? ⟨g, t, none⟩ = false := by
    intro t ht
    rw [hW1]
    exact ⟨World.isSome_setCells g _ _ _ _ (hroom t ht).1, by rw [World.frozen?_setCells]; exact (hroom t ht).2⟩
  obtain ⟨zs, hzs⟩ : ∃ zs, zs = (Builtin.zeroCells (Value.cells (.int .i64 0)) (n - (i + (n - j)))).toList := ⟨_, rfl⟩
  have hcl : ∀ ty, (Builtin.clear_ #[22] ty #[.slice (some ⟨g, (i + (n - j)), none⟩) (n - (i + (n - j))) (cap - (i + (n - j)))]).run Try.prog W1 = .ok (.tuple #[]) (W1.setCells g (i + (n - j)) zs) := by
    intro ty
    rw [hzs]
    exact run_clear_any W1 _ _ ty _ Try.underlying22 Try.zeroValue2 1 rfl (by decide) (by simp [Value.cells, Value.oneCell']) g _ _ _ (by omega) (fun t ht => (hroom1 ((i + (n - j)) + t) (by omega)).1) (fun t ht => (hroom1 ((i + (n - j)) + t) (by omega)).2)
  have hfin : Hid (Rd (W1.setCells g (i + (n - j)) zs) (W1.setCells g (i + (n - j)) zs).heap.size (some ⟨g, 0, none⟩) (xs.take (i * 1) ++ xs.drop (j * 1)) ∧ w.grownBy (W1.setCells g (i + (n - j)) zs) (some g)) := by
    refine ⟨?_, grown_setCells gr1 _ _⟩
    rw [hW1, hnews, Nat.zero_add]
    have h9 := del_reads (i := i) (j := j) how.out (by omega) hj zs; simpa only [Nat.mul_one] using h9
  have hW : Hid (W1 = w.drew.setCells g (0 + i * 1) news) := hW1
  have hic : i ≤ cap := by omega
  have hjc : j ≤ cap := by omega
  have hne : i ≠ j := by omega
  clear hW1 hroom hroom1 gr1 hcell hnews hzs how h1c
  go_enter Try.func32, Try.ntmps32
  go_wp2_with fail
  go_region_law (refine step_append_room rfl (.tmp 22) (.tmp 25) 22 rfl 2 i0 1 Try.underlying22 hi hz1 g 0 i cap (by simp [Act.eval, Act.put]) A (n - j) (cap - j) news (by simp [Act.eval, Act.put]) hlen.out hsrc.out s2.out (by omega) s3.out ?_; rw [← hW.out])
  go_wp2_with fail
  go_ret
  exact ⟨rfl, hfin.out⟩
set_option maxHeartbeats 4000000 in
theorem deleteE (g n cap i j : Nat) (xs : List Value) (base : Nat) (w : World) (how : Hid (w.ownsRow base 58 11 (.slice (some ⟨g, 0, none⟩) n cap) n xs)) (h1c : Hid (∀ u ∈ xs, u.oneCell' = true)) (hij : i < j) (hj : j ≤ n) (hcap : (cap : Int) ≤ 9223372036854775807) :
    Calls Try.prog 33 #[.slice (some ⟨g, 0, none⟩) n cap, .int .i64 i, .int .i64 j] w (fun e w' => e = .returned (.slice (some ⟨g, 0, none⟩) (i + (n - j)) cap) ∧ Rd w' w'.heap.size (some ⟨g, 0, none⟩) (xs.take (i * 11) ++ xs.drop (j * 11)) ∧ w.grownBy w' (some g)) := by
  obtain ⟨i0, hi, hz0, hz1, hz2⟩ := info_parts infoE
  obtain ⟨hb, hlt, hnc, hcm, hroom, hcell⟩ := own_room how.out
  have hxl : Hid (xs.length = n * 11) := how.out.1
  obtain ⟨news, hnews⟩ : ∃ news, news = xs.drop (j * 11) := ⟨_, rfl⟩
  have hlen : Hid (news.length = (n - j) * 11) := by show _ = _; rw [hnews, List.length_drop, hxl.out]; omega
  obtain ⟨A, hA, hsrc⟩ : ∃ A : Addr, (if cap = j then some (⟨g, 0, none⟩ : Addr) else some ⟨g, j * 11, none⟩) = some A ∧ Hid (∀ t u, news[t]? = some u → w.drew.cell? (A.add t) = some u) := by
    by_cases h : cap = j
    · refine ⟨⟨g, 0, none⟩, by simp [h], fun t u hu => ?_⟩
      have h0 : news.length = 0 := by rw [hlen.out]; omega
      rw [List.length_eq_zero_iff.1 h0] at hu
      simp at hu
    · refine ⟨⟨g, j * 11, none⟩, by simp [h], fun t u hu => ?_⟩
      rw [hnews, List.getElem?_drop] at hu
      rw [Addr.add_lit]
      exact hcell _ u (by first | exact hu | simpa using hu)
  have s2 : Hid (∀ u ∈ news, u.oneCell' = true) := by
    intro u hu
    rw [hnews] at hu
    exact h1c.out u (List.mem_of_mem_drop hu)
  have s3 : Hid (∀ t, t < news.length → (w.drew.cell? ⟨g, 0 + i * 11 + t, none⟩).isSome = true ∧ w.drew.frozen? ⟨g, 0 + i * 11 + t, none⟩ = false) := by
    intro t ht
    rw [hlen.out] at ht
    rw [Nat.zero_add]
    exact hroom (i * 11 + t) (by omega)
  obtain ⟨W1, hW1⟩ : ∃ W1, W1 = w.drew.setCells g (0 + i * 11) news := ⟨_, rfl⟩
  have gr1 : w.grownBy W1 (some g) := by rw [hW1]; exact grown_setCells (grown_drew (grown_refl w _)) _ _
  have hroom1 : ∀ t, t < cap * 11 → (W1.cell? ⟨g, t, none⟩).isSome = true ∧ W1.frozen? ⟨g, t, none⟩ = false := by
    intro t ht
    rw [hW1]
    exact ⟨World.isSome_setCells g _ _ _ _ (hroom t ht).1, by rw [World.frozen?_setCells]; exact (hroom t ht).2⟩
  obtain ⟨zs, hzs⟩ : ∃ zs, zs = (Builtin.zeroCells (Value.cells (.agg #[.int .i64 0, .int .i64 0, .int .i64 0, .bool false, .int .i64 0, .int .i64 0, .int .i64 0, .int .i64 0, .int .i64 0, .int .i64 0, .int .i64 0])) (n - (i + (n - j)))).toList := ⟨_, rfl⟩
  have hcl : ∀ ty, (Builtin.clear_ #[35] ty #[.slice (some ⟨g, ((i + (n - j)) * 11), none⟩) (n - (i + (n - j))) (cap - (i + (n - j)))]).run Try.prog W1 = .ok (.tuple #[]) (W1.setCells g ((i + (n - j)) * 11) zs) := by
    intro ty
    rw [hzs]
    exact run_clear_any W1 _ _ ty _ Try.underlying35 Try.zeroValue58 11 rfl (by decide) (by simp [Value.cells, Value.oneCell']) g _ _ _ (by omega) (fun t ht => (hroom1 (((i + (n - j)) * 11) + t) (by omega)).1) (fun t ht => (hroom1 (((i + (n - j)) * 11) + t) (by omega)).2)
  have hfin : Hid (Rd (W1.setCells g ((i + (n - j)) * 11) zs) (W1.setCells g ((i + (n - j)) * 11) zs).heap.size (some ⟨g, 0, none⟩) (xs.take (i * 11) ++ xs.drop (j * 11)) ∧ w.grownBy (W1.setCells g ((i + (n - j)) * 11) zs) (some g)) := by
    refine ⟨?_, grown_setCells gr1 _ _⟩
    rw [hW1, hnews, Nat.zero_add]
    exact del_reads (i := i) (j := j) how.out (by omega) hj zs
  have hW : Hid (W1 = w.drew.setCells g (0 + i * 11) news) := hW1
  have hic : i ≤ cap := by omega
  have hjc : j ≤ cap := by omega
  have hne : i ≠ j := by omega
  clear hW1 hroom hroom1 gr1 hcell hnews hzs how h1c
  go_enter Try.func33, Try.ntmps33
  go_wp2_with fail
  go_region_law (refine step_append_room rfl (.tmp 22) (.tmp 25) 35 rfl 58 i0 11 Try.underlying35 hi hz1 g 0 i cap (by simp [Act.eval, Act.put]) A (n - j) (cap - j) news (by simp [Act.eval, Act.put]) hlen.out hsrc.out s2.out (by omega) s3.out ?_; rw [← hW.out])
  go_wp2_with fail
  go_ret
  exact ⟨rfl, hfin.out⟩
end Go.Proofs.Ytjabfbeioapiaaa.Bcl
