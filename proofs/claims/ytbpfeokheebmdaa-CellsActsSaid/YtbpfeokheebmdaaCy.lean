/- slices.Repeat of a list of one number, as package cells calls it: so many of it, in a block of its own. Condition: at most 65536. -/
import Derived.Test.YtbpfeokheebmdaaCx
import Derived.Deep.OwnRows
namespace Go.Proofs.Ytbpfeokheebmdaa.Cy
set_option maxRecDepth 100000
open Go.ChangeShapes Go.WideShapes Go.ChangeAt Go.RowKit Mem Cel Cm Cn Cx
set_option linter.unusedVariables false

theorem int_info : (Try.prog.info? 3).map (fun i => (i.zero, i.size, i.bytes)) = some (some (.int .i64 0), 1, 8) := by kernel_rfl
theorem i64_info : (Try.prog.info? 2).map (fun i => (i.zero, i.size, i.bytes)) = some (some (.int .i64 0), 1, 8) := by kernel_rfl
theorem int_size : (Try.prog.info? 3).map (·.size) = some 1 := by kernel_rfl
theorem made0 (n : Nat) : madeCells #[.int .i64 0] n = (ints (List.replicate n 0)).toArray := by
  apply Array.ext
  · simp [madeCells, ints]
  · intro i h1 h2
    simp [madeCells, ints, Nat.mod_one]
/-- k of them, and zeros behind -/
def half (n k : Nat) (y : Int) : List Int := List.replicate k y ++ List.replicate (n - k) 0
theorem half0 (n : Nat) (y : Int) : half n 0 y = List.replicate n 0 := by simp [half]
theorem halfn (n : Nat) (y : Int) : half n n y = List.replicate n y := by simp [half]
theorem half_len (n k : Nat) (y : Int) (h : k ≤ n) : (half n k y).length = n := by simp [half]; omega
theorem half_get (n k : Nat) (y : Int) {j : Nat} (h : j < k) : gI (half n k y) j = y := by simp [half, gI, h, List.getElem?_append]
theorem half_splice (n k m : Nat) (y : Int) (h : k + m ≤ n) : splice (ints (half n k y)) k (ints (List.replicate m y)) = ints (half n (k + m) y) := by
  unfold splice
  simp only [half, ints, List.map_append, List.map_replicate, List.length_replicate]
  rw [List.take_append_of_le_length (by simp), List.take_of_length_le (by simp), List.drop_append]
  simp
  rw [show n - (k + m) = n - k - m by omega, ← List.append_assoc, List.replicate_append_replicate]
/-- a block of so many numbers -/
def MadeRow (xs : List Int) (te : TypeId) (w : World) (e : Ending) (w' : World) : Prop :=
  ∃ gN, e = .returned (.slice (some ⟨gN, 0, none⟩) xs.length xs.length) ∧ Blk w' gN te (ints xs).toArray ∧ w.heap.size ≤ gN ∧ Below w.heap.size w w'
theorem madeRow_mk {xs : List Int} {n gN : Nat} {te : TypeId} {w w' : World} (hn : n = xs.length) (h : Blk w' gN te (ints xs).toArray) (hg : w.heap.size ≤ gN) (hb : Below w.heap.size w w') : MadeRow xs te w (.returned (.slice (some ⟨gN, 0, none⟩) n n)) w' := by
  subst hn; exact ⟨gN, rfl, h, hg, hb⟩

def SrcOk (w : World) (g : Nat) (cs : List Value) : Prop := ∀ j v, cs[j]? = some v → w.cell? ((⟨g, 0, none⟩ : Addr).add j) = some v
set_option maxHeartbeats 4000000 in
theorem repeat_any (gx : Nat) (y : Int) (n : Nat) (w : World) (hn : n ≤ 65536) (hx : w.cell? ⟨gx, 0, none⟩ = some (.int .i64 y)) (hgx : gx < w.heap.size) :
    Calls Try.prog 20 #[.slice (some ⟨gx, 0, none⟩) 1 1, .int .i64 n] w (MadeRow (List.replicate n y) 3 w) := by
  have u1 : IntKind.u64.wrap (n : Int) = (n : Int) := wrapU n (by omega)
  have u2 : wrap64 (n : Int) = (n : Int) := by unfold wrap64; omega
  have u3 : IntKind.u64.wrap 1 = 1 := by kernel_rfl
  have hmk : ∀ wx, (Instr.makeSlice 38 (.int .i64 (n : Int)) (.int .i64 (n : Int))).run Try.prog wx = .ok (.slice (some ⟨wx.heap.size, 0, none⟩) n n) (wx.alloc (.cells (madeCells #[.int .i64 0] n) 3)) := fun wx =>
    Go.run_make_row' 38 3 (.int .i64 0) 8 Try.underlying38 int_info rfl .i64 .i64 n (by omega) (by omega) wx
  go_enter Try.func20, Try.ntmps20
  go_upto_region 7 with (go_at_call 25; refine (mul_1 n (by omega) _).mono ?_; rintro e w9 ⟨rfl, rfl⟩)
  have hk0 : Hid ((w.alloc (.cells (madeCells #[.int .i64 0] n) 3)).heap[w.heap.size]? = some (.cells (ints (half n 0 y)).toArray 3 (0, 0))) := by
    show _ = _
    rw [heap_alloc_new, made0, half0]
  have hb0 : Below w.heap.size w (w.alloc (.cells (madeCells #[.int .i64 0] n) 3)) := (Below.refl _ _).alloc (Nat.le_refl _) _
  have hx0 : (w.alloc (.cells (madeCells #[.int .i64 0] n) 3)).cell? ⟨gx, 0, none⟩ = some (.int .i64 y) := (hb0.cell (p := ⟨gx, 0, none⟩) hgx).trans hx
  generalize (w.alloc (.cells (madeCells #[.int .i64 0] n) 3)) = wA at hk0 hb0 hx0 ⊢
  obtain ⟨m, hm⟩ : ∃ m, m = Nat.min 1 n := ⟨_, rfl⟩
  have hm1 : m ≤ 1 := by rw [hm]; exact Nat.min_le_left _ _
  have hmn : m ≤ n := by rw [hm]; exact Nat.min_le_right _ _
  have hm0 : n = 0 ∨ 0 < m := by rw [hm]; rcases Nat.eq_zero_or_pos n with h | h; exact .inl h; right; exact Nat.lt_min.2 ⟨by omega, h⟩
  have hcs : (ints (List.replicate m y)).length = Nat.min 1 n := by simp [ints, hm]
  have hsrc : 0 < (ints (List.replicate m y)).length → (some (⟨w.heap.size, 0, none⟩ : Addr)) = some ⟨w.heap.size, 0, none⟩ ∧ ∃ ad, (some (⟨gx, 0, none⟩ : Addr)) = some ad ∧ ∀ j v, (ints (List.replicate m y))[j]? = some v → wA.cell? (ad.add j) = some v := fun _ => ⟨rfl, _, rfl, fun j v hj => by
    have hjm : j < m := by have := (List.getElem?_eq_some_iff.1 hj).1; simpa [ints] using this
    have hj0 : j = 0 := by omega
    subst hj0
    simp [ints, hjm] at hj
    subst hj
    exact hx0⟩
  have hfit : 0 + (ints (List.replicate m y)).length ≤ (ints (half n 0 y)).length := by rw [hcs]; simp [ints, half_len n 0 y (by omega)]; exact Nat.min_le_right _ _
  have HM := Lib.hid hm
  have HS := Lib.hid hsrc
  have HC := Lib.hid hcs
  have HF := Lib.hid hfit
  clear hm hsrc hcs hfit hmk
  go_wp2_with (with_reducible refine wpList_copy_splice rfl (.tmp 31) (.tmp 32) 38 38 rfl 3 Try.underlying38 int_size (some ⟨w.heap.size, 0, none⟩) (some ⟨gx, 0, none⟩) n n 1 1 rfl rfl w.heap.size 0 (ints (half n 0 y)) 3 hk0.out (ints (List.replicate m y)) HC.out HS.out HF.out (ints_one _) w.heap.size w hb0 (Nat.le_refl _) ?_; intro wB hkB hbB)
  have hlm : (ints (List.replicate m y)).length = m := by simp [ints]
  have hkC : Hid (wB.heap[w.heap.size]? = some (.cells (ints (half n m y)).toArray 3 (0, 0))) := by
    have := hkB.out
    rw [half_splice n 0 m y (by omega), Nat.zero_add] at this
    exact this
  have hgN : w.heap.size < wB.heap.size := (Array.getElem?_eq_some_iff.1 hkC.out).1
  clear hkB HC HF HS hk0 hx0 hx hb0 HM
  simp only [hlm]
  clear hlm
  clear u1 u2 u3
  go_loopg [8] (n - m) (fun q s8 w' => ∃ k : Nat, k + q = n ∧ s8 = .int .i64 k ∧ (n = 0 ∨ 0 < k) ∧ Hid (w'.heap[w.heap.size]? = some (.cells (ints (half n k y)).toArray 3 (0, 0))) ∧ Below w.heap.size w w')
  case atStart => exact ⟨m, by omega, by go_num, hm0, hkC, hbB⟩
  case round =>
    obtain ⟨k, hk, rfl, hk0, hrow, hbr⟩ := hrel
    by_cases hlt : k < n
    · obtain ⟨d, hd⟩ : ∃ d, d = Nat.min k (n - k) := ⟨_, rfl⟩
      have hd1 : d ≤ k := by rw [hd]; exact Nat.min_le_left _ _
      have hd2 : d ≤ n - k := by rw [hd]; exact Nat.min_le_right _ _
      have hd0 : 0 < d := by rw [hd]; exact Nat.lt_min.2 ⟨by omega, by omega⟩
      have t0 : decide ((k : Int) < (n : Int)) = true := by simp; omega
      have hcs : Hid ((ints (List.replicate d y)).length = Nat.min k (n - k)) := by show _ = _; simp [ints, hd]
      have hld : Hid ((ints (List.replicate d y)).length = d) := by show _ = _; simp [ints]
      have hfit : Hid (k + (ints (List.replicate d y)).length ≤ (ints (half n k y)).length) := by show _ ≤ _; rw [hld.out]; simp [ints, half_len n k y (by omega)]; omega
      have hrowd : Hid (wr.drew.heap[w.heap.size]? = some (.cells (ints (half n k y)).toArray 3 (0, 0))) := hrow.out
      have hbd : Hid (Below w.heap.size w wr.drew) := hbr.drew
      have hsrc : Hid (SrcOk wr.drew w.heap.size (ints (List.replicate d y))) := fun j v hj => by
        have hjm : j < d := by have := (List.getElem?_eq_some_iff.1 hj).1; simpa [ints] using this
        have hv : v = .int .i64 y := by simp [ints, hjm] at hj; exact hj.symm
        subst hv
        rw [add_lit', Nat.zero_add]
        have h1 := blk_ints_cell (w := wr.drew) (g := w.heap.size) (te := 3) (xs := half n k y) hrowd.out (i := j) (by rw [half_len n k y (by omega)]; omega)
        rwa [half_get n k y (by omega)] at h1
      have HD := Lib.hid hd
      clear hd
      have es : IntKind.i64.wrap ((k : Int) + ((ints (List.replicate d y)).length : Int)) = ((k + d : Nat) : Int) := by rw [hld.out, IntKind.wrap_i64]; omega
      have f1 : k ≤ n := by omega
      have f2 : ¬ n = k := by omega
      have f3 : ¬ k = n := by omega
      have f4 : ¬ n - k = 0 := by omega
      go_wp2_with fail
      go_region_law (refine step_copy_splice rfl (.tmp 41) (.tmp 44) 38 38 rfl 3 Try.underlying38 int_size (some ⟨w.heap.size, k, none⟩) (some ⟨w.heap.size, 0, none⟩) (n - k) (n - k) k n (by simp [Act.eval, Act.put]) (by simp [Act.eval, Act.put]) w.heap.size k (ints (half n k y)) 3 hrowd.out (ints (List.replicate d y)) hcs.out (fun _ => ⟨rfl, _, rfl, hsrc.out⟩) hfit.out (ints_one _) w.heap.size w hbd.out (Nat.le_refl _) ?_; intro wB hkB hbB)
      all_goals
        have hrow2 : Hid (wB.heap[w.heap.size]? = some (.cells (ints (half n (k + d) y)).toArray 3 (0, 0))) := by
          have := hkB.out
          rw [half_splice n k d y (by omega)] at this
          exact this
        clear hkB hcs hsrc hfit hrow hrowd
        go_wp2_with fail
        simp [Act.put]
        go_roundg (gk - d)
        case measure => omega
        case rel => exact ⟨k + d, by omega, by go_num, by omega, hrow2, hbB⟩
    · have hkn : k = n := by omega
      subst hkn
      go_wp2_with fail
      go_ret
      exact madeRow_mk (by simp) (by have := hrow.out; rwa [halfn] at this) (Nat.le_refl _) hbr
end Go.Proofs.Ytbpfeokheebmdaa.Cy
