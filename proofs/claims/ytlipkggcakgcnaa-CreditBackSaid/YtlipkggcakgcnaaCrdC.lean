/- The contracts of package credit and of its reference, third part: Begin, Right, pathOf. -/
import Derived.Test.YtlipkggcakgcnaaCrdB
namespace Go.Proofs.Ytlipkggcakgcnaa.CrdC
set_option maxRecDepth 100000
open Go.ChangeShapes Go.WideShapes Go.ChangeAt Go.RowKit Mem Tre Ref3 Law3 Crd CrdB
set_option linter.unusedVariables false

def MadeSt (l : List (Int × Int)) (u : List Int) (w : World) (e : Ending) (w' : World) : Prop :=
  ∃ A c A' c', e = .returned (.agg #[.slice A l.length c, .slice A' u.length c']) ∧ Nds w' w'.heap.size A l ∧ Ris w' w'.heap.size A' u ∧ Below w.heap.size w w'
theorem madeSt_mk {l : List (Int × Int)} {u : List Int} {A A' : Option Addr} {n n' c c' : Nat} {w w' : World} (hn : n = l.length) (hn' : n' = u.length) (h1 : Nds w' w'.heap.size A l) (h2 : Ris w' w'.heap.size A' u) (hb : Below w.heap.size w w') :
    MadeSt l u w (.returned (.agg #[.slice A n c, .slice A' n' c'])) w' := by
  subst hn; subst hn'; exact ⟨A, c, A', c', rfl, h1, h2, hb⟩
def zeros (n : Nat) : List Int := List.replicate n 0
theorem zeros_len (n : Nat) : (zeros n).length = n := by simp [zeros]
theorem made_zeros (n : Nat) : (madeCells (Value.int .i64 0).cells n).toList = ints (zeros n) := by
  refine List.ext_getElem? fun i => ?_
  by_cases h : i < n
  · have e : (madeCells (Value.int .i64 0).cells n)[i]? = some (Value.int .i64 0) := by
      unfold madeCells
      simp [h, Value.cells]
      exact Nat.mod_one i ▸ rfl
    simp [ints, zeros, h, e]
  · simp [ints, zeros, madeCells, h]

theorem blk_far {w : World} {g : Nat} {te : TypeId} {cs : Array Value} (h : Blk w g te cs) {p : Addr} (hp : g ≠ p.block) (u : Value) : Blk (w.setCell p u) g te cs := (Below.heap_setCell w p u g hp).trans h

set_option maxHeartbeats 1000000 in
theorem rbegin_any (A : Option Addr) (c : Nat) (l : List (Int × Int)) (w : World) (hl : Hid (Nds w w.heap.size A l)) (hmax : (l.length : Int) ≤ 1000000) :
    Calls Try.prog 12 #[.slice A l.length c] w (MadeSt l (zeros l.length) w) := by
  obtain ⟨i0, hi, hz0, hz1, hz2⟩ := info_parts i64_info
  have hmk := fun (W : World) => run_make (P := Try.prog) W 24 2 i0 (.int .i64 0) Try.underlying24 hi hz0 .i64 .i64 (l.length : Int) (l.length : Int) (by omega) (by omega) (by rw [hz2]; omega) (by omega)
  simp only [Int.toNat_natCast, hz1, Nat.mul_one] at hmk
  go_enter Try.func12, Try.ntmps12
  go_wp2_with fail
  have kz : Rd ((w.alloc (.cells #[.slice A l.length c, .slice (some ⟨w.heap.size + 1, 0, none⟩) l.length l.length] 26)).alloc (.cells (madeCells #[.int .i64 0] l.length) 2)) ((w.alloc (.cells #[.slice A l.length c, .slice (some ⟨w.heap.size + 1, 0, none⟩) l.length l.length] 26)).alloc (.cells (madeCells #[.int .i64 0] l.length) 2)).heap.size (some ⟨w.heap.size + 1, 0, none⟩) (ints (zeros l.length)) := by
    have := Blk.fresh (w.alloc (.cells #[.slice A l.length c, .slice (some ⟨w.heap.size + 1, 0, none⟩) l.length l.length] 26)) 2 (madeCells #[.int .i64 0] l.length)
    rw [World.size_alloc] at this
    exact this.rd' (made_zeros _)
  have hb : Below w.heap.size w ((w.alloc (.cells #[.slice A l.length c, .slice (some ⟨w.heap.size + 1, 0, none⟩) l.length l.length] 26)).alloc (.cells (madeCells #[.int .i64 0] l.length) 2)) := ((Below.refl _ _).alloc (Nat.le_refl _) _).alloc (by simp) _
  exact bodyPost_ret (v := .agg #[.slice A l.length c, .slice (some ⟨w.heap.size + 1, 0, none⟩) l.length l.length]) (by simp [results, Try.results12, go_sem]) rfl
    (madeSt_mk rfl (zeros_len _).symm (Rd.below' hl.out hb hb.size) kz hb)

set_option maxHeartbeats 1000000 in
theorem begin_any (A : Option Addr) (c : Nat) (l : List (Int × Int)) (w : World) (hl : Hid (Nds w w.heap.size A l)) (hmax : (l.length : Int) ≤ 1000000) :
    Calls Try.prog 14 #[.slice A l.length c] w (MadeSt l (zeros l.length) w) := by
  obtain ⟨i0, hi, hz0, hz1, hz2⟩ := info_parts i64_info
  have hmk := fun (W : World) => run_make (P := Try.prog) W 24 2 i0 (.int .i64 0) Try.underlying24 hi hz0 .i64 .i64 (l.length : Int) (l.length : Int) (by omega) (by omega) (by rw [hz2]; omega) (by omega)
  simp only [Int.toNat_natCast, hz1, Nat.mul_one] at hmk
  have H1 : Hid (∀ W, Below w.heap.size w W → Nds W W.heap.size A l) := fun W hb => Rd.below' hl.out hb hb.size
  have b0 : Below w.heap.size w (w.alloc (.cells #[.slice none 0 0, .slice none 0 0] 31)).drew := ((Below.refl _ _).alloc (Nat.le_refl _) _).drew
  have K0 : Hid (Blk (w.alloc (.cells #[.slice none 0 0, .slice none 0 0] 31)).drew w.heap.size 31 #[.slice none 0 0, .slice none 0 0]) := Blk.fresh w _ _
  have b0' : Below w.heap.size w ((w.alloc (.cells #[.slice none 0 0, .slice none 0 0] 31)).alloc (.cells (madeCells #[.int .i64 0] l.length) 2)).drew := (((Below.refl _ _).alloc (Nat.le_refl _) _).alloc (by simp) _).drew
  have K0' : Hid (Blk ((w.alloc (.cells #[.slice none 0 0, .slice none 0 0] 31)).alloc (.cells (madeCells #[.int .i64 0] l.length) 2)).drew w.heap.size 31 #[.slice none 0 0, .slice none 0 0]) := (Blk.fresh w _ _).alloc _
  have Z0' : Hid (Blk ((w.alloc (.cells #[.slice none 0 0, .slice none 0 0] 31)).alloc (.cells (madeCells #[.int .i64 0] l.length) 2)).drew (w.heap.size + 1) 2 (madeCells #[.int .i64 0] l.length)) := by
    have := Blk.fresh (w.alloc (.cells #[.slice none 0 0, .slice none 0 0] 31)) 2 (madeCells #[.int .i64 0] l.length)
    rw [World.size_alloc] at this
    exact this
  go_enter Try.func14, Try.ntmps14
  go_wp2_with fail
  go_region_held3 (fun w' => True) (trivial)
    (first
      | (go_at_call 53; refine (cloneN_any _ _ l _ (H1.out _ (by assumption)) hmax).mono ?_; rintro e w1 ⟨A1, c1, rfl, ho1, hb1⟩; have b1 := below_step (by assumption) hb1; have k1 : Hid (Blk w1 w.heap.size 31 #[.slice none 0 0, .slice none 0 0]) := Blk.below' (Hid.out (by assumption)) hb1; have r1 : w1.cell? ⟨w.heap.size, 0, none⟩ = some (.slice none 0 0) := k1.out.cell 0; have s1 : w1.cell? ⟨w.heap.size, 1, none⟩ = some (.slice none 0 0) := k1.out.cell 1; have y1 : w1.frozen? ⟨w.heap.size, 0, none⟩ = false := k1.out.thaw 0; have z1 : w1.frozen? ⟨w.heap.size, 1, none⟩ = false := k1.out.thaw 1; have n1 : w.heap.size < w1.heap.size := k1.out.lt))
  · have o1 : ((w1.setCell ⟨w.heap.size, 0, none⟩ (.slice A1 l.length c1)).setCell ⟨w.heap.size, 1, none⟩ (.slice (some ⟨w1.heap.size, 0, none⟩) l.length l.length)).ownsRow (w.heap.size + 1) 120 2 (.slice A1 l.length c1) l.length (nds l) :=
      ownsRow_setCell_below (ownsRow_setCell_below (own_mono (base' := w.heap.size + 1) ho1 (by simp [World.drew])) (by simp) _) (by simp) _
    have kf := Blk.alloc (blk_set (blk_set k1.out 0 (.slice A1 l.length c1)) 1 (.slice (some ⟨w1.heap.size, 0, none⟩) l.length l.length)) (.cells (madeCells #[.int .i64 0] l.length) 2)
    have g0 := kf.cell 0
    have g1 := kf.cell 1
    simp at g0 g1
    have zf := Blk.fresh ((w1.setCell ⟨w.heap.size, 0, none⟩ (.slice A1 l.length c1)).setCell ⟨w.heap.size, 1, none⟩ (.slice (some ⟨w1.heap.size, 0, none⟩) l.length l.length)) 2 (madeCells #[.int .i64 0] l.length)
    have hsz : ((w1.setCell ⟨w.heap.size, 0, none⟩ (.slice A1 l.length c1)).setCell ⟨w.heap.size, 1, none⟩ (.slice (some ⟨w1.heap.size, 0, none⟩) l.length l.length)).heap.size = w1.heap.size := by simp [World.setCell]
    rw [hsz] at zf
    have bF := ((b1.setCell (p := ⟨w.heap.size, 0, none⟩) (by simp) (.slice A1 l.length c1)).setCell (p := ⟨w.heap.size, 1, none⟩) (by simp) (.slice (some ⟨w1.heap.size, 0, none⟩) l.length l.length)).alloc (by rw [hsz]; omega) (.cells (madeCells #[.int .i64 0] l.length) 2)
    have O1 := Lib.hid (Rd.of_own (World.ownsRow.alloc o1 (.cells (madeCells #[.int .i64 0] l.length) 2)))
    have ZF := Lib.hid zf
    clear o1 zf ho1 hsz hmk
    go_wp2_with fail
    exact bodyPost_ret (v := .agg #[.slice A1 l.length c1, .slice (some ⟨w1.heap.size, 0, none⟩) l.length l.length]) (by simp [results, Try.results14, go_sem, g0, g1]) rfl (madeSt_mk rfl (zeros_len _).symm O1.out (ZF.out.rd' (made_zeros _)) bF)
  · have o1 : ((w1.setCell ⟨w.heap.size, 0, none⟩ (.slice A1 l.length c1)).setCell ⟨w.heap.size, 1, none⟩ (.slice (some ⟨w.heap.size + 1, 0, none⟩) l.length l.length)).ownsRow (w.heap.size + 1) 120 2 (.slice A1 l.length c1) l.length (nds l) :=
      ownsRow_setCell_below (ownsRow_setCell_below (own_mono (base' := w.heap.size + 1) ho1 (by simp [World.drew])) (by simp) _) (by simp) _
    have kf := blk_set (blk_set k1.out 0 (.slice A1 l.length c1)) 1 (.slice (some ⟨w.heap.size + 1, 0, none⟩) l.length l.length)
    have g0 := kf.cell 0
    have g1 := kf.cell 1
    simp at g0 g1
    have zf := blk_far (blk_far (Blk.below' Z0'.out hb1) (p := ⟨w.heap.size, 0, none⟩) (by simp) (.slice A1 l.length c1)) (p := ⟨w.heap.size, 1, none⟩) (by simp) (.slice (some ⟨w.heap.size + 1, 0, none⟩) l.length l.length)
    have bF := (b1.setCell (p := ⟨w.heap.size, 0, none⟩) (by simp) (.slice A1 l.length c1)).setCell (p := ⟨w.heap.size, 1, none⟩) (by simp) (.slice (some ⟨w.heap.size + 1, 0, none⟩) l.length l.length)
    have O1 := Lib.hid (Rd.of_own o1)
    have ZF := Lib.hid zf
    clear o1 zf ho1 hmk
    go_wp2_with fail
    exact bodyPost_ret (v := .agg #[.slice A1 l.length c1, .slice (some ⟨w.heap.size + 1, 0, none⟩) l.length l.length]) (by simp [results, Try.results14, go_sem, g0, g1]) rfl (madeSt_mk rfl (zeros_len _).symm O1.out (ZF.out.rd' (made_zeros _)) bF)

/-! ### Right -/
def maxC (x : Int) : Bool := decide (0 ≤ x) && decide (x ≤ 4611686018427387904)
def rightF (l : List (Int × Int)) (u : List Int) : Bool := decide ((chk l).1 = 0) && decide (u.length = l.length) && u.all maxC
def UOk (u : List Int) : Prop := ∀ i, i < u.length → 0 ≤ gI u i ∧ gI u i ≤ 4611686018427387904
theorem all_of {u : List Int} (h : UOk u) : u.all maxC = true := by
  simp only [List.all_eq_true]
  intro x hx
  obtain ⟨i, hi, rfl⟩ := List.getElem_of_mem hx
  have := h i hi
  simp [gI, hi] at this
  simp [maxC, this]
theorem all_not {u : List Int} {i : Nat} (hi : i < u.length) (h : gI u i < 0 ∨ 4611686018427387904 < gI u i) : u.all maxC = false := by
  rw [List.all_eq_false]
  refine ⟨u[i], List.getElem_mem hi, ?_⟩
  simp [gI, hi] at h
  simp [maxC]
  omega
theorem rightF_c {l : List (Int × Int)} {u : List Int} (h : ¬ (chk l).1 = 0) : rightF l u = false := by simp [rightF, h]
theorem rightF_l {l : List (Int × Int)} {u : List Int} (h : ¬ u.length = l.length) : rightF l u = false := by simp [rightF, h]
theorem rightF_a {l : List (Int × Int)} {u : List Int} (h : u.all maxC = false) : rightF l u = false := by unfold rightF; rw [h, Bool.and_false]
theorem rightF_t {l : List (Int × Int)} {u : List Int} (h : (chk l).1 = 0) (h' : u.length = l.length) (h'' : UOk u) : rightF l u = true := by
  simp only [rightF, all_of h'', h, h']; rfl

set_option maxHeartbeats 1000000 in
theorem right_any (A A' : Option Addr) (c c' : Nat) (l : List (Int × Int)) (u : List Int) (w : World) (hl : Hid (Nds w w.heap.size A l)) (hu : Hid (Ris w w.heap.size A' u)) (hw : Hid (WfN l)) (hwu : Hid (WfI u)) (hmax : (l.length : Int) ≤ 1000000) (hmay : (u.length : Int) ≤ 1000000) :
    Calls Try.prog 25 #[.agg #[.slice A l.length c, .slice A' u.length c']] w (MadeB (rightF l u) w) := by
  have b0 : Below w.heap.size w (w.alloc (.cells #[.slice A l.length c, .slice A' u.length c'] 31)) := (Below.refl _ _).alloc (Nat.le_refl _) _
  have l0 : Hid (Nds (w.alloc (.cells #[.slice A l.length c, .slice A' u.length c'] 31)) (w.alloc (.cells #[.slice A l.length c, .slice A' u.length c'] 31)).heap.size A l) := Rd.below' hl.out b0 b0.size
  have u0 : Hid (Ris (w.alloc (.cells #[.slice A l.length c, .slice A' u.length c'] 31)) (w.alloc (.cells #[.slice A l.length c, .slice A' u.length c'] 31)).heap.size A' u) := Rd.below' hu.out b0 b0.size
  have k0 : Hid (Blk (w.alloc (.cells #[.slice A l.length c, .slice A' u.length c'] 31)) w.heap.size 31 #[.slice A l.length c, .slice A' u.length c']) := Blk.fresh _ _ _
  go_enter Try.func25, Try.ntmps25
  go_wp2_with fail
  refine (check_any A c l _ l0.out hw (by omega)).mono ?_
  rintro e w1 ⟨rfl, hb1⟩
  have b1 := below_step b0 hb1
  have k1 := Lib.hid (Blk.below' k0.out hb1)
  have u1 : Hid (Ris w1 w1.heap.size A' u) := Rd.below' u0.out hb1 hb1.size
  have f0 : w1.cell? ⟨w.heap.size, 0, none⟩ = some (.slice A l.length c) := k1.out.cell 0
  have f1 : w1.cell? ⟨w.heap.size, 1, none⟩ = some (.slice A' u.length c') := k1.out.cell 1
  clear b0 l0 u0 k0 hb1
  by_cases hc : (chk l).1 = 0
  · have c1 : ((chk l).1 != 0) = false := by simp [hc]
    have c2 : ((chk l).1 == 0) = true := by simp [hc]
    by_cases hn : u.length = l.length
    · have n1 : ((u.length : Int) != (l.length : Int)) = false := by simp; omega
      have n2 : ((u.length : Int) == (l.length : Int)) = true := by simp; omega
      have HC := Lib.hid hc
      have HN := Lib.hid hn
      clear hc hn
      go_wp2_with fail
      go_loopg [27] u.length (fun g s27 w' => ∃ k : Nat, k + g = u.length ∧ s27 = .int .i64 k ∧ Hid (∀ i, i < k → 0 ≤ gI u i ∧ gI u i ≤ 4611686018427387904) ∧ w1 = w')
      case atStart => exact ⟨0, by omega, rfl, fun i hi => absurd hi (Nat.not_lt_zero i), rfl⟩
      case round =>
        obtain ⟨k, hk, rfl, hall, rfl⟩ := hrel
        by_cases hlt : (k : Int) < (u.length : Int)
        · obtain ⟨g, rfl⟩ : ∃ g, gk = g + 1 := ⟨gk - 1, by omega⟩
          obtain ⟨b, o, rfl, hb, hcc⟩ := Ris.at (i := k) u1.out (by omega)
          have d0 := hcc k (by omega)
          obtain ⟨d1, d2⟩ := hwu.out k (by omega)
          clear hcc
          by_cases h0 : 0 ≤ gI u k ∧ gI u k ≤ 4611686018427387904
          · have hall' : Hid (∀ i, i < k + 1 → 0 ≤ gI u i ∧ gI u i ≤ 4611686018427387904) := fun i hi => by
              by_cases e : i = k
              · subst e; exact h0
              · exact hall.out i (by omega)
            obtain ⟨h1, h2⟩ := h0
            go_wp2_with fail
            go_roundg g
            case measure => omega
            case rel => exact ⟨k + 1, by omega, by go_num, hall', rfl⟩
          · have hf := Lib.hid (rightF_a (l := l) (u := u) (all_not (u := u) (i := k) (by omega) (by omega)))
            by_cases h1 : gI u k < 0
            · clear h0
              go_wp2_with fail
              go_ret
              exact madeB_mk hf.out b1
            · have h2 : 4611686018427387904 < gI u k := by omega
              clear h0
              go_wp2_with fail
              go_ret
              exact madeB_mk hf.out b1
        · have hf := Lib.hid (rightF_t (l := l) (u := u) HC.out HN.out (fun i hi => hall.out i (by omega)))
          go_wp2_with fail
          go_ret
          exact madeB_mk hf.out b1
    · have n1 : ((u.length : Int) != (l.length : Int)) = true := by simp; omega
      have n2 : ((u.length : Int) == (l.length : Int)) = false := by simp; omega
      have hf := Lib.hid (rightF_l (l := l) (u := u) hn)
      clear hn hc
      go_wp2_with fail
      go_ret
      exact madeB_mk hf.out b1
  · have c1 : ((chk l).1 != 0) = true := by simp [hc]
    have c2 : ((chk l).1 == 0) = false := by simp [hc]
    have hf := Lib.hid (rightF_c (u := u) hc)
    clear hc
    go_wp2_with fail
    go_ret
    exact madeB_mk hf.out b1

set_option maxHeartbeats 1000000 in
theorem pathOf_any (A A' : Option Addr) (c c' : Nat) (l : List (Int × Int)) (u : List Int) (n : Int) (w : World) (hl : Hid (Nds w w.heap.size A l)) (hu : Hid (Ris w w.heap.size A' u)) (hw : Hid (WfN l)) (hwu : Hid (WfI u)) (hmax : (l.length : Int) ≤ 1000000) (hmay : (u.length : Int) ≤ 1000000) (hn : inI n) (hr : rightF l u = true) :
    Calls Try.prog 55 #[.agg #[.slice A l.length c, .slice A' u.length c'], .int .i64 n] w (MadeIF (pathF l 3 n) w) := by
  have b0 : Below w.heap.size w (w.alloc (.cells #[.slice A l.length c, .slice A' u.length c'] 31)) := (Below.refl _ _).alloc (Nat.le_refl _) _
  have l0 : Hid (Nds (w.alloc (.cells #[.slice A l.length c, .slice A' u.length c'] 31)) (w.alloc (.cells #[.slice A l.length c, .slice A' u.length c'] 31)).heap.size A l) := Rd.below' hl.out b0 b0.size
  have u0 : Hid (Ris (w.alloc (.cells #[.slice A l.length c, .slice A' u.length c'] 31)) (w.alloc (.cells #[.slice A l.length c, .slice A' u.length c'] 31)).heap.size A' u) := Rd.below' hu.out b0 b0.size
  have k0 : Hid (Blk (w.alloc (.cells #[.slice A l.length c, .slice A' u.length c'] 31)) w.heap.size 31 #[.slice A l.length c, .slice A' u.length c']) := Blk.fresh _ _ _
  go_enter Try.func55, Try.ntmps55
  go_wp2_with fail
  refine (right_any A A' c c' l u _ l0 u0 hw hwu hmax hmay).mono ?_
  rintro e w1 ⟨rfl, hb1⟩
  have b1 := below_step b0 hb1
  have k1 := Lib.hid (Blk.below' k0.out hb1)
  have l1 : Hid (Nds w1 w1.heap.size A l) := Rd.below' l0.out hb1 hb1.size
  have f0 : w1.cell? ⟨w.heap.size, 0, none⟩ = some (.slice A l.length c) := k1.out.cell 0
  clear b0 l0 u0 k0 hb1
  go_wp2_with fail
  refine (path_fresh A c l n _ l1.out hw (by omega) hn).mono ?_
  rintro e w2 ⟨A2, c2, rfl, hr2, hf2, hb2⟩
  have hff : Hid (∀ a, A2 = some a → w.heap.size ≤ a.block) := fun a ha => by have := hf2 a ha; have := b1.size; omega
  have HR := Lib.hid hr2
  have b2 := below_step b1 hb2
  clear hr2 hb2 hf2
  go_wp2_with fail
  go_ret
  exact madeIF_mk rfl HR.out hff.out b2
end Go.Proofs.Ytlipkggcakgcnaa.CrdC
