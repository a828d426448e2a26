/- The contract of cells.New. No condition but that the numbers are of 64 bits. -/
import Derived.Test.YtbpfeokheebmdaaCy
import Derived.Deep.RegionWith
namespace Go.Proofs.Ytbpfeokheebmdaa.Cz
set_option maxRecDepth 100000
open Go.ChangeShapes Go.WideShapes Go.ChangeAt Go.RowKit Mem Cel Cm Cn Cx Cy
set_option linter.unusedVariables false
def fitF (n : Int) : Bool := decide (0 ≤ n) && decide (n ≤ 65536)
theorem fit_t {n : Int} (h : 0 ≤ n) (h' : n ≤ 65536) : fitF n = true := by unfold fitF; simp [h, h']
theorem fit_f {n : Int} (h : n < 0 ∨ 65536 < n) : fitF n = false := by unfold fitF; simp; omega
theorem fit_of {n : Int} (h : fitF n = true) : 0 ≤ n ∧ n ≤ 65536 := by unfold fitF at h; simpa using h
theorem fits_any (n : Int) (w : World) : Calls Try.prog 19 #[.int .i64 n] w (ToldB (fitF n) w) := by
  by_cases h0 : 0 ≤ n
  · by_cases h1 : n ≤ 65536
    · go_enter Try.func19, Try.ntmps19
      go_wp2
      go_ret
      exact ⟨by rw [fit_t h0 h1]; rfl, rfl⟩
    · go_enter Try.func19, Try.ntmps19
      go_wp2
      go_ret
      exact ⟨by rw [fit_f (by omega)]; rfl, rfl⟩
  · go_enter Try.func19, Try.ntmps19
    go_wp2
    go_ret
    exact ⟨by rw [fit_f (by omega)]; rfl, rfl⟩
/-- new Cells -/
def MadeNew (n m : Nat) (v : Nat → Value) (te : TypeId) (w : World) (e : Ending) (w' : World) : Prop :=
  ∃ g gw gh, e = .returned (v g) ∧ Cs w' te g gw gh ⟨List.replicate n 0, List.replicate m (-1), 0⟩ ∧ w.heap.size ≤ g ∧ w.heap.size ≤ gw ∧ w.heap.size ≤ gh ∧ Below w.heap.size w w'
def vNew (g : Nat) : Value := .tuple #[.pointer (some ⟨g, 0, none⟩), .int .i64 0]
theorem madeNew_mk {n m gw gh : Nat} {te : TypeId} {w W : World} (v : Nat → Value) (hw : Blk W gw 2 (ints (List.replicate n 0)).toArray) (hh : Blk W gh 3 (ints (List.replicate m (-1))).toArray) (hne : gw ≠ gh) (h1 : w.heap.size ≤ gw) (h2 : w.heap.size ≤ gh) (hb : Below w.heap.size w W) :
    MadeNew n m v te w (.returned (v W.heap.size)) (W.alloc (.cells #[.slice (some ⟨gw, 0, none⟩) n n, .slice (some ⟨gh, 0, none⟩) m m, .int .i64 0] te)) := by
  refine ⟨W.heap.size, gw, gh, rfl, ⟨?_, hw.alloc _, hh.alloc _, ?_, ?_, hne⟩, hb.size, h1, h2, hb.alloc hb.size _⟩
  · have := Blk.fresh W te #[.slice (some ⟨gw, 0, none⟩) n n, .slice (some ⟨gh, 0, none⟩) m m, .int .i64 0]
    simpa using this
  · have := hw.lt; omega
  · have := hh.lt; omega
set_option maxHeartbeats 4000000 in
theorem new_any (n m : Nat) (w : World) (hn : n ≤ 65536) (hm : m ≤ 65536) :
    Calls Try.prog 6 #[.int .i64 n, .int .i64 m] w (MadeNew n m vNew 51 w) := by
  have f1 : Hid (fitF n = true) := fit_t (by omega) (by omega)
  have f2 : Hid (fitF m = true) := fit_t (by omega) (by omega)
  have hmk : ∀ wx, (Instr.makeSlice 37 (.int .i64 (n : Int)) (.int .i64 (n : Int))).run Try.prog wx = .ok (.slice (some ⟨wx.heap.size, 0, none⟩) n n) (wx.alloc (.cells (madeCells #[.int .i64 0] n) 2)) := fun wx =>
    Go.run_make_row' 37 2 (.int .i64 0) 8 Try.underlying37 i64_info rfl .i64 .i64 n (by omega) (by omega) wx
  obtain ⟨M, hM⟩ : ∃ M, M = Obj.cells (madeCells #[.int .i64 0] n) 2 := ⟨_, rfl⟩
  obtain ⟨L, hL⟩ : ∃ L, L = Obj.cells #[.int .i64 (-1)] 3 := ⟨_, rfl⟩
  have kM : ∀ wx : World, Hid (Blk (wx.alloc M) wx.heap.size 2 (ints (List.replicate n 0)).toArray) := fun wx => by
    subst hM; have := Blk.fresh wx 2 (madeCells #[.int .i64 0] n); rw [made0] at this ⊢; exact this
  have kL : ∀ wx : World, (wx.alloc L).cell? ⟨wx.heap.size, 0, none⟩ = some (.int .i64 (-1)) := fun wx => by
    subst hL; exact (Blk.fresh wx 3 #[.int .i64 (-1)]).cell 0
  have bM : ∀ wx : World, Below wx.heap.size wx (wx.alloc M) := fun wx => (Below.refl _ _).alloc (Nat.le_refl _) _
  have bL : ∀ wx : World, Below wx.heap.size wx (wx.alloc L) := fun wx => (Below.refl _ _).alloc (Nat.le_refl _) _
  have xA : Hid (((w.alloc M).alloc L).drew.cell? ⟨w.heap.size + 1, 0, none⟩ = some (.int .i64 (-1))) := by
    have := kL (w.alloc M); rw [World.size_alloc] at this; exact this
  have xB : Hid (((w.alloc L).alloc M).drew.cell? ⟨w.heap.size, 0, none⟩ = some (.int .i64 (-1))) :=
    ((bM (w.alloc L)).cell (p := ⟨w.heap.size, 0, none⟩) (by simp)).trans (kL w)
  have xC : Hid ((w.alloc L).drew.cell? ⟨w.heap.size, 0, none⟩ = some (.int .i64 (-1))) := kL w
  have sA : Hid (Below w.heap.size w ((w.alloc M).alloc L).drew ∧ Blk ((w.alloc M).alloc L).drew w.heap.size 2 (ints (List.replicate n 0)).toArray) :=
    ⟨(((Below.refl _ _).alloc (Nat.le_refl _) _).alloc (by simp) _).drew, ((kM w).out.alloc L)⟩
  have sB : Hid (Below w.heap.size w ((w.alloc L).alloc M).drew ∧ Blk ((w.alloc L).alloc M).drew (w.heap.size + 1) 2 (ints (List.replicate n 0)).toArray) := by
    refine ⟨(((Below.refl _ _).alloc (Nat.le_refl _) _).alloc (by simp) _).drew, ?_⟩
    have := (kM (w.alloc L)).out; rw [World.size_alloc] at this; exact this
  have sC : Hid (Below w.heap.size w (w.alloc L).drew) := ((Below.refl _ _).alloc (Nat.le_refl _) _).drew
  have sM : Hid (∀ wx : World, Blk (wx.alloc M) wx.heap.size 2 (ints (List.replicate n 0)).toArray) := fun wx => (kM wx).out
  clear kM kL bM bL
  subst hM hL
  go_enter Try.func6, Try.ntmps6
  go_upto_region 3 with (go_at_call 19; refine (fits_any _ _).mono ?_; rintro e w9 ⟨rfl, rfl⟩; first | rw [f1.out] | rw [f2.out])
  go_region_with (go_at_call 20; refine (repeat_any _ (-1) m _ (by omega) (by first | exact xA.out | exact xB.out | exact xC.out) (by simp <;> omega)).mono ?_; rintro e wR ⟨gN, rfl, kN, hN, bN⟩)
  · have hb := below_step sA.out.1 bN
    have hk := sA.out.2.below' bN
    have h3 : w.heap.size + 2 ≤ gN := by simpa using hN
    clear hmk xA xB xC sA sB sC sM
    go_wp2_with fail
    go_ret2
    exact madeNew_mk vNew hk kN (by omega) (by omega) (by omega) hb
  · have hb := below_step sB.out.1 bN
    have hk := sB.out.2.below' bN
    have h3 : w.heap.size + 2 ≤ gN := by simpa using hN
    clear hmk xA xB xC sA sB sC sM
    go_wp2_with fail
    go_ret2
    exact madeNew_mk vNew hk kN (by omega) (by omega) (by omega) hb
  · have hb := below_step sC.out bN
    have hk := sM.out wR
    have hb2 : Below w.heap.size w (wR.alloc (.cells (madeCells #[.int .i64 0] n) 2)) := hb.alloc hb.size _
    have kN2 : Blk (wR.alloc (.cells (madeCells #[.int .i64 0] n) 2)) gN 3 (ints (List.replicate m (-1))).toArray := kN.alloc _
    have h3 : w.heap.size + 1 ≤ gN := by simpa using hN
    have h4 := kN.lt
    clear hmk xA xB xC sA sB sC sM
    go_wp2_with fail
    go_ret2
    have := madeNew_mk (te := 51) vNew hk kN2 (by omega) (by omega) (by omega) hb2
    rw [World.size_alloc] at this
    exact this
theorem new_bad (n m : Int) (w : World) (h : fitF n = false ∨ fitF m = false) :
    Calls Try.prog 6 #[.int .i64 n, .int .i64 m] w (ToldV (.tuple #[.pointer none, .int .i64 1]) w) := by
  by_cases h1 : fitF n = false
  · have f1 := Lib.hid h1
    clear h1 h
    go_enter Try.func6, Try.ntmps6
    go_wp2_with (go_at_call 19; refine (fits_any _ _).mono ?_; rintro e w9 ⟨rfl, rfl⟩; rw [f1.out])
    go_ret2
    exact toldV_mk rfl
  · have f1 : Hid (fitF n = true) := by cases hh : fitF n with | true => rfl | false => exact absurd hh h1
    have f2 : Hid (fitF m = false) := h.resolve_left h1
    clear h1 h
    go_enter Try.func6, Try.ntmps6
    go_wp2_with (go_at_call 19; refine (fits_any _ _).mono ?_; rintro e w9 ⟨rfl, rfl⟩; first | rw [f1.out] | rw [f2.out])
    go_ret2
    exact toldV_mk rfl
end Go.Proofs.Ytbpfeokheebmdaa.Cz
