/- The contracts of package credit, second part. -/
import Derived.Test.YtlipkggcakgcnaaCrd
import Derived.Deep.RegionHeld3
namespace Go.Proofs.Ytlipkggcakgcnaa.CrdB
set_option maxRecDepth 100000
open Go.ChangeShapes Go.WideShapes Go.ChangeAt Go.RowKit Mem Tre Ref3 Law3 Crd
set_option linter.unusedVariables false

def MadeOwnSt (l : List (Int × Int)) (u : List Int) (w : World) (e : Ending) (w' : World) : Prop :=
  ∃ A c A' c', e = .returned (.agg #[.slice A l.length c, .slice A' u.length c']) ∧ OwnN w.heap.size w' A c l ∧ OwnI w.heap.size w' A' c' u ∧ Below w.heap.size w w'

theorem below_step {a b c : World} (h : Below a.heap.size a b) (k : Below b.heap.size b c) : Below a.heap.size a c := h.trans (k.mono h.size)
theorem own_mono {w : World} {base base' : Nat} {e : TypeId} {size n : Nat} {v : Value} {xs : List Value} (h : w.ownsRow base e size v n xs) (hb : base' ≤ base) : w.ownsRow base' e size v n xs := by
  refine ⟨h.1, ?_⟩
  rcases h.2 with h2 | ⟨g, cap, cur, hv, hg, r⟩
  · exact .inl h2
  · exact .inr ⟨g, cap, cur, hv, by omega, r⟩

theorem blk_set {w : World} {g : Nat} {te : TypeId} {cs : Array Value} (h : Blk w g te cs) (i : Nat) (u : Value) : Blk (w.setCell ⟨g, i, none⟩ u) g te (cs.setIfInBounds i u) := by
  unfold Blk at h ⊢
  simp [World.setCell, Array.getElem?_modify, h]

set_option maxHeartbeats 1000000 in
theorem own_any (A A' : Option Addr) (c c' : Nat) (l : List (Int × Int)) (u : List Int) (w : World) (hl : Hid (Nds w w.heap.size A l)) (hu : Hid (Ris w w.heap.size A' u)) (hmax : (l.length : Int) ≤ 1000000) (hmay : (u.length : Int) ≤ 1000000) :
    Calls Try.prog 54 #[.agg #[.slice A l.length c, .slice A' u.length c']] w (MadeOwnSt l u w) := by
  have H1 : Hid (∀ W, Below w.heap.size w W → Nds W W.heap.size A l) := fun W hb => Rd.below' hl.out hb hb.size
  have H2 : Hid (∀ W, Below w.heap.size w W → Ris W W.heap.size A' u) := fun W hb => Rd.below' hu.out hb hb.size
  have b0 : Below w.heap.size w (((w.alloc (.cells #[.slice A l.length c, .slice A' u.length c'] 31)).alloc (.cells #[.slice none 0 0, .slice none 0 0] 31)).drew) := (((Below.refl _ _).alloc (Nat.le_refl _) _).alloc (by simp) _).drew
  have k1 : Blk (((w.alloc (.cells #[.slice A l.length c, .slice A' u.length c'] 31)).alloc (.cells #[.slice none 0 0, .slice none 0 0] 31)).drew) w.heap.size 31 #[.slice A l.length c, .slice A' u.length c'] := (Blk.fresh w _ _).alloc _
  have k2 : Blk (((w.alloc (.cells #[.slice A l.length c, .slice A' u.length c'] 31)).alloc (.cells #[.slice none 0 0, .slice none 0 0] 31)).drew) (w.heap.size + 1) 31 #[.slice none 0 0, .slice none 0 0] := by
    have := Blk.fresh (w.alloc (.cells #[.slice A l.length c, .slice A' u.length c'] 31)) 31 #[.slice none 0 0, .slice none 0 0]
    simp only [World.size_alloc] at this
    exact this
  have f0 : (((w.alloc (.cells #[.slice A l.length c, .slice A' u.length c'] 31)).alloc (.cells #[.slice none 0 0, .slice none 0 0] 31)).drew).cell? ⟨w.heap.size, 0, none⟩ = some (.slice A l.length c) := k1.cell 0
  have f1 : (((w.alloc (.cells #[.slice A l.length c, .slice A' u.length c'] 31)).alloc (.cells #[.slice none 0 0, .slice none 0 0] 31)).drew).cell? ⟨w.heap.size, 1, none⟩ = some (.slice A' u.length c') := k1.cell 1
  have K1 := Lib.hid k1
  have K2 := Lib.hid k2
  clear k1 k2
  go_enter Try.func54, Try.ntmps54
  go_wp2_with fail
  go_region_held3 (fun w' => w'.cell? ⟨w.heap.size, 0, none⟩ = some (.slice A l.length c) ∧ w'.cell? ⟨w.heap.size, 1, none⟩ = some (.slice A' u.length c'))
    (first | go_keep | (exact ⟨q1, p1⟩) | (exact ⟨q2, p2⟩))
    (first
      | (go_at_call 53; refine (cloneN_any _ _ l _ (H1.out _ (by assumption)) hmax).mono ?_; rintro e w1 ⟨A1, c1, rfl, ho1, hb1⟩; have b1 := below_step (by assumption) hb1; have q1 : w1.cell? ⟨w.heap.size, 0, none⟩ = some (.slice A l.length c) := cell_later hb1 (by assumption); have p1 : w1.cell? ⟨w.heap.size, 1, none⟩ = some (.slice A' u.length c') := cell_later hb1 (by assumption); have k1 : Hid (Blk w1 (w.heap.size + 1) 31 #[.slice none 0 0, .slice none 0 0]) := Blk.below' (Hid.out (by assumption)) hb1; have r1 : w1.cell? ⟨w.heap.size + 1, 0, none⟩ = some (.slice none 0 0) := k1.out.cell 0; have s1 : w1.cell? ⟨w.heap.size + 1, 1, none⟩ = some (.slice none 0 0) := k1.out.cell 1; have y1 : w1.frozen? ⟨w.heap.size + 1, 0, none⟩ = false := k1.out.thaw 0; have z1 : w1.frozen? ⟨w.heap.size + 1, 1, none⟩ = false := k1.out.thaw 1)
      | (go_at_call 83; refine (cloneI_any _ _ u _ (H2.out _ (by assumption)) hmay).mono ?_; rintro e w2 ⟨A2, c2, rfl, ho2, hb2⟩; have b2 := below_step (by assumption) hb2; have q2 : w2.cell? ⟨w.heap.size, 0, none⟩ = some (.slice A l.length c) := cell_later hb2 (by assumption); have p2 : w2.cell? ⟨w.heap.size, 1, none⟩ = some (.slice A' u.length c') := cell_later hb2 (by assumption); have k2 : Hid (Blk w2 (w.heap.size + 1) 31 #[.slice none 0 0, .slice none 0 0]) := Blk.below' (Hid.out (by assumption)) hb2; have r2 : w2.cell? ⟨w.heap.size + 1, 0, none⟩ = some (.slice none 0 0) := k2.out.cell 0; have s2 : w2.cell? ⟨w.heap.size + 1, 1, none⟩ = some (.slice none 0 0) := k2.out.cell 1; have y2 : w2.frozen? ⟨w.heap.size + 1, 0, none⟩ = false := k2.out.thaw 0; have z2 : w2.frozen? ⟨w.heap.size + 1, 1, none⟩ = false := k2.out.thaw 1))
  · have o1 : (w2.setCell ⟨w.heap.size + 1, 0, none⟩ (.slice A1 l.length c1)).setCell ⟨w.heap.size + 1, 1, none⟩ (.slice A2 u.length c2) |>.ownsRow w.heap.size 120 2 (.slice A1 l.length c1) l.length (nds l) :=
      own_mono (ownsRow_setCell_below (ownsRow_setCell_below (own_mono (base' := w.heap.size + 2) (own_below ho1 hb2).out (by simp [World.drew])) (by simp) _) (by simp) _) (by omega)
    have o2 : (w2.setCell ⟨w.heap.size + 1, 0, none⟩ (.slice A1 l.length c1)).setCell ⟨w.heap.size + 1, 1, none⟩ (.slice A2 u.length c2) |>.ownsRow w.heap.size 2 1 (.slice A2 u.length c2) u.length (ints u) :=
      own_mono (ownsRow_setCell_below (ownsRow_setCell_below (own_mono (base' := w.heap.size + 2) ho2 (by have := hb1.size; simp [World.drew] at this; omega)) (by simp) _) (by simp) _) (by omega)
    have b3 : Below w.heap.size w ((w2.setCell ⟨w.heap.size + 1, 0, none⟩ (.slice A1 l.length c1)).setCell ⟨w.heap.size + 1, 1, none⟩ (.slice A2 u.length c2)) := (b2.setCell (by simp) _).setCell (by simp) _
    have HO1 := Lib.hid o1
    have HO2 := Lib.hid o2
    clear o1 o2 ho1 ho2
    go_wp2_with fail
    have kf := blk_set (blk_set k2.out 0 (.slice A1 l.length c1)) 1 (.slice A2 u.length c2)
    have g0 := kf.cell 0
    have g1 := kf.cell 1
    simp at g0 g1
    exact bodyPost_ret (v := .agg #[.slice A1 l.length c1, .slice A2 u.length c2]) (by simp [results, Try.results54, go_sem, g0, g1]) rfl ⟨A1, c1, A2, c2, rfl, HO1.out, HO2.out, b3⟩
end Go.Proofs.Ytlipkggcakgcnaa.CrdB
