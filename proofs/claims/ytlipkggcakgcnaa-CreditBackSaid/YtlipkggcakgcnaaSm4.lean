/- The contracts of the reference's Right and Same, of the law's From and To. Condition: the States lie in memory, their numbers are of 64 bits. -/
import Derived.Test.YtlipkggcakgcnaaRr4
namespace Go.Proofs.Ytlipkggcakgcnaa.Sm4
set_option maxRecDepth 100000
open Go.ChangeShapes Go.WideShapes Go.ChangeAt Go.RowKit Mem Tre Ref3 Law3 Fix3 Crd CrdB CrdC Cpl Own Res Rr4
set_option linter.unusedVariables false

set_option maxHeartbeats 1000000 in
theorem same_any (A A' B B' : Option Addr) (c c' d d' : Nat) (l : List (Int × Int)) (u : List Int) (w : World) (hl : Hid (Nds w w.heap.size A l)) (hu : Hid (Ris w w.heap.size A' u)) (hl2 : Hid (Nds w w.heap.size B l)) (hu2 : Hid (Ris w w.heap.size B' u)) (hmax : (l.length : Int) ≤ 1000000) (hmay : (u.length : Int) ≤ 1000000) :
    Calls Try.prog 17 #[.agg #[.slice A l.length c, .slice A' u.length c'], .agg #[.slice B l.length d, .slice B' u.length d']] w (MadeB true w) := by
  have b0 : Below w.heap.size w ((w.alloc (.cells #[.slice A l.length c, .slice A' u.length c'] 26)).alloc (.cells #[.slice B l.length d, .slice B' u.length d'] 26)) := ((Below.refl _ _).alloc (Nat.le_refl _) _).alloc (by simp) _
  have k1 : Hid (Blk ((w.alloc (.cells #[.slice A l.length c, .slice A' u.length c'] 26)).alloc (.cells #[.slice B l.length d, .slice B' u.length d'] 26)) w.heap.size 26 #[.slice A l.length c, .slice A' u.length c']) := (Blk.fresh w _ _).alloc _
  have k2 : Hid (Blk ((w.alloc (.cells #[.slice A l.length c, .slice A' u.length c'] 26)).alloc (.cells #[.slice B l.length d, .slice B' u.length d'] 26)) (w.heap.size + 1) 26 #[.slice B l.length d, .slice B' u.length d']) := by
    have := Blk.fresh (w.alloc (.cells #[.slice A l.length c, .slice A' u.length c'] 26)) 26 #[.slice B l.length d, .slice B' u.length d']
    simp only [World.size_alloc] at this
    exact this
  have l0 : Hid (Nds ((w.alloc (.cells #[.slice A l.length c, .slice A' u.length c'] 26)).alloc (.cells #[.slice B l.length d, .slice B' u.length d'] 26)) ((w.alloc (.cells #[.slice A l.length c, .slice A' u.length c'] 26)).alloc (.cells #[.slice B l.length d, .slice B' u.length d'] 26)).heap.size A l) := Rd.below' hl.out b0 b0.size
  have u0 : Hid (Ris ((w.alloc (.cells #[.slice A l.length c, .slice A' u.length c'] 26)).alloc (.cells #[.slice B l.length d, .slice B' u.length d'] 26)) ((w.alloc (.cells #[.slice A l.length c, .slice A' u.length c'] 26)).alloc (.cells #[.slice B l.length d, .slice B' u.length d'] 26)).heap.size A' u) := Rd.below' hu.out b0 b0.size
  have l2 : Hid (Nds ((w.alloc (.cells #[.slice A l.length c, .slice A' u.length c'] 26)).alloc (.cells #[.slice B l.length d, .slice B' u.length d'] 26)) ((w.alloc (.cells #[.slice A l.length c, .slice A' u.length c'] 26)).alloc (.cells #[.slice B l.length d, .slice B' u.length d'] 26)).heap.size B l) := Rd.below' hl2.out b0 b0.size
  have u2 : Hid (Ris ((w.alloc (.cells #[.slice A l.length c, .slice A' u.length c'] 26)).alloc (.cells #[.slice B l.length d, .slice B' u.length d'] 26)) ((w.alloc (.cells #[.slice A l.length c, .slice A' u.length c'] 26)).alloc (.cells #[.slice B l.length d, .slice B' u.length d'] 26)).heap.size B' u) := Rd.below' hu2.out b0 b0.size
  have e1 : ((l.length : Int) != (l.length : Int)) = false := by simp
  have e2 : ((u.length : Int) != (u.length : Int)) = false := by simp
  have hsz : w.heap.size < ((w.alloc (.cells #[.slice A l.length c, .slice A' u.length c'] 26)).alloc (.cells #[.slice B l.length d, .slice B' u.length d'] 26)).heap.size := by simp; omega
  go_enter Try.func17, Try.ntmps17
  go_wp2_with fail
  generalize ((w.alloc (.cells #[.slice A l.length c, .slice A' u.length c'] 26)).alloc (.cells #[.slice B l.length d, .slice B' u.length d'] 26)) = W1 at b0 k1 k2 l0 u0 l2 u2 ⊢
  have f0 : W1.cell? ⟨w.heap.size, 0, none⟩ = some (.slice A l.length c) := k1.out.cell 0
  have f1 : W1.cell? ⟨w.heap.size, 1, none⟩ = some (.slice A' u.length c') := k1.out.cell 1
  have f2 : W1.cell? ⟨w.heap.size + 1, 0, none⟩ = some (.slice B l.length d) := k2.out.cell 0
  have f3 : W1.cell? ⟨w.heap.size + 1, 1, none⟩ = some (.slice B' u.length d') := k2.out.cell 1
  go_loopg [5] l.length (fun g s5 w' => ∃ (k nq : Nat), k + g = l.length ∧ s5 = .int .i64 k ∧ w' = W1.drewN nq)
  case atStart => exact ⟨0, 0, by omega, rfl, rfl⟩
  case round =>
    obtain ⟨k, nq, hk, rfl, rfl⟩ := hrel
    by_cases hlt : (k : Int) < (l.length : Int)
    · obtain ⟨g, rfl⟩ : ∃ g, gk = g + 1 := ⟨gk - 1, by omega⟩
      obtain ⟨b1, o1, rfl, hb1, hc1⟩ := Nds.at l0.out (by omega)
      obtain ⟨b2, o2, rfl, hb2, hc2⟩ := Nds.at l2.out (by omega)
      have d0 := (hc1 k (by omega)).1
      have d1 := (hc1 k (by omega)).2
      have d2 := (hc2 k (by omega)).1
      have d3 := (hc2 k (by omega)).2
      clear hc1 hc2
      by_cases hlu : (k : Int) < (u.length : Int)
      · obtain ⟨b3, o3, rfl, hb3, hc3⟩ := Ris.at (i := k) u0.out (by omega)
        obtain ⟨b4, o4, rfl, hb4, hc4⟩ := Ris.at (i := k) u2.out (by omega)
        have d4 := hc3 k (by omega)
        have d5 := hc4 k (by omega)
        have t1 : decide ((k : Int) < (u.length : Int)) = true := by simp; omega
        have t2 : decide (k < u.length) = true := by simp; omega
        have t3 : (gI u k != gI u k) = false := by simp
        have t4 : (gI u k == gI u k) = true := by simp
        clear hc3 hc4
        go_wp2_with fail
        go_quiet (fail)
        go_wp2_with fail
        go_roundg g
        case measure => omega
        case rel => exact ⟨k + 1, _, by omega, by go_num, rfl⟩
      · have t1 : decide ((k : Int) < (u.length : Int)) = false := by simp; omega
        have t2 : decide (k < u.length) = false := by simp; omega
        go_wp2_with fail
        go_quiet (fail)
        go_wp2_with fail
        go_roundg g
        case measure => omega
        case rel => exact ⟨k + 1, _, by omega, by go_num, rfl⟩
    · go_wp2_with fail
      go_ret
      exact madeB_mk rfl (Below.drewN' b0 _)

end Go.Proofs.Ytlipkggcakgcnaa.Sm4
