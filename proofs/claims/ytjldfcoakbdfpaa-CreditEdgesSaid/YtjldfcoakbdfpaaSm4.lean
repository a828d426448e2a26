/- The contracts of the reference's Right and Same, of the law's From and To. Condition: the States lie in memory, their numbers are of 64 bits. -/
import Derived.Test.YtjldfcoakbdfpaaRr4
namespace Go.Proofs.Ytjldfcoakbdfpaa.Sm4
open Go.ChangeShapes Go.WideShapes Go.ChangeAt Go.RowKit Mem Tre Ref3 Law3 Fix3 Crd CrdB CrdC Cpl Own Res Rr4
set_option linter.unusedVariables false

set_option maxHeartbeats 1000000 in
theorem rright_any (A A' : Option Addr) (c c' : Nat) (l : List (Int × Int)) (u : List Int) (w : World) (hl : Hid (Nds w w.heap.size A l)) (hu : Hid (Ris w w.heap.size A' u)) (hw : Hid (WfN l)) (hwu : Hid (WfI u)) (hmax : (l.length : Int) ≤ 1000000) (hmay : (u.length : Int) ≤ 1000000) :
    Calls Try.prog 31 #[.agg #[.slice A l.length c, .slice A' u.length c']] w (MadeB (rightF l u) w) := by
  have b0 : Below w.heap.size w (w.alloc (.cells #[.slice A l.length c, .slice A' u.length c'] 44)) := (Below.refl _ _).alloc (Nat.le_refl _) _
  have l0 : Hid (Nds (w.alloc (.cells #[.slice A l.length c, .slice A' u.length c'] 44)) (w.alloc (.cells #[.slice A l.length c, .slice A' u.length c'] 44)).heap.size A l) := Rd.below' hl.out b0 b0.size
  have u0 : Hid (Ris (w.alloc (.cells #[.slice A l.length c, .slice A' u.length c'] 44)) (w.alloc (.cells #[.slice A l.length c, .slice A' u.length c'] 44)).heap.size A' u) := Rd.below' hu.out b0 b0.size
  have k0 : Hid (Blk (w.alloc (.cells #[.slice A l.length c, .slice A' u.length c'] 44)) w.heap.size 44 #[.slice A l.length c, .slice A' u.length c']) := Blk.fresh _ _ _
  go_enter Try.func31, Try.ntmps31
  go_wp2_with fail
  refine (rcheck_any A c l _ l0 hw (by omega)).mono ?_
  rintro e w1 ⟨rfl, hb1⟩
  have b1 := below_step b0 hb1
  have k1 := Lib.hid (Blk.below' k0.out hb1)
  have u1 : Hid (Ris w1 w1.heap.size A' u) := Rd.below' u0.out hb1 hb1.size
  have f0 : w1.cell? ⟨w.heap.size, 0, none⟩ = some (.slice A l.length c) := k1.out.cell 0
  have f1 : w1.cell? ⟨w.heap.size, 1, none⟩ = some (.slice A' u.length c') := k1.out.cell 1
  clear b0 l0 u0 k0 hb1
  by_cases hc : (chk l).1 = 0
  · have c1 : ((chk l).1 != 0) = false := by simp [hc]
    have c2 : ((chk l).1 == 0) = true := by simp [hc]
    by_cases hn : u.length = l.length
    · have n1 : ((u.length : Int) != (l.length : Int)) = false := by simp; omega
      have n2 : ((u.length : Int) == (l.length : Int)) = true := by simp; omega
      have HC := Lib.hid hc
      have HN := Lib.hid hn
      clear hc hn
      go_wp2_with fail
      go_loopg [5] u.length (fun g s5 w' => ∃ k : Nat, k + g = u.length ∧ s5 = .int .i64 k ∧ Hid (∀ i, i < k → 0 ≤ gI u i ∧ gI u i ≤ 4611686018427387904) ∧ w1 = w')
      case atStart => exact ⟨0, by omega, rfl, fun i hi => absurd hi (Nat.not_lt_zero i), rfl⟩
      case round =>
        obtain ⟨k, hk, rfl, hall, rfl⟩ := hrel
        by_cases hlt : (k : Int) < (u.length : Int)
        · obtain ⟨g, rfl⟩ : ∃ g, gk = g + 1 := ⟨gk - 1, by omega⟩
          obtain ⟨b, o, rfl, hb, hcc⟩ := Ris.at (i := k) u1.out (by omega)
          have d0 := hcc k (by omega)
          obtain ⟨d1, d2⟩ := hwu.out k (by omega)
          clear hcc
          by_cases h0 : 0 ≤ gI u k ∧ gI u k ≤ 4611686018427387904
          · have hall' : Hid (∀ i, i < k + 1 → 0 ≤ gI u i ∧ gI u i ≤ 4611686018427387904) := fun i hi => by
              by_cases e : i = k
              · subst e; exact h0
              · exact hall.out i (by omega)
            obtain ⟨h1, h2⟩ := h0
            go_wp2_with fail
            go_roundg g
            case measure => omega
            case rel => exact ⟨k + 1, by omega, by go_num, hall', rfl⟩
          · have hf := Lib.hid (rightF_a (l := l) (u := u) (all_not (u := u) (i := k) (by omega) (by omega)))
            by_cases h1 : gI u k < 0
            · clear h0
              go_wp2_with fail
              go_ret
              exact madeB_mk hf.out b1
            · have h2 : 4611686018427387904 < gI u k := by omega
              clear h0
              go_wp2_with fail
              go_ret
              exact madeB_mk hf.out b1
        · have hf := Lib.hid (rightF_t (l := l) (u := u) HC.out HN.out (fun i hi => hall.out i (by omega)))
          go_wp2_with fail
          go_ret
          exact madeB_mk hf.out b1
    · have n1 : ((u.length : Int) != (l.length : Int)) = true := by simp; omega
      have n2 : ((u.length : Int) == (l.length : Int)) = false := by simp; omega
      have hf := Lib.hid (rightF_l (l := l) (u := u) hn)
      clear hn hc
      go_wp2_with fail
      go_ret
      exact madeB_mk hf.out b1
  · have c1 : ((chk l).1 != 0) = true := by simp [hc]
    have c2 : ((chk l).1 == 0) = false := by simp [hc]
    have hf := Lib.hid (rightF_c (u := u) hc)
    clear hc
    go_wp2_with fail
    go_ret
    exact madeB_mk hf.out b1


set_option maxHeartbeats 1000000 in
theorem same_any (A A' B B' : Option Addr) (c c' d d' : Nat) (l : List (Int × Int)) (u : List Int) (w : World) (hl : Hid (Nds w w.heap.size A l)) (hu : Hid (Ris w w.heap.size A' u)) (hl2 : Hid (Nds w w.heap.size B l)) (hu2 : Hid (Ris w w.heap.size B' u)) (hmax : (l.length : Int) ≤ 1000000) (hmay : (u.length : Int) ≤ 1000000) :
    Calls Try.prog 21 #[.agg #[.slice A l.length c, .slice A' u.length c'], .agg #[.slice B l.length d, .slice B' u.length d']] w (MadeB true w) := by
  have b0 : Below w.heap.size w ((w.alloc (.cells #[.slice A l.length c, .slice A' u.length c'] 44)).alloc (.cells #[.slice B l.length d, .slice B' u.length d'] 44)) := ((Below.refl _ _).alloc (Nat.le_refl _) _).alloc (by simp) _
  have k1 : Hid (Blk ((w.alloc (.cells #[.slice A l.length c, .slice A' u.length c'] 44)).alloc (.cells #[.slice B l.length d, .slice B' u.length d'] 44)) w.heap.size 44 #[.slice A l.length c, .slice A' u.length c']) := (Blk.fresh w _ _).alloc _
  have k2 : Hid (Blk ((w.alloc (.cells #[.slice A l.length c, .slice A' u.length c'] 44)).alloc (.cells #[.slice B l.length d, .slice B' u.length d'] 44)) (w.heap.size + 1) 44 #[.slice B l.length d, .slice B' u.length d']) := by
    have := Blk.fresh (w.alloc (.cells #[.slice A l.length c, .slice A' u.length c'] 44)) 44 #[.slice B l.length d, .slice B' u.length d']
    simp only [World.size_alloc] at this
    exact this
  have l0 : Hid (Nds ((w.alloc (.cells #[.slice A l.length c, .slice A' u.length c'] 44)).alloc (.cells #[.slice B l.length d, .slice B' u.length d'] 44)) ((w.alloc (.cells #[.slice A l.length c, .slice A' u.length c'] 44)).alloc (.cells #[.slice B l.length d, .slice B' u.length d'] 44)).heap.size A l) := Rd.below' hl.out b0 b0.size
  have u0 : Hid (Ris ((w.alloc (.cells #[.slice A l.length c, .slice A' u.length c'] 44)).alloc (.cells #[.slice B l.length d, .slice B' u.length d'] 44)) ((w.alloc (.cells #[.slice A l.length c, .slice A' u.length c'] 44)).alloc (.cells #[.slice B l.length d, .slice B' u.length d'] 44)).heap.size A' u) := Rd.below' hu.out b0 b0.size
  have l2 : Hid (Nds ((w.alloc (.cells #[.slice A l.length c, .slice A' u.length c'] 44)).alloc (.cells #[.slice B l.length d, .slice B' u.length d'] 44)) ((w.alloc (.cells #[.slice A l.length c, .slice A' u.length c'] 44)).alloc (.cells #[.slice B l.length d, .slice B' u.length d'] 44)).heap.size B l) := Rd.below' hl2.out b0 b0.size
  have u2 : Hid (Ris ((w.alloc (.cells #[.slice A l.length c, .slice A' u.length c'] 44)).alloc (.cells #[.slice B l.length d, .slice B' u.length d'] 44)) ((w.alloc (.cells #[.slice A l.length c, .slice A' u.length c'] 44)).alloc (.cells #[.slice B l.length d, .slice B' u.length d'] 44)).heap.size B' u) := Rd.below' hu2.out b0 b0.size
  have e1 : ((l.length : Int) != (l.length : Int)) = false := by simp
  have e2 : ((u.length : Int) != (u.length : Int)) = false := by simp
  have hsz : w.heap.size < ((w.alloc (.cells #[.slice A l.length c, .slice A' u.length c'] 44)).alloc (.cells #[.slice B l.length d, .slice B' u.length d'] 44)).heap.size := by simp; omega
  go_enter Try.func21, Try.ntmps21
  go_wp2_with fail
  generalize ((w.alloc (.cells #[.slice A l.length c, .slice A' u.length c'] 44)).alloc (.cells #[.slice B l.length d, .slice B' u.length d'] 44)) = W1 at b0 k1 k2 l0 u0 l2 u2 ⊢
  have f0 : W1.cell? ⟨w.heap.size, 0, none⟩ = some (.slice A l.length c) := k1.out.cell 0
  have f1 : W1.cell? ⟨w.heap.size, 1, none⟩ = some (.slice A' u.length c') := k1.out.cell 1
  have f2 : W1.cell? ⟨w.heap.size + 1, 0, none⟩ = some (.slice B l.length d) := k2.out.cell 0
  have f3 : W1.cell? ⟨w.heap.size + 1, 1, none⟩ = some (.slice B' u.length d') := k2.out.cell 1
  go_loopg [5] l.length (fun g s5 w' => ∃ (k nq : Nat), k + g = l.length ∧ s5 = .int .i64 k ∧ w' = W1.drewN nq)
  case atStart => exact ⟨0, 0, by omega, rfl, rfl⟩
  case round =>
    obtain ⟨k, nq, hk, rfl, rfl⟩ := hrel
    by_cases hlt : (k : Int) < (l.length : Int)
    · obtain ⟨g, rfl⟩ : ∃ g, gk = g + 1 := ⟨gk - 1, by omega⟩
      obtain ⟨b1, o1, rfl, hb1, hc1⟩ := Nds.at l0.out (by omega)
      obtain ⟨b2, o2, rfl, hb2, hc2⟩ := Nds.at l2.out (by omega)
      have d0 := (hc1 k (by omega)).1
      have d1 := (hc1 k (by omega)).2
      have d2 := (hc2 k (by omega)).1
      have d3 := (hc2 k (by omega)).2
      clear hc1 hc2
      by_cases hlu : (k : Int) < (u.length : Int)
      · obtain ⟨b3, o3, rfl, hb3, hc3⟩ := Ris.at (i := k) u0.out (by omega)
        obtain ⟨b4, o4, rfl, hb4, hc4⟩ := Ris.at (i := k) u2.out (by omega)
        have d4 := hc3 k (by omega)
        have d5 := hc4 k (by omega)
        have t1 : decide ((k : Int) < (u.length : Int)) = true := by simp; omega
        have t2 : decide (k < u.length) = true := by simp; omega
        have t3 : (gI u k != gI u k) = false := by simp
        have t4 : (gI u k == gI u k) = true := by simp
        clear hc3 hc4
        go_wp2_with fail
        go_quiet (fail)
        go_wp2_with fail
        go_roundg g
        case measure => omega
        case rel => exact ⟨k + 1, _, by omega, by go_num, rfl⟩
      · have t1 : decide ((k : Int) < (u.length : Int)) = false := by simp; omega
        have t2 : decide (k < u.length) = false := by simp; omega
        go_wp2_with fail
        go_quiet (fail)
        go_wp2_with fail
        go_roundg g
        case measure => omega
        case rel => exact ⟨k + 1, _, by omega, by go_num, rfl⟩
    · go_wp2_with fail
      go_ret
      exact madeB_mk rfl (Below.drewN' b0 _)

end Go.Proofs.Ytjldfcoakbdfpaa.Sm4
