/- Contracts of what book's calls ask: is a number in a list, a place in a row, an order among the open ones. Condition: the lists lie in memory and are not long. -/
import Derived.Test.YtjabfbeioapiaaaBks
import Derived.Deep.Draws
import Derived.Test.YtjabfbeioapiaaaCrdC
namespace Go.Proofs.Ytjabfbeioapiaaa.Bkf
set_option maxRecDepth 100000
open Go.ChangeShapes Go.WideShapes Go.ChangeAt Go.RowKit Mem Tre Ref3 Law3 CrdB CrdC Bkp Bks
set_option linter.unusedVariables false
set_option linter.unusedSimpArgs false

set_option maxHeartbeats 1000000 in
theorem index_any (A : Option Addr) (n c : Nat) (l : List Int) (v : Int) (w : World) (hn : Hid (n = l.length)) (hl : Hid (Ris w w.heap.size A l)) (hmax : (n : Int) ≤ 1000000) :
    Calls Try.prog 28 #[.slice A n c, .int .i64 v] w (fun e w' => ∃ k : Int, e = .returned (.int .i64 k) ∧ w' = w ∧ decide (0 ≤ k) = l.contains v) := by
  go_enter Try.func28, Try.ntmps28
  go_wp2_with fail
  go_loopg [8] n (fun g s8 w' => ∃ i : Nat, i + g = n ∧ s8 = .int .i64 i ∧ Hid (∀ j, j < i → gI l j ≠ v) ∧ w' = w)
  case atStart => exact ⟨0, by omega, rfl, (fun j hj => by omega), rfl⟩
  case round =>
    obtain ⟨i, hi, rfl, hno, rfl⟩ := hrel
    by_cases hlt : i < n
    · obtain ⟨g, rfl⟩ : ∃ g, gk = g + 1 := ⟨gk - 1, by omega⟩
      have t0 : decide ((i : Int) < (n : Int)) = true := by simp; omega
      obtain ⟨b, o, hA, hb, hcc⟩ := Ris.at (i := i) hl.out (by rw [← hn.out]; exact hlt)
      have hc := hcc i (by rw [← hn.out]; exact hlt)
      subst hA
      generalize hx : gI l i = x at hc
      have HX := Lib.hid hx
      clear hcc hx
      by_cases hv : v = x
      · have t1 : (v == x) = true := by simp [hv]
        have hfin : Hid (decide (0 ≤ (i : Int)) = l.contains v) := by
          show _ = _
          have : v ∈ l := by
            rw [hv, ← HX.out]
            have hi' : i < l.length := by rw [← hn.out]; exact hlt
            simp [gI, hi']
          simp [this]
        clear hv
        go_wp2_with fail
        go_ret
        exact ⟨i, rfl, rfl, hfin.out⟩
      · have t1 : (v == x) = false := by simp [hv]
        have hno' : Hid (∀ j, j < i + 1 → gI l j ≠ v) := by
          intro j hj
          by_cases hji : j = i
          · subst hji; rw [HX.out]; exact fun e => hv e.symm
          · exact hno.out j (by omega)
        clear hv
        go_wp2_with fail
        go_roundg g
        case measure => omega
        case rel => exact ⟨i + 1, by omega, by rw [Int.natCast_add]; rfl, hno', rfl⟩
    · have t0 : decide ((i : Int) < (n : Int)) = false := by simp; omega
      have hfin : Hid (decide (0 ≤ (-1 : Int)) = l.contains v) := by
        show _ = _
        have : ¬ v ∈ l := by
          intro hm
          obtain ⟨j, hj, he⟩ := List.mem_iff_getElem.1 hm
          refine hno.out j (by have := hn.out; omega) ?_
          simp [gI, hj, he]
        simp [this]
      go_wp2_with fail
      go_ret
      exact ⟨-1, rfl, rfl, hfin.out⟩
theorem contains_any (A : Option Addr) (n c : Nat) (l : List Int) (v : Int) (w : World) (hn : Hid (n = l.length)) (hl : Hid (Ris w w.heap.size A l)) (hmax : (n : Int) ≤ 1000000) :
    Calls Try.prog 18 #[.slice A n c, .int .i64 v] w (fun e w' => e = .returned (.bool (l.contains v)) ∧ w' = w) := by
  go_enter Try.func18, Try.ntmps18
  go_wp2_with fail
  refine (index_any A n c l v _ hn hl hmax).mono ?_
  rintro e w1 ⟨k, rfl, rfl, hk⟩
  have HK := Lib.hid hk
  clear hk
  go_wp2_with fail
  go_ret
  exact ⟨by rw [← HK.out]; rfl, rfl⟩
theorem hasR_any (A : Option Addr) (n c : Nat) (k : Int) (w : World) :
    Calls Try.prog 17 #[.slice A n c, .int .i64 k] w (fun e w' => e = .returned (.bool (inQ n k)) ∧ w' = w) := by
  by_cases h0 : 0 ≤ k
  · by_cases h1 : k < (n : Int)
    · have e : Hid (inQ n k = true) := inQ_t h0 h1
      have t0 : decide (0 ≤ k) = true := by simp [h0]
      have t1 : decide (k < (n : Int)) = true := by simp [h1]
      clear h0 h1
      go_enter Try.func17, Try.ntmps17
      go_wp2_with fail
      go_ret
      exact ⟨by rw [e.out]; rfl, rfl⟩
    · have e : Hid (inQ n k = false) := inQ_f (by omega)
      have t0 : decide (0 ≤ k) = true := by simp [h0]
      have t1 : decide (k < (n : Int)) = false := by simp [h1]
      clear h0 h1
      go_enter Try.func17, Try.ntmps17
      go_wp2_with fail
      go_ret
      exact ⟨by rw [e.out]; rfl, rfl⟩
  · have e : Hid (inQ n k = false) := inQ_f (by omega)
    have t0 : decide (0 ≤ k) = false := by simp [h0]
    clear h0
    go_enter Try.func17, Try.ntmps17
    go_wp2_with fail
    go_ret
    exact ⟨by rw [e.out]; rfl, rfl⟩
theorem enA_eq (id a s p q n t lf st ep : Int) (x : Bool) : enA ⟨id, ⟨a, s, x, p, q, n, t⟩, lf, st, ep⟩ = .agg #[.int .i64 id, .int .i64 a, .int .i64 s, .bool x, .int .i64 p, .int .i64 q, .int .i64 n, .int .i64 t, .int .i64 lf, .int .i64 st, .int .i64 ep] := rfl
theorem place1_any (e : En) (gi : Nat) (k : Int) (w : World) (hc : w.cell? ⟨gi, 0, none⟩ = some (.int .i64 k)) :
    Calls Try.prog 36 #[enA e, .pointer (some ⟨gi, 0, none⟩)] w (fun r w' => r = .returned (.bool (e.id == k)) ∧ Below w.heap.size w w') := by
  obtain ⟨id, ⟨a, s, x, p, q, n, t⟩, lf, st, ep⟩ := e
  have hlt := World.block_lt_of_cell? w _ hc
  have hc' : ∀ o, (w.alloc o).cell? ⟨gi, 0, none⟩ = some (.int .i64 k) := fun o => (World.cell?_alloc_lt _ _ _ hlt).trans hc
  rw [enA_eq]
  go_enter Try.func36, Try.ntmps36
  go_wp2_with fail
  go_ret
  exact ⟨rfl, (Below.refl _ _).alloc (Nat.le_refl _) _⟩
set_option maxHeartbeats 2000000 in
theorem indexF_any (A : Option Addr) (n c : Nat) (l : List En) (gi : Nat) (kk : Int) (w : World) (hn : Hid (n = l.length)) (hl : Hid (Rd w w.heap.size A (ens l))) (hmax : (n : Int) ≤ 1000000) (hc : w.cell? ⟨gi, 0, none⟩ = some (.int .i64 kk)) :
    Calls Try.prog 35 #[.slice A n c, .func (.func 36) #[] #[.pointer (some ⟨gi, 0, none⟩)]] w (fun r w' => r = .returned (.int .i64 (placeF l kk)) ∧ Below w.heap.size w w') := by
  have hlt := World.block_lt_of_cell? w _ hc
  have HC : Hid (∀ w', Below w.heap.size w w' → w'.cell? ⟨gi, 0, none⟩ = some (.int .i64 kk)) := fun w' hb => (hb.cell (p := ⟨gi, 0, none⟩) hlt).trans hc
  clear hc hlt
  go_enter Try.func35, Try.ntmps35
  go_wp2_with fail
  go_loopg [8] n (fun g s8 w' => ∃ i : Nat, i + g = n ∧ s8 = .int .i64 i ∧ Hid (∀ j, j < i → (gE l j).id ≠ kk) ∧ Hid (Below w.heap.size w w'))
  case atStart => exact ⟨0, by omega, rfl, (fun j hj => by omega), Below.refl _ _⟩
  case round =>
    obtain ⟨i, hi, rfl, hno, hbel⟩ := hrel
    by_cases hlt : i < n
    · obtain ⟨g, rfl⟩ : ∃ g, gk = g + 1 := ⟨gk - 1, by omega⟩
      have t0 : decide ((i : Int) < (n : Int)) = true := by simp; omega
      obtain ⟨b, o, hA, hb, hcc⟩ := Ens.at (Rd.below' hl.out hbel.out hbel.out.size) (by have := hn.out; omega)
      have hcs := hcc i (by rw [← hn.out]; exact hlt)
      subst hA
      obtain ⟨E, hE⟩ : ∃ E, E = gE l i := ⟨_, rfl⟩
      rw [← hE] at hcs
      have HE := Lib.hid hE
      clear hcc hE
      obtain ⟨id, ⟨a, s, x, p, q, n, t⟩, lf, st, ep⟩ := E
      obtain ⟨c0, c1, c2, c3, c4, c5, c6, c7, c8, c9, c10⟩ := hcs
      simp only [] at c0 c1 c2 c3 c4 c5 c6 c7 c8 c9 c10
      have HCr := HC.out wr hbel.out
      by_cases hv : id = kk
      · have hfin : Hid (placeF l kk = (i : Int)) := by
          show _ = _
          have hp : posE l kk = i := posE_at l kk i hno.out (by have := hn.out; omega) (by rw [← HE.out]; exact hv)
          rw [placeF_t (by rw [hp]; have := hn.out; omega), hp]
        have t1 : (id == kk) = true := by simp [hv]
        clear hv
        go_wp2_with (go_at_call 36; refine (place1_any ⟨id, ⟨a, s, x, p, q, n, t⟩, lf, st, ep⟩ gi kk _ HCr).mono ?_; rw [t1]; rintro r w1 ⟨rfl, hb1⟩)
        go_ret
        exact ⟨by rw [hfin.out]; rfl, below_step hbel.out (by assumption)⟩
      · have hno' : Hid (∀ j, j < i + 1 → (gE l j).id ≠ kk) := by
          intro j hj
          by_cases hji : j = i
          · subst hji; rw [← HE.out]; exact hv
          · exact hno.out j (by omega)
        have t1 : (id == kk) = false := by simp [hv]
        clear hv
        go_wp2_with (go_at_call 36; refine (place1_any ⟨id, ⟨a, s, x, p, q, n, t⟩, lf, st, ep⟩ gi kk _ HCr).mono ?_; rw [t1]; rintro r w1 ⟨rfl, hb1⟩)
        go_roundg g
        case measure => omega
        case rel => exact ⟨i + 1, by omega, by rw [Int.natCast_add]; rfl, hno', below_step hbel.out (by assumption)⟩
    · have t0 : decide ((i : Int) < (n : Int)) = false := by simp; omega
      have hfin : Hid (placeF l kk = -1) := by
        show _ = _
        rw [placeF_f]
        rw [posE_none l kk (fun j hj => hno.out j (by have := hn.out; omega))]
        omega
      go_wp2_with fail
      go_ret
      exact ⟨by rw [hfin.out]; rfl, hbel.out⟩
theorem place_any (sh ca : Int) (A C : Option Addr) (nr no c d : Nat) (op : List En) (k : Int) (w : World) (HNO : Hid (no = op.length)) (h : Hid (Rd w w.heap.size C (ens op))) (hmax : (no : Int) ≤ 1000000) :
    Calls Try.prog 26 #[.agg #[.int .i64 sh, .int .i64 ca, .slice A nr c, .slice C no d], .int .i64 k] w (fun r w' => r = .returned (.int .i64 (placeF op k)) ∧ Below w.heap.size w w') := by
  have b0 : Hid (Below w.heap.size w ((w.alloc (.cells #[.int .i64 sh, .int .i64 ca, .slice A nr c, .slice C no d] 37)).alloc (.cells #[.int .i64 k] 3))) := ((Below.refl _ _).alloc (Nat.le_refl _) _).alloc (by simp) _
  have k0 : ((w.alloc (.cells #[.int .i64 sh, .int .i64 ca, .slice A nr c, .slice C no d] 37)).alloc (.cells #[.int .i64 k] 3)).cell? ⟨w.heap.size + 1, 0, none⟩ = some (.int .i64 k) := by
    have := (blk_hd (by simp) : Blk ((w.alloc (.cells #[.int .i64 sh, .int .i64 ca, .slice A nr c, .slice C no d] 37)).alloc (.cells #[.int .i64 k] 3)) (w.heap.size + 1) 3 #[.int .i64 k])
    exact this.cell 0
  go_enter Try.func26, Try.ntmps26
  go_wp2_with fail
  refine (indexF_any C no d op (w.heap.size + 1) k _ HNO (Rd.below' h.out b0.out b0.out.size) hmax k0).mono ?_
  rintro r w1 ⟨rfl, hb1⟩
  have HB := Lib.hid (below_step b0.out hb1)
  clear hb1
  go_wp2_with fail
  go_ret
  exact ⟨rfl, HB.out⟩
end Go.Proofs.Ytjabfbeioapiaaa.Bkf
