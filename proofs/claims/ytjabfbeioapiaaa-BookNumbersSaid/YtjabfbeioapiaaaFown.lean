/- The contract of the reference's Fix of nodes once more, its answer a row of its own. Condition: the list lies in memory, its numbers are of 64 bits. -/
import Derived.Test.YtjabfbeioapiaaaRfx
import Derived.Test.YtjabfbeioapiaaaFcf
namespace Go.Proofs.Ytjabfbeioapiaaa.Fown
set_option maxRecDepth 100000
open Go.ChangeShapes Go.WideShapes Go.ChangeAt Go.RowKit Mem Tre Ref3 Law3 Fix3
set_option linter.unusedVariables false
set_option linter.unusedSimpArgs false

def MadeNdsR (l : List (Int × Int)) (w : World) (e : Ending) (w' : World) : Prop := ∃ A c, e = .returned (.slice A l.length c) ∧ w'.ownsRow w.heap.size 82 2 (.slice A l.length c) l.length (nds l) ∧ Below w.heap.size w w'
theorem madeNdsR_mk {xs ys : List (Int × Int)} {A : Option Addr} {c : Nat} {w w' : World} (h : ys = xs) (hr : w'.ownsRow w.heap.size 82 2 (.slice A xs.length c) xs.length (nds xs)) (hb : Below w.heap.size w w') : MadeNdsR ys w (.returned (.slice A xs.length c)) w' := by
  subst h; exact ⟨A, c, rfl, hr, hb⟩
theorem own_one {w : World} {g : Nat} {te : TypeId} {base : Nat} {a b : Value} (h : Blk w g te #[a, b]) (hb : base ≤ g) : w.ownsRow base te 2 (.slice (some ⟨g, 0, none⟩) 1 1) 1 [a, b] :=
  ⟨by simp, .inr ⟨g, 1, #[a, b], rfl, hb, h, Nat.le_refl _, by unfold maxLen; omega, by simp, by simp⟩⟩

set_option maxHeartbeats 1000000 in
theorem fix_own (A : Option Addr) (c : Nat) (l : List (Int × Int)) (w : World) (hl : Hid (Nds w w.heap.size A l)) (hw : Hid (WfN l)) (hmax : (l.length : Int) ≤ 9223372036854775807) :
    Calls Try.prog 14 #[.slice A l.length c] w (MadeNdsR (fixF l) w) := by
  obtain ⟨i0, hi, hz0, hz1, hz2⟩ := info_parts rnode_info
  go_enter Try.func14, Try.ntmps14
  go_wp2
  go_loopg [3, 4] (min l.length 10) (fun g s3 s4 w' => ∃ (k : Nat) (A' : Option Addr) (c' : Nat), k + g = min l.length 10 ∧ s4 = .int .i64 k ∧ s3 = .slice A' k c' ∧ Hid (w'.ownsRow w.heap.size 82 2 (.slice A' k c') k (nds (fixK l k))) ∧ Below w.heap.size w w')
  case atStart => exact ⟨0, none, 0, by omega, rfl, rfl, World.ownsRow_nil _ _ _ _, Below.refl _ _⟩
  case round =>
    obtain ⟨k, A', c', hk, rfl, rfl, hown, hbel⟩ := hrel
    by_cases hlt : k < l.length ∧ k < 10
    · obtain ⟨g, rfl⟩ : ∃ g, gk = g + 1 := ⟨gk - 1, by omega⟩
      obtain ⟨b, o, rfl, hb, hc⟩ := Nds.at hl.out (by omega)
      have hc0 : wr.cell? ⟨b, o + k * 2, none⟩ = some (.int .i64 (nP l k)) := (hbel.cell (p := ⟨b, o + k * 2, none⟩) hb).trans (hc k (by omega)).1
      have hc1 : wr.cell? ⟨b, o + k * 2 + 1, none⟩ = some (.int .i64 (nC l k)) := (hbel.cell (p := ⟨b, o + k * 2 + 1, none⟩) hb).trans (hc k (by omega)).2
      obtain ⟨hp, hcc⟩ := hw.out k (by omega)
      obtain ⟨hp1, hp2⟩ := hp
      obtain ⟨hcc1, hcc2⟩ := hcc
      obtain ⟨hlt1, hlt2⟩ := hlt
      have t1 : decide ((k : Int) < 10) = true := by simp; omega
      have hblk : b < wr.heap.size := by have := hbel.size; omega
      have hc0' : ∀ X : Obj, (wr.alloc X).cell? ⟨b, o + k * 2, none⟩ = some (.int .i64 (nP l k)) := fun X => (World.cell?_alloc_lt wr X ⟨b, o + k * 2, none⟩ hblk).trans hc0
      have HC := Lib.hid hc
      have HKK := Lib.hid hk
      clear hc hk hc0
      have hown1 : Hid (Nds (wr.alloc (.cells #[.int .i64 (nP l k % k), .int .i64 (wrap64 ((IntKind.u64.wrap (nC l k)).tmod 4611686018427387905))] 82)) (wr.alloc (.cells #[.int .i64 (nP l k % k), .int .i64 (wrap64 ((IntKind.u64.wrap (nC l k)).tmod 4611686018427387905))] 82)).heap.size A' (fixK l k)) :=
        Rd.of_own (World.ownsRow.alloc hown.out _)
      have hwk : Hid (WfN (fixK l k)) := okt_wf (okt_fixK l k) (by rw [fixK_len]; omega)
      have hlk : Hid (k = (fixK l k).length) := (fixK_len l k).symm
      have hmk : ((fixK l k).length : Int) ≤ 9223372036854775807 := by rw [fixK_len]; omega
      by_cases hq : 0 < k ∧ 0 ≤ nP l k
      · have hpp := Lib.hid hq
        obtain ⟨hq1, hq2⟩ := hq
        have hm1 := Int.emod_nonneg (nP l k) (b := (k : Int)) (by omega)
        have hm2 := Int.emod_lt_of_pos (nP l k) (b := (k : Int)) (by omega)
        obtain ⟨m, hm⟩ : ∃ m : Int, m = nP l k % k := ⟨_, rfl⟩
        have HM := Lib.hid hm
        go_wp2_with fail
        refine (rpath_n _ _ _ (fixK l k) _ _ hlk.out hown1 hwk hmk ⟨by omega, by omega⟩).mono ?_
        rintro e w1 ⟨A1, c1, rfl, hr1, hb1⟩
        have hbk : Hid (Blk w1 wr.heap.size 82 #[.int .i64 (nP l k % k), .int .i64 (wrap64 ((IntKind.u64.wrap (nC l k)).tmod 4611686018427387905))]) := Blk.below' (Blk.fresh wr _ _) hb1
        have f0 : w1.cell? ⟨wr.heap.size, 0, none⟩ = some (.int .i64 (nP l k % k)) := hbk.out.cell 0
        have f1 : w1.cell? ⟨wr.heap.size, 1, none⟩ = some (.int .i64 (wrap64 ((IntKind.u64.wrap (nC l k)).tmod 4611686018427387905))) := hbk.out.cell 1
        have z0 : w1.frozen? ⟨wr.heap.size, 0, none⟩ = false := hbk.out.thaw 0
        have hbw1 : Below wr.heap.size wr w1 := ((Below.refl _ _).alloc (Nat.le_refl _) _).trans (hb1.mono (by simp))
        have hbel1 : Below w.heap.size w w1 := hbel.trans (hbw1.mono hbel.size)
        clear hr1 hb1 hown1
        by_cases h3 : 3 ≤ (pathF (fixK l k) 3 (nP l k % k)).length
        · have h3' : decide (3 ≤ ((pathF (fixK l k) 3 (nP l k % k)).length : Int)) = true := by simp; omega
          have hpre : Hid (nds (fixK l (k + 1)) = nds (fixK l k) ++ [.int .i64 (-1), .int .i64 (wrap64 ((IntKind.u64.wrap (nC l k)).tmod 4611686018427387905))]) := by
            show _ = _
            rw [fixK, nds_snoc, capE, fixP, if_pos hpp.out, if_pos h3]
          have hbw2 : Below wr.heap.size wr (w1.setCell ⟨wr.heap.size, 0, none⟩ (.int .i64 (-1))) := hbw1.setCell (Nat.le_refl _) _
          have hbel1' : Below w.heap.size w (w1.setCell ⟨wr.heap.size, 0, none⟩ (.int .i64 (-1))) := hbel.trans (hbw2.mono hbel.size)
          have hownA := own_below hown hbw2
          clear h3 hbel1 hbw1 hown
          go_wp2_with (first
            | (at_builtin; refine wpList_app1 hownA hbel1' rfl _ _ _ rfl i0 (.agg #[.int .i64 0, .int .i64 0]) 16 Try.underlying23 hi hz0 hz1 hz2 rfl (by decide) rfl rfl (by simp [World.setCell]) [.int .i64 (-1), .int .i64 (wrap64 ((IntKind.u64.wrap (nC l k)).tmod 4611686018427387905))] rfl rfl (by simp [Value.oneCell']) (by unfold maxLen; omega) (by omega) (Nat.le_refl _) (hbel1').size (hbel1').size ?_; intro A2 c2 w2 hown2 hbel2 hsz2))
          go_roundg g
          case measure => omega
          case rel => exact ⟨k + 1, A2, c2, by have := HKK.out; omega, by go_num, rfl, by rw [hpre.out]; exact hown2, hbel2⟩
        · have h3' : decide (3 ≤ ((pathF (fixK l k) 3 (nP l k % k)).length : Int)) = false := by simp; omega
          have hpre : Hid (nds (fixK l (k + 1)) = nds (fixK l k) ++ [.int .i64 (nP l k % k), .int .i64 (wrap64 ((IntKind.u64.wrap (nC l k)).tmod 4611686018427387905))]) := by
            show _ = _
            rw [fixK, nds_snoc, capE, fixP, if_pos hpp.out, if_neg h3]
          have hownA := own_below hown hbw1
          clear h3 hbw1 hown
          go_wp2_with (first
            | (at_builtin; refine wpList_app1 hownA hbel1 rfl _ _ _ rfl i0 (.agg #[.int .i64 0, .int .i64 0]) 16 Try.underlying23 hi hz0 hz1 hz2 rfl (by decide) rfl rfl (by simp [World.setCell]) [.int .i64 (nP l k % k), .int .i64 (wrap64 ((IntKind.u64.wrap (nC l k)).tmod 4611686018427387905))] rfl rfl (by simp [Value.oneCell']) (by unfold maxLen; omega) (by omega) (Nat.le_refl _) (hbel1).size (hbel1).size ?_; intro A2 c2 w2 hown2 hbel2 hsz2))
          go_roundg g
          case measure => omega
          case rel => exact ⟨k + 1, A2, c2, by have := HKK.out; omega, by go_num, rfl, by rw [hpre.out]; exact hown2, hbel2⟩
      · have hpre : Hid (nds (fixK l (k + 1)) = nds (fixK l k) ++ [.int .i64 (-1), .int .i64 (wrap64 ((IntKind.u64.wrap (nC l k)).tmod 4611686018427387905))]) := by
          show _ = _
          rw [fixK, nds_snoc, capE, fixP, if_neg hq]
        have hbel1 : Below w.heap.size w (wr.alloc (.cells #[.int .i64 (-1), .int .i64 (wrap64 ((IntKind.u64.wrap (nC l k)).tmod 4611686018427387905))] 82)) := hbel.alloc hbel.size _
        have hownA : Hid ((wr.alloc (.cells #[.int .i64 (-1), .int .i64 (wrap64 ((IntKind.u64.wrap (nC l k)).tmod 4611686018427387905))] 82)).ownsRow w.heap.size 82 2 (.slice A' k c') k (nds (fixK l k))) := World.ownsRow.alloc hown.out _
        clear hown hown1
        by_cases hq0 : 0 < k
        · have hq1 : nP l k < 0 := by omega
          have hq2 : decide (0 ≤ nP l k) = false := by simp; omega
          clear hq
          go_wp2_with (first
            | (at_builtin; refine wpList_app1 hownA hbel1 rfl _ _ _ rfl i0 (.agg #[.int .i64 0, .int .i64 0]) 16 Try.underlying23 hi hz0 hz1 hz2 rfl (by decide) rfl rfl (by simp [World.setCell]) [.int .i64 (-1), .int .i64 (wrap64 ((IntKind.u64.wrap (nC l k)).tmod 4611686018427387905))] rfl rfl (by simp [Value.oneCell']) (by unfold maxLen; omega) (by omega) (Nat.le_refl _) (hbel1).size (hbel1).size ?_; intro A2 c2 w2 hown2 hbel2 hsz2))
          go_roundg g
          case measure => omega
          case rel => exact ⟨k + 1, A2, c2, by have := HKK.out; omega, by go_num, rfl, by rw [hpre.out]; exact hown2, hbel2⟩
        · have hq1 : k = 0 := by omega
          subst hq1
          clear hq
          go_wp2_with (first
            | (at_builtin; refine wpList_app1 hownA hbel1 rfl _ _ _ rfl i0 (.agg #[.int .i64 0, .int .i64 0]) 16 Try.underlying23 hi hz0 hz1 hz2 rfl (by decide) rfl rfl (by simp [World.setCell]) [.int .i64 (-1), .int .i64 (wrap64 ((IntKind.u64.wrap (nC l 0)).tmod 4611686018427387905))] rfl rfl (by simp [Value.oneCell']) (by unfold maxLen; omega) (by omega) (Nat.le_refl _) (hbel1).size (hbel1).size ?_; intro A2 c2 w2 hown2 hbel2 hsz2))
          go_roundg g
          case measure => omega
          case rel => exact ⟨0 + 1, A2, c2, by have := HKK.out; omega, by go_num, rfl, by rw [hpre.out]; exact hown2, hbel2⟩
    · have hgk : gk = 0 := by omega
      have hkm : Hid (k = min l.length 10) := by show _ = _; omega
      by_cases h0 : l.length = 0
      · have hk0 : k = 0 := by omega
        subst hk0
        have hres : Hid (fixF l = [(-1, 1000)]) := by show _ = _; rw [fixF, if_pos h0]
        have h1 : ¬ ((0 : Nat) : Int) < l.length := by omega
        have h0' : (l.length : Int) ≤ 0 := by omega
        clear h0 hlt
        go_wp2_with fail
        go_ret
        have hb := Blk.fresh wr 82 #[.int .i64 (-1), .int .i64 1000]
        exact madeNdsR_mk (xs := [(-1, 1000)]) hres.out (own_one hb hbel.size) (hbel.alloc hbel.size _)
      · have hres : Hid (fixF l = fixK l k) := by show _ = _; rw [fixF, if_neg h0, hkm.out]
        have hk0 : ((k : Int) == 0) = false := beq_eq_false_iff_ne.2 (by have := hkm.out; omega)
        have hris : Hid (wr.ownsRow w.heap.size 82 2 (.slice A' k c') k (nds (fixK l k))) := hown.out
        have hfin : Hid (MadeNdsR (fixF l) w (.returned (.slice A' k c')) wr) := by
          have e : (fixK l k).length = k := fixK_len l k
          have := madeNdsR_mk (ys := fixF l) (xs := fixK l k) (A := A') (c := c') (w' := wr) hres.out (by rw [e]; exact hris.out) hbel
          rwa [e] at this
        by_cases hlt1 : k < l.length
        · have t1 : decide ((k : Int) < 10) = false := by simp; omega
          clear hlt h0 hk hgk
          go_wp2_with fail
          go_ret
          exact hfin.out
        · have t1 : (l.length : Int) ≤ k := by omega
          clear hlt h0 hk hgk
          go_wp2_with fail
          go_ret
          exact hfin.out
end Go.Proofs.Ytjabfbeioapiaaa.Fown
