/- The contract of the reference's Fix, and that what it gives is a tree that may be. Condition: the list lies in memory, its numbers are of 64 bits. -/
import Derived.Test.YtjabfbeioapiaaaLaw3
namespace Go.Proofs.Ytjabfbeioapiaaa.Fix3
set_option maxRecDepth 100000
open Go.ChangeShapes Go.WideShapes Go.ChangeAt Go.RowKit Mem Tre Ref3 Law3
set_option linter.unusedVariables false

def capF (c : Int) : Int := (c % 18446744073709551616) % 4611686018427387905
def fixP (l out : List (Int × Int)) (k : Nat) : Int :=
  if 0 < k ∧ 0 ≤ nP l k then (if 3 ≤ (pathF out 3 (nP l k % k)).length then -1 else nP l k % k) else -1
def fixK (l : List (Int × Int)) : Nat → List (Int × Int)
  | 0 => []
  | k + 1 => fixK l k ++ [(fixP l (fixK l k) k, capF (nC l k))]
def fixF (l : List (Int × Int)) : List (Int × Int) := if l.length = 0 then [(-1, 1000)] else fixK l (min l.length 10)
theorem fixK_len (l : List (Int × Int)) (k : Nat) : (fixK l k).length = k := by
  induction k with
  | zero => rfl
  | succ k ih => rw [fixK, List.length_append, ih]; rfl
theorem capF_b (c : Int) : 0 ≤ capF c ∧ capF c ≤ 4611686018427387904 := by unfold capF; omega

/-- a tree that may be, each node behind the one that it hangs on -/
def Okt (l : List (Int × Int)) : Prop := ∀ i, i < l.length → -1 ≤ nP l i ∧ nP l i < i ∧ 0 ≤ nC l i ∧ nC l i ≤ 4611686018427387904 ∧ top l 3 i = true
theorem nP_snoc_lt {l : List (Int × Int)} {x : Int × Int} {i : Nat} (h : i < l.length) : nP (l ++ [x]) i = nP l i := by
  simp [nP, List.getElem?_append_left h]
theorem nC_snoc_lt {l : List (Int × Int)} {x : Int × Int} {i : Nat} (h : i < l.length) : nC (l ++ [x]) i = nC l i := by
  simp [nC, List.getElem?_append_left h]
theorem nP_snoc_eq {l : List (Int × Int)} {x : Int × Int} : nP (l ++ [x]) l.length = x.1 := by simp [nP]
theorem nC_snoc_eq {l : List (Int × Int)} {x : Int × Int} : nC (l ++ [x]) l.length = x.2 := by simp [nC]
theorem top_snoc {l : List (Int × Int)} {x : Int × Int} (h : Okt l) : ∀ (d a : Nat), a < l.length → top (l ++ [x]) d a = top l d a
  | 0, _, _ => rfl
  | d + 1, a, ha => by
    have hb := h a ha
    by_cases e : nP l a = -1
    · rw [top_m1 e, top_m1 (by rw [nP_snoc_lt ha]; exact e)]
    · have e' : (nP l a == -1) = false := by simp [e]
      rw [top_up e', top_up (by rw [nP_snoc_lt ha]; exact e'), nP_snoc_lt ha]
      exact top_snoc h d _ (by omega)
theorem top_short {l : List (Int × Int)} (h : Okt l) {a : Nat} (ha : a < l.length) (hp : (pathF l 3 a).length < 3) : top l 2 a = true := by
  have hb := h a ha
  rw [pathF_in (inR_t (by omega) (by omega)), Int.toNat_natCast] at hp
  by_cases e : nP l a = -1
  · exact top_m1 e
  · have e' : (nP l a == -1) = false := by simp [e]
    have hb2 := h (nP l a).toNat (by omega)
    rw [top_up e']
    rw [pathF_in (inR_t (by omega) (by omega))] at hp
    by_cases e2 : nP l (nP l a).toNat = -1
    · exact top_m1 e2
    · rw [pathF_in (inR_t (by omega) (by omega))] at hp
      simp at hp
      omega
theorem okt_snoc {l : List (Int × Int)} {p c : Int} (h : Okt l) (hc : 0 ≤ c ∧ c ≤ 4611686018427387904) (hp : p = -1 ∨ (0 ≤ p ∧ p < l.length ∧ (pathF l 3 p).length < 3)) : Okt (l ++ [(p, c)]) := by
  intro i hi
  simp at hi
  by_cases e : i < l.length
  · have := h i e
    rw [nP_snoc_lt e, nC_snoc_lt e, top_snoc h 3 i e]
    exact this
  · obtain rfl : i = l.length := by omega
    rw [nP_snoc_eq, nC_snoc_eq]
    refine ⟨by simp; omega, by simp; omega, hc.1, hc.2, ?_⟩
    rcases hp with hp | ⟨h0, h1, h2⟩
    · exact top_m1 (by rw [nP_snoc_eq]; exact hp)
    · have e' : (nP (l ++ [(p, c)]) l.length == -1) = false := by rw [nP_snoc_eq]; simp; omega
      rw [top_up e', nP_snoc_eq]
      simp only
      rw [top_snoc h 2 _ (by omega)]
      exact top_short h (by omega) (by rwa [Int.toNat_of_nonneg h0])
theorem fixP_or (l out : List (Int × Int)) (k : Nat) : fixP l out k = -1 ∨ (0 ≤ fixP l out k ∧ fixP l out k < k ∧ (pathF out 3 (fixP l out k)).length < 3) := by
  unfold fixP
  split
  · rename_i h
    have h1 := Int.emod_nonneg (nP l k) (b := (k : Int)) (by omega)
    have h2 := Int.emod_lt_of_pos (nP l k) (b := (k : Int)) (by omega)
    split
    · exact .inl rfl
    · exact .inr ⟨h1, h2, by omega⟩
  · exact .inl rfl
theorem okt_fixK (l : List (Int × Int)) (k : Nat) : Okt (fixK l k) := by
  induction k with
  | zero => intro i hi; simp [fixK] at hi
  | succ k ih =>
    rw [fixK]
    refine okt_snoc ih (capF_b _) ?_
    rw [fixK_len]
    exact fixP_or l _ k
theorem okt_fixF (l : List (Int × Int)) : Okt (fixF l) := by
  unfold fixF
  split
  · intro i hi
    obtain rfl : i = 0 := by simpa using hi
    exact ⟨by decide, by decide, by decide, by decide, rfl⟩
  · exact okt_fixK _ _
theorem fixF_len (l : List (Int × Int)) : 1 ≤ (fixF l).length ∧ (fixF l).length ≤ 10 := by
  unfold fixF
  split
  · simp
  · rw [fixK_len]; omega
theorem okt_wf {l : List (Int × Int)} (h : Okt l) (hl : l.length ≤ 32) : WfN l := fun i hi => by
  have := h i hi
  exact ⟨⟨by omega, by omega⟩, ⟨by omega, by omega⟩⟩
theorem okt_scan {l : List (Int × Int)} (h : Okt l) : ∀ (g k : Nat), k + g = l.length → scanF l g k = climbF l l.length 0
  | 0, k, _ => rfl
  | g + 1, k, e => by
    have hb := h k (by omega)
    rw [scan_go (g := g) (by by_cases e : nP l k = -1; exact .inl e; exact .inr (inR_t (by omega) (by omega))) hb.2.2.1 hb.2.2.2.1]
    exact okt_scan h g (k + 1) (by omega)
theorem okt_climb {l : List (Int × Int)} (h : Okt l) : ∀ (g k : Nat), k + g = l.length → climbF l g k = (0, -1)
  | 0, k, _ => rfl
  | g + 1, k, e => by
    rw [climbF_go (h k (by omega)).2.2.2.2]
    exact okt_climb h g (k + 1) (by omega)
theorem okt_chk {l : List (Int × Int)} (h : Okt l) (h1 : 1 ≤ l.length) (h2 : l.length ≤ 32) : chk l = (0, -1) := by
  rw [chk, if_neg (by omega), if_neg (by omega), okt_scan h _ 0 (by omega), okt_climb h _ 0 (by omega)]

theorem wrap_u64 (x : Int) : IntKind.u64.wrap x = x % 18446744073709551616 := by simp [IntKind.wrap, IntKind.bits, IntKind.signed]
theorem capE (c : Int) : wrap64 ((IntKind.u64.wrap c).tmod 4611686018427387905) = capF c := by
  rw [wrap_u64, Int.tmod_eq_emod_of_nonneg (Int.emod_nonneg _ (by decide))]
  have := capF_b c
  unfold wrap64
  show _ = capF c
  change ((capF c) + _) % _ - _ = _
  omega
theorem rpath_n (n : Nat) (A : Option Addr) (c : Nat) (l : List (Int × Int)) (m : Int) (w : World) (hn : n = l.length) (hl : Hid (Nds w w.heap.size A l)) (hw : Hid (WfN l)) (hmax : (l.length : Int) ≤ 9223372036854775807) (hm : inI m) :
    Calls Try.prog 27 #[.slice A n c, .int .i64 m] w (MadeI (pathF l 3 m) w) := by subst hn; exact rpath_any A c l m w hl hw hmax hm

set_option maxHeartbeats 1000000 in
theorem fix_any (A : Option Addr) (c : Nat) (l : List (Int × Int)) (w : World) (hl : Hid (Nds w w.heap.size A l)) (hw : Hid (WfN l)) (hmax : (l.length : Int) ≤ 9223372036854775807) :
    Calls Try.prog 14 #[.slice A l.length c] w (MadeNds (fixF l) w) := by
  obtain ⟨i0, hi, hz0, hz1, hz2⟩ := info_parts rnode_info
  go_enter Try.func14, Try.ntmps14
  go_wp2
  go_loopg [3, 4] (min l.length 10) (fun g s3 s4 w' => ∃ (k : Nat) (A' : Option Addr) (c' : Nat), k + g = min l.length 10 ∧ s4 = .int .i64 k ∧ s3 = .slice A' k c' ∧ Hid (w'.ownsRow w.heap.size 82 2 (.slice A' k c') k (nds (fixK l k))) ∧ Below w.heap.size w w')
  case atStart => exact ⟨0, none, 0, by omega, rfl, rfl, World.ownsRow_nil _ _ _ _, Below.refl _ _⟩
  case round =>
    obtain ⟨k, A', c', hk, rfl, rfl, hown, hbel⟩ := hrel
    by_cases hlt : k < l.length ∧ k < 10
    · obtain ⟨g, rfl⟩ : ∃ g, gk = g + 1 := ⟨gk - 1, by omega⟩
      obtain ⟨b, o, rfl, hb, hc⟩ := Nds.at hl.out (by omega)
      have hc0 : wr.cell? ⟨b, o + k * 2, none⟩ = some (.int .i64 (nP l k)) := (hbel.cell (p := ⟨b, o + k * 2, none⟩) hb).trans (hc k (by omega)).1
      have hc1 : wr.cell? ⟨b, o + k * 2 + 1, none⟩ = some (.int .i64 (nC l k)) := (hbel.cell (p := ⟨b, o + k * 2 + 1, none⟩) hb).trans (hc k (by omega)).2
      obtain ⟨hp, hcc⟩ := hw.out k (by omega)
      obtain ⟨hp1, hp2⟩ := hp
      obtain ⟨hcc1, hcc2⟩ := hcc
      obtain ⟨hlt1, hlt2⟩ := hlt
      have t1 : decide ((k : Int) < 10) = true := by simp; omega
      have hblk : b < wr.heap.size := by have := hbel.size; omega
      have hc0' : ∀ X : Obj, (wr.alloc X).cell? ⟨b, o + k * 2, none⟩ = some (.int .i64 (nP l k)) := fun X => (World.cell?_alloc_lt wr X ⟨b, o + k * 2, none⟩ hblk).trans hc0
      have HC := Lib.hid hc
      have HKK := Lib.hid hk
      clear hc hk hc0
      have hown1 : Hid (Nds (wr.alloc (.cells #[.int .i64 (nP l k % k), .int .i64 (wrap64 ((IntKind.u64.wrap (nC l k)).tmod 4611686018427387905))] 82)) (wr.alloc (.cells #[.int .i64 (nP l k % k), .int .i64 (wrap64 ((IntKind.u64.wrap (nC l k)).tmod 4611686018427387905))] 82)).heap.size A' (fixK l k)) :=
        Rd.of_own (World.ownsRow.alloc hown.out _)
      have hwk : Hid (WfN (fixK l k)) := okt_wf (okt_fixK l k) (by rw [fixK_len]; omega)
      have hlk : Hid (k = (fixK l k).length) := (fixK_len l k).symm
      have hmk : ((fixK l k).length : Int) ≤ 9223372036854775807 := by rw [fixK_len]; omega
      by_cases hq : 0 < k ∧ 0 ≤ nP l k
      · have hpp := Lib.hid hq
        obtain ⟨hq1, hq2⟩ := hq
        have hm1 := Int.emod_nonneg (nP l k) (b := (k : Int)) (by omega)
        have hm2 := Int.emod_lt_of_pos (nP l k) (b := (k : Int)) (by omega)
        obtain ⟨m, hm⟩ : ∃ m : Int, m = nP l k % k := ⟨_, rfl⟩
        have HM := Lib.hid hm
        go_wp2_with fail
        refine (rpath_n _ _ _ (fixK l k) _ _ hlk.out hown1 hwk hmk ⟨by omega, by omega⟩).mono ?_
        rintro e w1 ⟨A1, c1, rfl, hr1, hb1⟩
        have hbk : Hid (Blk w1 wr.heap.size 82 #[.int .i64 (nP l k % k), .int .i64 (wrap64 ((IntKind.u64.wrap (nC l k)).tmod 4611686018427387905))]) := Blk.below' (Blk.fresh wr _ _) hb1
        have f0 : w1.cell? ⟨wr.heap.size, 0, none⟩ = some (.int .i64 (nP l k % k)) := hbk.out.cell 0
        have f1 : w1.cell? ⟨wr.heap.size, 1, none⟩ = some (.int .i64 (wrap64 ((IntKind.u64.wrap (nC l k)).tmod 4611686018427387905))) := hbk.out.cell 1
        have z0 : w1.frozen? ⟨wr.heap.size, 0, none⟩ = false := hbk.out.thaw 0
        have hbw1 : Below wr.heap.size wr w1 := ((Below.refl _ _).alloc (Nat.le_refl _) _).trans (hb1.mono (by simp))
        have hbel1 : Below w.heap.size w w1 := hbel.trans (hbw1.mono hbel.size)
        clear hr1 hb1 hown1
        by_cases h3 : 3 ≤ (pathF (fixK l k) 3 (nP l k % k)).length
        · have h3' : decide (3 ≤ ((pathF (fixK l k) 3 (nP l k % k)).length : Int)) = true := by simp; omega
          have hpre : Hid (nds (fixK l (k + 1)) = nds (fixK l k) ++ [.int .i64 (-1), .int .i64 (wrap64 ((IntKind.u64.wrap (nC l k)).tmod 4611686018427387905))]) := by
            show _ = _
            rw [fixK, nds_snoc, capE, fixP, if_pos hpp.out, if_pos h3]
          have hbw2 : Below wr.heap.size wr (w1.setCell ⟨wr.heap.size, 0, none⟩ (.int .i64 (-1))) := hbw1.setCell (Nat.le_refl _) _
          have hbel1' : Below w.heap.size w (w1.setCell ⟨wr.heap.size, 0, none⟩ (.int .i64 (-1))) := hbel.trans (hbw2.mono hbel.size)
          have hownA := own_below hown hbw2
          clear h3 hbel1 hbw1 hown
          go_wp2_with (first
            | (at_builtin; refine wpList_app1 hownA hbel1' rfl _ _ _ rfl i0 (.agg #[.int .i64 0, .int .i64 0]) 16 Try.underlying23 hi hz0 hz1 hz2 rfl (by decide) rfl rfl (by simp [World.setCell]) [.int .i64 (-1), .int .i64 (wrap64 ((IntKind.u64.wrap (nC l k)).tmod 4611686018427387905))] rfl rfl (by simp [Value.oneCell']) (by unfold maxLen; omega) (by omega) (Nat.le_refl _) (hbel1').size (hbel1').size ?_; intro A2 c2 w2 hown2 hbel2 hsz2))
          go_roundg g
          case measure => omega
          case rel => exact ⟨k + 1, A2, c2, by have := HKK.out; omega, by go_num, rfl, by rw [hpre.out]; exact hown2, hbel2⟩
        · have h3' : decide (3 ≤ ((pathF (fixK l k) 3 (nP l k % k)).length : Int)) = false := by simp; omega
          have hpre : Hid (nds (fixK l (k + 1)) = nds (fixK l k) ++ [.int .i64 (nP l k % k), .int .i64 (wrap64 ((IntKind.u64.wrap (nC l k)).tmod 4611686018427387905))]) := by
            show _ = _
            rw [fixK, nds_snoc, capE, fixP, if_pos hpp.out, if_neg h3]
          have hownA := own_below hown hbw1
          clear h3 hbw1 hown
          go_wp2_with (first
            | (at_builtin; refine wpList_app1 hownA hbel1 rfl _ _ _ rfl i0 (.agg #[.int .i64 0, .int .i64 0]) 16 Try.underlying23 hi hz0 hz1 hz2 rfl (by decide) rfl rfl (by simp [World.setCell]) [.int .i64 (nP l k % k), .int .i64 (wrap64 ((IntKind.u64.wrap (nC l k)).tmod 4611686018427387905))] rfl rfl (by simp [Value.oneCell']) (by unfold maxLen; omega) (by omega) (Nat.le_refl _) (hbel1).size (hbel1).size ?_; intro A2 c2 w2 hown2 hbel2 hsz2))
          go_roundg g
          case measure => omega
          case rel => exact ⟨k + 1, A2, c2, by have := HKK.out; omega, by go_num, rfl, by rw [hpre.out]; exact hown2, hbel2⟩
      · have hpre : Hid (nds (fixK l (k + 1)) = nds (fixK l k) ++ [.int .i64 (-1), .int .i64 (wrap64 ((IntKind.u64.wrap (nC l k)).tmod 4611686018427387905))]) := by
          show _ = _
          rw [fixK, nds_snoc, capE, fixP, if_neg hq]
        have hbel1 : Below w.heap.size w (wr.alloc (.cells #[.int .i64 (-1), .int .i64 (wrap64 ((IntKind.u64.wrap (nC l k)).tmod 4611686018427387905))] 82)) := hbel.alloc hbel.size _
        have hownA : Hid ((wr.alloc (.cells #[.int .i64 (-1), .int .i64 (wrap64 ((IntKind.u64.wrap (nC l k)).tmod 4611686018427387905))] 82)).ownsRow w.heap.size 82 2 (.slice A' k c') k (nds (fixK l k))) := World.ownsRow.alloc hown.out _
        clear hown hown1
        by_cases hq0 : 0 < k
        · have hq1 : nP l k < 0 := by omega
          have hq2 : decide (0 ≤ nP l k) = false := by simp; omega
          clear hq
          go_wp2_with (first
            | (at_builtin; refine wpList_app1 hownA hbel1 rfl _ _ _ rfl i0 (.agg #[.int .i64 0, .int .i64 0]) 16 Try.underlying23 hi hz0 hz1 hz2 rfl (by decide) rfl rfl (by simp [World.setCell]) [.int .i64 (-1), .int .i64 (wrap64 ((IntKind.u64.wrap (nC l k)).tmod 4611686018427387905))] rfl rfl (by simp [Value.oneCell']) (by unfold maxLen; omega) (by omega) (Nat.le_refl _) (hbel1).size (hbel1).size ?_; intro A2 c2 w2 hown2 hbel2 hsz2))
          go_roundg g
          case measure => omega
          case rel => exact ⟨k + 1, A2, c2, by have := HKK.out; omega, by go_num, rfl, by rw [hpre.out]; exact hown2, hbel2⟩
        · have hq1 : k = 0 := by omega
          subst hq1
          clear hq
          go_wp2_with (first
            | (at_builtin; refine wpList_app1 hownA hbel1 rfl _ _ _ rfl i0 (.agg #[.int .i64 0, .int .i64 0]) 16 Try.underlying23 hi hz0 hz1 hz2 rfl (by decide) rfl rfl (by simp [World.setCell]) [.int .i64 (-1), .int .i64 (wrap64 ((IntKind.u64.wrap (nC l 0)).tmod 4611686018427387905))] rfl rfl (by simp [Value.oneCell']) (by unfold maxLen; omega) (by omega) (Nat.le_refl _) (hbel1).size (hbel1).size ?_; intro A2 c2 w2 hown2 hbel2 hsz2))
          go_roundg g
          case measure => omega
          case rel => exact ⟨0 + 1, A2, c2, by have := HKK.out; omega, by go_num, rfl, by rw [hpre.out]; exact hown2, hbel2⟩
    · have hgk : gk = 0 := by omega
      have hkm : Hid (k = min l.length 10) := by show _ = _; omega
      by_cases h0 : l.length = 0
      · have hk0 : k = 0 := by omega
        subst hk0
        have hres : Hid (fixF l = [(-1, 1000)]) := by show _ = _; rw [fixF, if_pos h0]
        have h1 : ¬ ((0 : Nat) : Int) < l.length := by omega
        have h0' : (l.length : Int) ≤ 0 := by omega
        clear h0 hlt
        go_wp2_with fail
        go_ret
        have hb := Blk.fresh wr 82 #[.int .i64 (-1), .int .i64 1000]
        exact madeNds_mk (xs := [(-1, 1000)]) hres.out (hb.rd' rfl) (hbel.alloc hbel.size _)
      · have hres : Hid (fixF l = fixK l k) := by show _ = _; rw [fixF, if_neg h0, hkm.out]
        have hk0 : ((k : Int) == 0) = false := beq_eq_false_iff_ne.2 (by have := hkm.out; omega)
        have hris : Hid (Nds wr wr.heap.size A' (fixK l k)) := Rd.of_own hown.out
        have hfin : Hid (MadeNds (fixF l) w (.returned (.slice A' k c')) wr) := by
          have := madeNds_mk (ys := fixF l) (c := c') hres.out hris.out hbel
          rwa [fixK_len] at this
        by_cases hlt1 : k < l.length
        · have t1 : decide ((k : Int) < 10) = false := by simp; omega
          clear hlt h0 hk hgk
          go_wp2_with fail
          go_ret
          exact hfin.out
        · have t1 : (l.length : Int) ≤ k := by omega
          clear hlt h0 hk hgk
          go_wp2_with fail
          go_ret
          exact hfin.out
end Go.Proofs.Ytjabfbeioapiaaa.Fix3
