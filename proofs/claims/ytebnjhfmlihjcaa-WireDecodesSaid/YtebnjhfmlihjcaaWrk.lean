/- Contract: the reference's reader takes a number. Condition: it is in memory, the bytes lie below it. -/
import Derived.Test.YtebnjhfmlihjcaaWrd
namespace Go.Proofs.Ytebnjhfmlihjcaa.Wrk
set_option maxRecDepth 100000
open Go.ChangeShapes Go.WideShapes Go.ChangeAt Go.RowKit Mem Tre Ref3 Law3 Fix3 CrdB CrdC Rr4 Wpl Wmr Wrt St7 Rul6 Wen Wtk Wrd
set_option linter.unusedVariables false
set_option linter.unusedSimpArgs false

/-- what the reference's reader answers, and what it leaves -/
def RakF (l : List UInt8) (bad : Bool) (size : Nat) : Bool := bad || (decide (l.length < size) || (decide (size = 8) && decide (128 ≤ val (l.take 1))))
def rakS (size : Nat) (l : List UInt8) (bad : Bool) : Int × List UInt8 × Bool := if RakF l bad size = true then (0, l, true) else (val (l.take size), l.drop size, bad)
theorem val_one {l : List UInt8} (h : 0 < l.length) : val (l.take 1) = l[0].toNat := by
  rw [List.take_succ_eq_append_getElem (by omega), val_snoc]
  simp [val]
theorem val_small {l : List UInt8} {j : Nat} (hj : j ≤ 8) (hl : 0 < l.length) (h : j = 8 → l[0].toNat < 128) : val (l.take j) < 9223372036854775808 := by
  by_cases h7 : j ≤ 7
  · have a := val_lt (l.take j)
    have b : (l.take j).length ≤ 7 := by rw [List.length_take]; omega
    have c : 256 ^ (l.take j).length ≤ 256 ^ 7 := Nat.pow_le_pow_right (by decide) b
    have e : (256 : Nat) ^ 7 = 72057594037927936 := by decide
    omega
  · have h8 : j = 8 := by omega
    have hb := h h8
    subst h8
    match l, hl, hb with
    | b :: t, _, hb =>
      have hb' : b.toNat < 128 := hb
      show val (b :: t.take 7) < _
      rw [val_cons]
      have a := val_lt (t.take 7)
      have k : (t.take 7).length ≤ 7 := by rw [List.length_take]; omega
      have c : 256 ^ (t.take 7).length ≤ 256 ^ 7 := Nat.pow_le_pow_right (by decide) k
      have e : (256 : Nat) ^ 7 = 72057594037927936 := by decide
      have m : b.toNat * 256 ^ (t.take 7).length ≤ 127 * 256 ^ (t.take 7).length := Nat.mul_le_mul_right _ (by omega)
      omega
set_option maxHeartbeats 4000000 in
theorem rtake_r (g B : Nat) (l : List UInt8) (bad : Bool) (size : Nat) (w : World) (hs0 : 1 ≤ size) (hs : size ≤ 8) (hr : Hid (Rdr w g B 94 l bad)) :
    Calls Try.prog 37 #[.pointer (some ⟨g, 0, none⟩), .int .i64 size] w (MadeTr g B 94 (rakS size l bad) w) := by
  obtain ⟨A, c, hb, hB, hby, hlc, hc, hl⟩ := hr.out
  have HB := Lib.hid hb
  have HY := Lib.hid hby
  have s0 : w.cell? ⟨g, 0, none⟩ = some (.slice A l.length c) := hb.cell 0
  have s3 : w.cell? ⟨g, 1, none⟩ = some (.bool bad) := hb.cell 1
  have s1 : w.frozen? ⟨g, 1, none⟩ = false := hb.thaw 1
  have s2 : w.frozen? ⟨g, 0, none⟩ = false := hb.thaw 0
  have hgs : Hid (g < w.heap.size) := hb.lt
  have hbad : ∀ e, RakF l bad size = true → e = Ending.returned (.int .i64 0) → MadeTr g B 94 (rakS size l bad) w e (w.setCell ⟨g, 1, none⟩ (.bool true)) := by
    intro e hF he
    unfold rakS
    rw [if_pos hF]
    exact ⟨he, ⟨A, c, blk_set hb 1 _, hB, by_grown hby hB (grown_set _ _ _ _) (by have := hb.lt; omega), hlc, hc, hl⟩, grown_set _ _ _ _⟩
  have HBAD := Lib.hid hbad
  clear hbad hb hby hr
  cases bad with
  | true =>
    go_enter Try.func37, Try.ntmps37
    go_wp2_with fail
    go_ret
    exact HBAD.out _ (by unfold RakF; rfl) rfl
  | false =>
    by_cases hlt : l.length < size
    · have t0 : decide ((l.length : Int) < (size : Int)) = true := by simp; omega
      go_enter Try.func37, Try.ntmps37
      go_wp2_with fail
      go_ret
      exact HBAD.out _ (by unfold RakF; simp [hlt]) rfl
    · have t0 : decide ((l.length : Int) < (size : Int)) = false := by simp; omega
      obtain ⟨b, o, hA, hbg, hcc⟩ := By.at (i := 0) HY.out (by omega)
      subst hA
      have h0l : 0 < l.length := by omega
      have d0 : w.cell? ⟨b, o, none⟩ = some (.int .u8 ((l[0]'h0l).toNat : Int)) := hcc 0 h0l
      have hv1 := val_one (l := l) h0l
      have hsm : ∀ j, j ≤ size → (size = 8 → (l[0]'h0l).toNat < 128) → val (l.take j) < 9223372036854775808 := fun j hj h => val_small (by omega) h0l (fun e => h (by omega))
      generalize (l[0]'h0l).toNat = b0 at d0 hv1 hsm
      by_cases h8 : size = 8
      · by_cases h128 : 128 ≤ b0
        · have t1 : ((size : Int) == 8) = true := beq_iff_eq.2 (by omega)
          have t2 : decide (128 ≤ (b0 : Int)) = true := by simp; omega
          have hF : RakF l false size = true := by unfold RakF; rw [hv1]; simp [h8, h128]
          have HF := Lib.hid hF
          clear h8 h128 hv1 hF hsm
          go_enter Try.func37, Try.ntmps37
          go_wp2_with fail
          go_ret
          exact HBAD.out _ HF.out rfl
        · have t1 : ((size : Int) == 8) = true := beq_iff_eq.2 (by omega)
          have t2 : decide (128 ≤ (b0 : Int)) = false := by simp; omega
          have hF : Hid (RakF l false size = false) := by show _ = _; unfold RakF; rw [hv1]; simp [h128]; omega
          have hbd : Hid (∀ j, j ≤ size → val (l.take j) < 9223372036854775808) := by
            intro j hj
            exact hsm j hj (fun _ => by omega)
          clear h8 h128 hv1 hsm
          go_enter Try.func37, Try.ntmps37
          go_upto_region 6 with fail
          go_loopg [5, 6] size (fun q s5 s6 w' => ∃ j : Nat, j + q = size ∧ s6 = .int .i64 j ∧ s5 = .int .i64 (val (l.take j)) ∧ w' = w)
          case atStart => exact ⟨0, by omega, rfl, rfl, rfl⟩
          case round =>
            obtain ⟨j, hj, rfl, rfl, rfl⟩ := hrel
            by_cases h0 : j < size
            · obtain ⟨q, rfl⟩ : ∃ q, gk = q + 1 := ⟨gk - 1, by omega⟩
              have t3 : decide ((j : Int) < (size : Int)) = true := by simp; omega
              have d1 := hcc j (by omega)
              have hnx := hbd.out (j + 1) (by omega)
              have htk : val (l.take (j + 1)) = val (l.take j) * 256 + l[j].toNat := by rw [List.take_succ_eq_append_getElem (by omega), val_snoc]
              have w1 : Hid (wrap64 (256 * (val (l.take j) : Int)) = 256 * (val (l.take j) : Int)) := by show _ = _; unfold wrap64; omega
              have w2 : Hid (wrap64 (256 * (val (l.take j) : Int) + (l[j].toNat : Int)) = (val (l.take (j + 1)) : Int)) := by show _ = _; unfold wrap64; omega
              have w3 : Hid (wrap64 (l[j].toNat : Int) = (l[j].toNat : Int)) := by show _ = _; have := l[j].toNat_lt; unfold wrap64; omega
              clear hnx htk
              go_wp2_with fail
              go_roundg q
              case measure => omega
              case rel => exact ⟨j + 1, by omega, by go_num, by rw [w1.out, w3.out, w2.out], rfl⟩
            · have hjs : j = size := by omega
              subst hjs
              have t3 : decide ((j : Int) < (j : Int)) = false := by simp
              have hlt2 : Hid (j ≤ l.length) := by show _ ≤ _; omega
              have hdl : Hid ((l.drop j).length = l.length - j) := by show _ = _; rw [List.length_drop]
              go_wp2_with fail
              · go_ret
                unfold rakS
                rw [if_neg (by rw [hF.out]; decide)]
                refine ⟨rfl, ⟨_, _, by rw [hdl.out]; exact blk_set HB.out 0 _, hB, by_grown (by_nil (by omega)) hB (grown_set _ _ _ _) (by have := hgs.out; omega), by rw [hdl.out]; omega, by omega, by rw [hdl.out]; omega⟩, grown_set _ _ _ _⟩
              · go_ret
                unfold rakS
                rw [if_neg (by rw [hF.out]; decide)]
                refine ⟨rfl, ⟨_, _, by rw [hdl.out]; exact blk_set HB.out 0 _, hB, by_grown (by_drop HY.out j) hB (grown_set _ _ _ _) (by have := hgs.out; omega), by rw [hdl.out]; omega, by omega, by rw [hdl.out]; omega⟩, grown_set _ _ _ _⟩
      · have t1 : ((size : Int) == 8) = false := beq_eq_false_iff_ne.2 (by omega)
        have hF : Hid (RakF l false size = false) := by show _ = _; unfold RakF; simp [h8]; omega
        have hbd : Hid (∀ j, j ≤ size → val (l.take j) < 9223372036854775808) := by
          intro j hj
          exact hsm j hj (fun h => absurd h h8)
        clear h8 hv1 hsm
        go_enter Try.func37, Try.ntmps37
        go_upto_region 6 with fail
        go_loopg [5, 6] size (fun q s5 s6 w' => ∃ j : Nat, j + q = size ∧ s6 = .int .i64 j ∧ s5 = .int .i64 (val (l.take j)) ∧ w' = w)
        case atStart => exact ⟨0, by omega, rfl, rfl, rfl⟩
        case round =>
          obtain ⟨j, hj, rfl, rfl, rfl⟩ := hrel
          by_cases h0 : j < size
          · obtain ⟨q, rfl⟩ : ∃ q, gk = q + 1 := ⟨gk - 1, by omega⟩
            have t3 : decide ((j : Int) < (size : Int)) = true := by simp; omega
            have d1 := hcc j (by omega)
            have hnx := hbd.out (j + 1) (by omega)
            have htk : val (l.take (j + 1)) = val (l.take j) * 256 + l[j].toNat := by rw [List.take_succ_eq_append_getElem (by omega), val_snoc]
            have w1 : Hid (wrap64 (256 * (val (l.take j) : Int)) = 256 * (val (l.take j) : Int)) := by show _ = _; unfold wrap64; omega
            have w2 : Hid (wrap64 (256 * (val (l.take j) : Int) + (l[j].toNat : Int)) = (val (l.take (j + 1)) : Int)) := by show _ = _; unfold wrap64; omega
            have w3 : Hid (wrap64 (l[j].toNat : Int) = (l[j].toNat : Int)) := by show _ = _; have := l[j].toNat_lt; unfold wrap64; omega
            clear hnx htk
            go_wp2_with fail
            go_roundg q
            case measure => omega
            case rel => exact ⟨j + 1, by omega, by go_num, by rw [w1.out, w3.out, w2.out], rfl⟩
          · have hjs : j = size := by omega
            subst hjs
            have t3 : decide ((j : Int) < (j : Int)) = false := by simp
            have hlt2 : Hid (j ≤ l.length) := by show _ ≤ _; omega
            have hdl : Hid ((l.drop j).length = l.length - j) := by show _ = _; rw [List.length_drop]
            go_wp2_with fail
            · go_ret
              unfold rakS
              rw [if_neg (by rw [hF.out]; decide)]
              refine ⟨rfl, ⟨_, _, by rw [hdl.out]; exact blk_set HB.out 0 _, hB, by_grown (by_nil (by omega)) hB (grown_set _ _ _ _) (by have := hgs.out; omega), by rw [hdl.out]; omega, by omega, by rw [hdl.out]; omega⟩, grown_set _ _ _ _⟩
            · go_ret
              unfold rakS
              rw [if_neg (by rw [hF.out]; decide)]
              refine ⟨rfl, ⟨_, _, by rw [hdl.out]; exact blk_set HB.out 0 _, hB, by_grown (by_drop HY.out j) hB (grown_set _ _ _ _) (by have := hgs.out; omega), by rw [hdl.out]; omega, by omega, by rw [hdl.out]; omega⟩, grown_set _ _ _ _⟩
end Go.Proofs.Ytebnjhfmlihjcaa.Wrk
