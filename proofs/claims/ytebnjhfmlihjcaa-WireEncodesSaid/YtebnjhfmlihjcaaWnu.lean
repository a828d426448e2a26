/- Contract: the reference's bytes of a number. Condition: the number is not below 0. -/
import Derived.Test.YtebnjhfmlihjcaaWen
namespace Go.Proofs.Ytebnjhfmlihjcaa.Wnu
set_option maxRecDepth 100000
open Go.ChangeShapes Go.WideShapes Go.ChangeAt Go.RowKit Mem Tre Ref3 Law3 Fix3 CrdB Rr4 Wpl Wmr Wrt St7 Wen
set_option linter.unusedVariables false
set_option linter.unusedSimpArgs false

def qn (n j : Nat) : Nat := n / 256 ^ j
theorem byt_cast (n g : Nat) : ((qn n g : Nat) : Int) % 256 = ((byt n g).toNat : Int) := by
  rw [byt_nat]
  unfold qn
  generalize n / 256 ^ g = x
  omega
theorem div_step (n k : Nat) : ((qn n k : Nat) : Int).tdiv 256 = ((qn n (k + 1) : Nat) : Int) := by
  unfold qn
  rw [Nat.pow_succ, ← Nat.div_div_eq_div_mul]
  generalize n / 256 ^ k = x
  rw [Int.tdiv_eq_ediv_of_nonneg (by omega)]
  rfl
theorem qn_le (n k : Nat) : qn n k ≤ n := Nat.div_le_self _ _
set_option maxHeartbeats 4000000 in
theorem num_any (n : Nat) (size : Nat) (w : World) (hn1 : (n : Int) ≤ 9223372036854775807) (hs : size ≤ 8) :
    Calls Try.prog 36 #[.int .i64 n, .int .i64 size] w (MadeBy w.heap.size (putB n size) w) := by
  obtain ⟨i0, hi, hz0, hz1, hz2⟩ := info_parts u8_info
  go_enter Try.func36, Try.ntmps36
  go_wp2_with fail
  go_loopg [5, 6] size (fun g s5 s6 w' => ∃ (A' : Option Addr) (c' : Nat) (L : List UInt8), s6 = .int .i64 ((g : Int) - 1) ∧ s5 = .slice A' L.length c' ∧ g ≤ 8 ∧ Hid (L ++ putB n g = putB n size) ∧ Hid (w'.ownsRow w.heap.size 5 1 (.slice A' L.length c') L.length (bts L)) ∧ Below w.heap.size w w' ∧ Oth w w')
  case atStart =>
    exact ⟨none, 0, [], by go_num, rfl, hs, rfl, World.ownsRow_nil _ _ _ _, Below.refl _ _, Oth.refl _⟩
  case round =>
    obtain ⟨A', c', L, rfl, rfl, h8, hL, hrow, hbl, hot⟩ := hrel
    have hlen : Hid (L.length + gk = size) := by
      show _ = _
      have := congrArg List.length hL.out
      simpa [putB_len] using this
    by_cases h0 : 0 < gk
    · obtain ⟨g, rfl⟩ : ∃ g, gk = g + 1 := ⟨gk - 1, by omega⟩
      have eg : ((g + 1 : Nat) : Int) - 1 = (g : Int) := by omega
      rw [eg]
      have t0 : decide ((0 : Int) ≤ (g : Int)) = true := by simp
      have hl1 := hlen.out
      go_upto_region 6 with fail
      go_wp2_with fail
      go_loopg [7, 8] g (fun q s7 s8 w' => ∃ j : Nat, j + q = g ∧ s8 = .int .i64 j ∧ s7 = .int .i64 ((qn n j : Nat) : Int) ∧ w' = wr)
      case atStart => exact ⟨0, by omega, rfl, by simp [qn], rfl⟩
      case round =>
        obtain ⟨j, hj, rfl, rfl, rfl⟩ := hrel
        by_cases hq : 0 < gk
        · obtain ⟨q, rfl⟩ : ∃ q, gk = q + 1 := ⟨gk - 1, by omega⟩
          have t1 : decide ((j : Int) < (g : Int)) = true := by simp; omega
          go_wp2_with fail
          go_roundg q
          case measure => omega
          case rel =>
            refine ⟨j + 1, by omega, by go_num, ?_, rfl⟩
            have hq1 := qn_le n j
            have hq2 := div_step n j
            rw [Int.tdiv_eq_ediv_of_nonneg (by omega)] at hq2
            rw [← hq2]
            congr 1
            unfold wrap64
            omega
        · have hq0 : j = g := by omega
          subst hq0
          have t1 : decide ((j : Int) < (j : Int)) = false := by simp
          have hby : L.length + 1 ≤ maxLen := by unfold maxLen; omega
          have hbz : (L.length + 1) * 1 ≤ 140737488355328 := by omega
          have hbs : w.heap.size ≤ wr.heap.size := by have := hbl.size; omega
          have hv : Hid ([Value.int .u8 (((qn n j : Nat) : Int) % 256)] = bts [byt n j]) := by
            show _ = _
            simp only [bts, List.map_cons, List.map_nil]
            rw [byt_cast]
          go_upto_region 10 with fail
          go_wp2_with (at_builtin; refine wpList_app1G hrow rfl _ _ _ rfl i0 (.int .u8 0) 1 Try.underlying26 hi hz0 hz1 hz2 rfl (by decide) rfl rfl rfl [.int .u8 (((qn n j : Nat) : Int) % 256)] rfl rfl (by simp [Value.oneCell']) hby hbz hbs ?_; intro A2 c2 w2 hown2 hgr2)
          go_roundg j
          case measure => omega
          case rel =>
            refine ⟨A2, c2, L ++ [byt n j], by go_num, by simp, by omega, ?_, ?_, ?_, ?_⟩
            · show _ = _
              rw [← hL.out]
              simp [putB]
            · have h := hown2.out
              rw [hv.out, ← bts_app] at h
              rw [List.length_append]
              exact h
            · exact (hbl.alloc (by omega) _).grown hgr2 (by simp; omega) (fun q hq => by have := World.ownsRow.lt hrow.out q hq; omega)
            · exact (hot.trans (Oth.alloc _ _)).trans (Oth.grown (World.ownsRow.alloc hrow.out _) hgr2)
    · have hg0 : gk = 0 := by omega
      subst hg0
      have eg : ((0 : Nat) : Int) - 1 = -1 := by omega
      rw [eg]
      have e := hL.out
      simp only [putB, List.append_nil] at e
      subst e
      go_wp2_with fail
      go_ret
      exact ⟨A', c', rfl, hrow, hbl, hot⟩
end Go.Proofs.Ytebnjhfmlihjcaa.Wnu
