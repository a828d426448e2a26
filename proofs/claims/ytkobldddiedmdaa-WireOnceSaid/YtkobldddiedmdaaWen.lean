/- Contracts: a number's bytes put behind others, by wire and by the reference. Condition: the number is not below 0. -/
import Derived.Test.YtkobldddiedmdaaWrt
import Derived.Test.YtkobldddiedmdaaSt7
import Derived.Test.YtkobldddiedmdaaRul6
namespace Go.Proofs.Ytkobldddiedmdaa.Wen
set_option maxRecDepth 100000
open Go.ChangeShapes Go.WideShapes Go.ChangeAt Go.RowKit Mem Tre Ref3 Law3 Fix3 CrdB Rr4 Wpl Wmr Wrt St7 Rul6
set_option linter.unusedVariables false
set_option linter.unusedSimpArgs false

theorem u8_info : (Try.prog.info? 5).map (fun i => (i.zero, i.size, i.bytes)) = some (some (.int .u8 0), 1, 1) := by kernel_rfl
theorem byt_int {n : Int} (h : 0 ≤ n) (g : Nat) : ((byt n.toNat g).toNat : Int) = n / 2 ^ (8 * g) % 256 := by
  obtain ⟨m, rfl⟩ : ∃ m : Nat, n = m := ⟨n.toNat, (Int.toNat_of_nonneg h).symm⟩
  have e : (2 : Int) ^ (8 * g) = ((256 ^ g : Nat) : Int) := by
    rw [show 256 = 2 ^ 8 from rfl, ← Nat.pow_mul]
    exact (Int.natCast_pow 2 (8 * g)).symm
  rw [byt_nat, Int.toNat_natCast, e]
  rfl
/-- blocks of other things than bytes stay -/
def Oth (w w' : World) : Prop := ∀ g te cs, te ≠ 5 → Blk w g te cs → Blk w' g te cs
theorem Oth.refl (w : World) : Oth w w := fun _ _ _ _ h => h
theorem Oth.trans {a b c : World} (h : Oth a b) (k : Oth b c) : Oth a c := fun g te cs hne hb => k g te cs hne (h g te cs hne hb)
theorem Oth.alloc (w : World) (o : Obj) : Oth w (w.alloc o) := fun _ _ _ _ h => h.alloc o
theorem Oth.grown {w w' : World} {base size n : Nat} {v : Value} {xs : List Value} (ho : w.ownsRow base 5 size v n xs) (hg : w.grownBy w' v.ownBlock) : Oth w w' :=
  fun g te cs hne hb => Blk_grown hb hg (Ne.symm (own_blk_ne ho hb (Ne.symm hne)))
theorem Oth.below {w w' : World} (h : Below w.heap.size w w') : Oth w w' := fun g te cs _ hb => Blk.below' hb h
/-- bytes in a row of the call's own, behind others -/
def MadeBy (base : Nat) (l : List UInt8) (w : World) (e : Ending) (w' : World) : Prop :=
  ∃ A c, e = .returned (.slice A l.length c) ∧ Hid (w'.ownsRow base 5 1 (.slice A l.length c) l.length (bts l)) ∧ Below base w w' ∧ Oth w w'
set_option maxHeartbeats 4000000 in
theorem put_any (base : Nat) (A : Option Addr) (c : Nat) (l : List UInt8) (n : Int) (size : Nat) (w : World) (hn0 : 0 ≤ n) (hn1 : n ≤ 9223372036854775807) (hs : size ≤ 8) (hl : l.length ≤ 1000000) (hb : base ≤ w.heap.size)
    (hr : Hid (w.ownsRow base 5 1 (.slice A l.length c) l.length (bts l))) :
    Calls Try.prog 14 #[.slice A l.length c, .int .i64 n, .int .i64 size] w (MadeBy base (l ++ putB n.toNat size) w) := by
  obtain ⟨i0, hi, hz0, hz1, hz2⟩ := info_parts u8_info
  go_enter Try.func14, Try.ntmps14
  go_wp2_with fail
  go_loopg [0, 2] size (fun g s0 s2 w' => ∃ (A' : Option Addr) (c' : Nat) (L : List UInt8), s2 = .int .i64 g ∧ s0 = .slice A' L.length c' ∧ l.length ≤ L.length ∧ Hid (L ++ putB n.toNat g = l ++ putB n.toNat size) ∧ Hid (w'.ownsRow base 5 1 (.slice A' L.length c') L.length (bts L)) ∧ Below base w w' ∧ Oth w w')
  case atStart => exact ⟨A, c, l, rfl, rfl, Nat.le_refl _, rfl, hr, Below.refl _ _, Oth.refl _⟩
  case round =>
    obtain ⟨A', c', L, rfl, rfl, hll, hL, hrow, hbl, hot⟩ := hrel
    have hlen : Hid (L.length + gk = l.length + size) := by
      show _ = _
      have := congrArg List.length hL.out
      simpa [putB_len] using this
    by_cases h0 : 0 < gk
    · obtain ⟨g, rfl⟩ : ∃ g, gk = g + 1 := ⟨gk - 1, by omega⟩
      have t0 : decide ((0 : Int) < ((g + 1 : Nat) : Int)) = true := by simp <;> omega
      have hl1 := hlen.out
      go_upto_region 3 with fail
      have hby : L.length + 1 ≤ maxLen := by unfold maxLen; omega
      have hbz : (L.length + 1) * 1 ≤ 140737488355328 := by omega
      have hbs : base ≤ wr.heap.size := by have := hbl.size; omega
      have h8 : g ≤ 7 := by omega
      have hv : Hid ([Value.int .u8 (n / 2 ^ (8 * g) % 256)] = bts [byt n.toNat g]) := by
        show _ = _
        simp only [bts, List.map_cons, List.map_nil]
        rw [byt_int hn0]
      go_wp2_with (at_builtin; refine wpList_app1G hrow rfl _ _ _ rfl i0 (.int .u8 0) 1 Try.underlying23 hi hz0 hz1 hz2 rfl (by decide) rfl rfl rfl [.int .u8 (n / 2 ^ (8 * g) % 256)] rfl rfl (by simp [Value.oneCell']) hby hbz hbs ?_; intro A2 c2 w2 hown2 hgr2)
      go_roundg g
      case measure => omega
      case rel =>
        refine ⟨A2, c2, L ++ [byt n.toNat g], by go_num, by simp, by simp; omega, ?_, ?_, ?_, ?_⟩
        · show _ = _
          rw [← hL.out]
          simp [putB]
        · have h := hown2.out
          rw [hv.out, ← bts_app] at h
          rw [List.length_append]
          exact h
        · exact (hbl.alloc (by omega) _).grown hgr2 (by simp; omega) (fun q hq => by have := World.ownsRow.lt hrow.out q hq; omega)
        · exact (hot.trans (Oth.alloc _ _)).trans (Oth.grown (World.ownsRow.alloc hrow.out _) hgr2)
    · have hg0 : gk = 0 := by omega
      subst hg0
      have t0 : decide ((0 : Int) < ((0 : Nat) : Int)) = false := by decide
      have e := hL.out
      simp only [putB, List.append_nil] at e
      subst e
      go_wp2_with fail
      go_ret
      exact ⟨A', c', rfl, hrow, hbl, hot⟩
end Go.Proofs.Ytkobldddiedmdaa.Wen
