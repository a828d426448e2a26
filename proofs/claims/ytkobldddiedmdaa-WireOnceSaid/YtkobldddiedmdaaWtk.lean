/- Contract: wire's reader takes a number. Condition: it is in memory, the bytes lie below it. -/
import Derived.Test.YtkobldddiedmdaaWen
import Derived.Laws.BitsAllLaws
namespace Go.Proofs.Ytkobldddiedmdaa.Wtk
set_option maxRecDepth 100000
open Go.ChangeShapes Go.WideShapes Go.ChangeAt Go.RowKit Mem Tre Ref3 Law3 Fix3 CrdB CrdC Rr4 Wpl Wmr Wrt St7 Rul6 Wen
set_option linter.unusedVariables false
set_option linter.unusedSimpArgs false

theorem or_step (v x : Nat) (hv : v * 256 < 18446744073709551616) (hx : x < 256) : bits BinOp.or IntKind.u64 (IntKind.u64.wrap ((v : Int) * 256)) (IntKind.u64.wrap (x : Int)) = ((v * 256 + x : Nat) : Int) := by
  have e1 : IntKind.u64.wrap ((v : Int) * 256) = ((v * 256 : Nat) : Int) := by rw [wrap_u64]; omega
  have e2 : IntKind.u64.wrap (x : Int) = (x : Int) := by rw [wrap_u64]; omega
  rw [e1, e2, u64_or_nat _ _ hv (by omega)]
  have h := Nat.shiftLeft_add_eq_or_of_lt (i := 8) (b := x) (by omega) v
  rw [Nat.shiftLeft_eq] at h
  have h' : v * 256 + x = v * 256 ||| x := h
  rw [← h']
theorem pow_small {n j : Nat} (h : n < 256 ^ j) (hj : j ≤ 7) : n * 256 < 18446744073709551616 := by
  have : 256 ^ j ≤ 256 ^ 7 := Nat.pow_le_pow_right (by decide) hj
  have e : (256 : Nat) ^ 7 = 72057594037927936 := by decide
  omega
theorem pow_all {n j : Nat} (h : n < 256 ^ j) (hj : j ≤ 8) : n < 18446744073709551616 := by
  have : 256 ^ j ≤ 256 ^ 8 := Nat.pow_le_pow_right (by decide) hj
  have e : (256 : Nat) ^ 8 = 18446744073709551616 := by decide
  omega
theorem by_drop {w : World} {B b o : Nat} {l : List UInt8} (h : By w B (some ⟨b, o, none⟩) l) (j : Nat) : By w B (some ⟨b, o + j, none⟩) (l.drop j) := by
  rcases h with h | ⟨b', o', hA, hb, hc⟩
  · left
    have : l = [] := by simpa [bts] using h
    subst this
    simp [bts]
  · injection hA with hA
    injection hA with h1 h2
    subst h1 h2
    refine .inr ⟨b, o + j, rfl, hb, fun i v hv => ?_⟩
    have e : bts (l.drop j) = (bts l).drop j := by simp [bts]
    rw [e, List.getElem?_drop] at hv
    rw [Nat.add_assoc]
    exact hc _ _ hv
theorem by_nil {w : World} {B : Nat} {A : Option Addr} {l : List UInt8} {j : Nat} (h : l.length ≤ j) : By w B A (l.drop j) := by
  left
  rw [List.drop_of_length_le h]
  rfl
/-- what a reader of bytes l answers, and what it leaves -/
def TakF (l : List UInt8) (size most : Nat) : Bool := decide (l.length < size) || decide (most < val (l.take size))
def MadeTk (g B c : Nat) (l : List UInt8) (size most : Nat) (w : World) (e : Ending) (w' : World) : Prop :=
  (TakF l size most = true ∧ e = .returned (.int .i64 0) ∧ w' = w.setCell ⟨g, 1, none⟩ (.bool true)) ∨
  (TakF l size most = false ∧ size ≤ l.length ∧ ∃ A' c', e = .returned (.int .i64 (val (l.take size))) ∧ w' = w.setCell ⟨g, 0, none⟩ (.slice A' (l.drop size).length c') ∧ (l.drop size).length ≤ c' ∧ c' ≤ c ∧ Hid (By w B A' (l.drop size)))
set_option maxHeartbeats 4000000 in
theorem take_any (g B : Nat) (A : Option Addr) (c : Nat) (l : List UInt8) (bad : Bool) (size most : Nat) (w : World) (hs0 : 1 ≤ size) (hs : size ≤ 8) (hm : most < 9223372036854775808) (hl : l.length ≤ 1000000) (hlc : l.length ≤ c) (hc : (c : Int) ≤ 9223372036854775807)
    (hk : Hid (Blk w g 54 #[.slice A l.length c, .bool bad])) (hB : B ≤ g) (hr : Hid (By w B A l)) :
    Calls Try.prog 20 #[.pointer (some ⟨g, 0, none⟩), .int .i64 size, .int .u64 most] w (MadeTk g B c l size most w) := by
  have s0 : w.cell? ⟨g, 0, none⟩ = some (.slice A l.length c) := hk.out.cell 0
  have s3 : w.cell? ⟨g, 1, none⟩ = some (.bool bad) := hk.out.cell 1
  have s1 : w.frozen? ⟨g, 1, none⟩ = false := hk.out.thaw 1
  have s2 : w.frozen? ⟨g, 0, none⟩ = false := hk.out.thaw 0
  by_cases hlt : l.length < size
  · have t0 : decide ((l.length : Int) < (size : Int)) = true := by simp; omega
    go_enter Try.func20, Try.ntmps20
    go_wp2_with fail
    go_ret
    exact .inl ⟨by unfold TakF; simp; exact .inl hlt, rfl, rfl⟩
  · have t0 : decide ((l.length : Int) < (size : Int)) = false := by simp; omega
    obtain ⟨b, o, hA, hbg, hcc⟩ := By.at (i := 0) hr.out (by omega)
    subst hA
    go_enter Try.func20, Try.ntmps20
    go_upto_region 6 with fail
    go_loopg [7, 9, 27] size (fun q s7 s9 s27 w' => ∃ j : Nat, j + q = size ∧ s27 = .int .i64 j ∧ s7 = .int .u64 (val (l.take j)) ∧ w' = w)
    case atStart => exact ⟨0, by omega, rfl, rfl, rfl⟩
    case round =>
      obtain ⟨j, hj, rfl, rfl, rfl⟩ := hrel
      by_cases h0 : j < size
      · obtain ⟨q, rfl⟩ : ∃ q, gk = q + 1 := ⟨gk - 1, by omega⟩
        have t1 : decide ((j : Int) < (size : Int)) = true := by simp; omega
        have d0 := hcc j (by omega)
        have hv := val_lt (l.take j)
        have hvl : (l.take j).length ≤ 7 := by rw [List.length_take]; omega
        have hst := Lib.hid (or_step (val (l.take j)) l[j].toNat (pow_small hv hvl) l[j].toNat_lt)
        have htk : Hid (val (l.take (j + 1)) = val (l.take j) * 256 + l[j].toNat) := by show _ = _; rw [List.take_succ_eq_append_getElem (by omega), val_snoc]
        clear hv hvl
        go_wp2_with fail
        go_roundg q
        case measure => omega
        case rel => exact ⟨j + 1, by omega, by go_num, by rw [htk.out, ← hst.out], rfl⟩
      · have hjs : j = size := by omega
        subst hjs
        have t1 : decide ((j : Int) < (j : Int)) = false := by simp
        have hv := pow_all (val_lt (l.take j)) (by rw [List.length_take]; omega)
        have hlt2 : Hid (j ≤ l.length) := by show _ ≤ _; omega
        have hdl : Hid ((l.drop j).length = l.length - j) := by show _ = _; rw [List.length_drop]
        by_cases hmv : most < val (l.take j)
        · have t2 : decide ((most : Int) < (val (l.take j) : Int)) = true := by simp; omega
          go_wp2_with fail
          go_ret
          exact .inl ⟨by unfold TakF; simp [hmv], rfl, rfl⟩
        · have t2 : decide ((most : Int) < (val (l.take j) : Int)) = false := by simp; omega
          have hww : Hid (wrap64 (val (l.take j) : Int) = (val (l.take j) : Int)) := by show _ = _; unfold wrap64; omega
          go_upto_region 13 with fail
          have hF : TakF l j most = false := by unfold TakF; simp; have := hlt2.out; omega
          go_wp2_with fail
          · go_ret
            rw [← hdl.out]
            exact .inr ⟨hF, hlt2.out, _, _, rfl, rfl, by have := hdl.out; omega, by omega, by_nil (by omega)⟩
          · go_ret
            rw [← hdl.out]
            exact .inr ⟨hF, hlt2.out, _, _, rfl, rfl, by have := hdl.out; omega, by omega, by_drop hr.out j⟩
end Go.Proofs.Ytkobldddiedmdaa.Wtk
