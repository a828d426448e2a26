/- Contract: all messages of bytes, by the reference. Condition: the bytes lie in memory. -/
import Derived.Test.YtebnjhfmlihjcaaWal
import Derived.Test.YtebnjhfmlihjcaaWdr
namespace Go.Proofs.Ytebnjhfmlihjcaa.Wra
set_option maxRecDepth 100000
open Go.ChangeShapes Go.WideShapes Go.ChangeAt Go.RowKit Mem Tre Ref3 Law3 Fix3 CrdB CrdC Rr4 Wpl Wmr Wrt St7 Rul6 Wen Wtk Wrd Wfi Wdp Wde Wal Wrk Wrf Wdr
set_option linter.unusedVariables false
set_option linter.unusedSimpArgs false

def MadeRd (l : List UInt8) (w : World) (e : Ending) (w' : World) : Prop :=
  (okD l ∧ e = .returned (.tuple #[mvl (msgD l), .int .i64 (lenK (fld l 0 1) : Nat)])  ∧ Below w.heap.size w w') ∨ (¬ okD l ∧ e = .returned (.tuple #[mvl m0, .int .i64 0]) ∧ Below w.heap.size w w')
theorem rdecode_d (A : Option Addr) (c : Nat) (l : List UInt8) (w : World) (hl : l.length ≤ 1000000) (hlc : l.length ≤ c) (hc : (c : Int) ≤ 9223372036854775807) (hr : Hid (By w w.heap.size A l)) :
    Calls Try.prog 15 #[.slice A l.length c] w (MadeRd l w) := by
  refine (rdecode_any A c l w hl hlc hc hr).mono ?_
  rintro e w' ⟨m, l', bad, hF, h, hb⟩
  have hd := rfir_dec hF
  rcases h with ⟨hbad, rfl⟩ | ⟨hgood, rfl⟩
  · refine .inr ⟨fun hok => ?_, rfl, hb⟩
    obtain ⟨h1, h2⟩ := hd.2 hok
    rcases hbad with h3 | h3
    · rw [h1] at h3; exact absurd h3 (by decide)
    · omega
  · obtain ⟨hok, hm, hl'⟩ := hd.1 hgood
    have e1 : ((l.length : Int) - (l'.length : Int)) = ((lenK (fld l 0 1) : Nat) : Int) := by
      have := hok.2.2.1
      rw [hl', List.length_drop]
      omega
    rw [e1, hm]
    exact .inl ⟨hok, rfl, hb⟩
theorem rmsg_info : (Try.prog.info? 25).map (fun i => (i.zero, i.size, i.bytes)) = some (some (.agg #[.int .i64 0, .int .i64 0, .int .i64 0, .bool false, .int .i64 0, .int .i64 0, .int .i64 0, .int .i64 0, .int .i64 0, .int .i64 0, .int .i64 0, .int .i64 0]), 12, 96) := by kernel_rfl
def MadeRl (l : List UInt8) (w : World) (e : Ending) (w' : World) : Prop :=
  ∃ A c, e = .returned (.tuple #[.slice A (allF l.length l).1.length c, .bool (allF l.length l).2]) ∧ Rd w' w'.heap.size A (mrow (allF l.length l).1) ∧ Below w.heap.size w w'
end Go.Proofs.Ytebnjhfmlihjcaa.Wra
