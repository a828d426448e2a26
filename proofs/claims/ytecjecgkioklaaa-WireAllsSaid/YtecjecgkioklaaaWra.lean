/- Contract: all messages of bytes, by the reference. Condition: the bytes lie in memory. -/
import Derived.Test.YtecjecgkioklaaaWal
import Derived.Test.YtecjecgkioklaaaWdr
namespace Go.Proofs.Ytecjecgkioklaaa.Wra
set_option maxRecDepth 100000
open Go.ChangeShapes Go.WideShapes Go.ChangeAt Go.RowKit Mem Tre Ref3 Law3 Fix3 CrdB CrdC Rr4 Wpl Wmr Wrt St7 Rul6 Wen Wtk Wrd Wfi Wdp Wde Wal Wrk Wrf Wdr
set_option linter.unusedVariables false
set_option linter.unusedSimpArgs false

def MadeRd (l : List UInt8) (w : World) (e : Ending) (w' : World) : Prop :=
  (okD l ∧ e = .returned (.tuple #[mvl (msgD l), .int .i64 (lenK (fld l 0 1) : Nat)])  ∧ Below w.heap.size w w') ∨ (¬ okD l ∧ e = .returned (.tuple #[mvl m0, .int .i64 0]) ∧ Below w.heap.size w w')
theorem rdecode_d (A : Option Addr) (c : Nat) (l : List UInt8) (w : World) (hl : l.length ≤ 1000000) (hlc : l.length ≤ c) (hc : (c : Int) ≤ 9223372036854775807) (hr : Hid (By w w.heap.size A l)) :
    Calls Try.prog 33 #[.slice A l.length c] w (MadeRd l w) := by
  refine (rdecode_any A c l w hl hlc hc hr).mono ?_
  rintro e w' ⟨m, l', bad, hF, h, hb⟩
  have hd := rfir_dec hF
  rcases h with ⟨hbad, rfl⟩ | ⟨hgood, rfl⟩
  · refine .inr ⟨fun hok => ?_, rfl, hb⟩
    obtain ⟨h1, h2⟩ := hd.2 hok
    rcases hbad with h3 | h3
    · rw [h1] at h3; exact absurd h3 (by decide)
    · omega
  · obtain ⟨hok, hm, hl'⟩ := hd.1 hgood
    have e1 : ((l.length : Int) - (l'.length : Int)) = ((lenK (fld l 0 1) : Nat) : Int) := by
      have := hok.2.2.1
      rw [hl', List.length_drop]
      omega
    rw [e1, hm]
    exact .inl ⟨hok, rfl, hb⟩
theorem rmsg_info : (Try.prog.info? 63).map (fun i => (i.zero, i.size, i.bytes)) = some (some (.agg #[.int .i64 0, .int .i64 0, .int .i64 0, .bool false, .int .i64 0, .int .i64 0, .int .i64 0, .int .i64 0, .int .i64 0, .int .i64 0, .int .i64 0, .int .i64 0]), 12, 96) := by kernel_rfl
def MadeRl (l : List UInt8) (w : World) (e : Ending) (w' : World) : Prop :=
  ∃ A c, e = .returned (.tuple #[.slice A (allF l.length l).1.length c, .bool (allF l.length l).2]) ∧ Rd w' w'.heap.size A (mrow (allF l.length l).1) ∧ Below w.heap.size w w'
set_option maxHeartbeats 8000000 in
theorem rall_any (A : Option Addr) (c : Nat) (l : List UInt8) (w : World) (hl : l.length ≤ 1000000) (hlc : l.length ≤ c) (hc : (c : Int) ≤ 9223372036854775807) (hr : Hid (By w w.heap.size A l)) :
    Calls Try.prog 36 #[.slice A l.length c] w (MadeRl l w) := by
  obtain ⟨i0, hi, hz0, hz1, hz2⟩ := info_parts rmsg_info
  go_enter Try.func36, Try.ntmps36
  go_wp2_with fail
  go_loopg [0, 4] l.length (fun g s0 s4 w' => ∃ (A' : Option Addr) (c' : Nat) (lr : List UInt8) (ms : List M) (Ak : Option Addr) (ck : Nat), lr.length ≤ g ∧ s0 = .slice A' lr.length c' ∧ s4 = .slice Ak ms.length ck ∧ Hid (lr.length ≤ c' ∧ (c' : Int) ≤ 9223372036854775807 ∧ ms.length + lr.length ≤ l.length) ∧ Hid (By w' w.heap.size A' lr) ∧ Hid (w'.ownsRow w.heap.size 63 12 (.slice Ak ms.length ck) ms.length (mrow ms)) ∧ Hid (allF l.length l = (ms ++ (allF g lr).1, (allF g lr).2)) ∧ Below w.heap.size w w')
  case atStart => exact ⟨A, c, l, [], none, 0, Nat.le_refl _, rfl, rfl, ⟨hlc, hc, by simp⟩, hr, World.ownsRow_nil _ _ _ _, by show _ = _; simp, Below.refl _ _⟩
  case round =>
    obtain ⟨A', c', lr, ms, Ak, ck, hlg, rfl, rfl, hH, hby, hrow, hall, hbl⟩ := hrel
    have HBL := Lib.hid hbl
    have HLG := Lib.hid hlg
    clear hbl hlg
    by_cases h0 : lr.length = 0
    · have t0 : decide (0 < lr.length) = false := decide_eq_false (by omega)
      have hfin : Hid (allF l.length l = (ms, true)) := by show _ = _; rw [hall.out, allF_nil _ h0]; simp
      clear h0
      go_wp2_with fail
      exact bodyPost_ret (v := .tuple #[.slice Ak ms.length ck, .bool true]) (by simp [results, Try.results36, go_sem]) rfl ⟨Ak, ck, by rw [hfin.out], by rw [hfin.out]; exact Rd.of_own hrow.out, HBL.out⟩
    · obtain ⟨g, rfl⟩ : ∃ g, gk = g + 1 := ⟨gk - 1, by have := HLG.out; omega⟩
      have t0 : decide (0 < lr.length) = true := decide_eq_true (by omega)
      have hne := Lib.hid h0
      obtain ⟨b, o, hA', hbb, _⟩ := By.at (i := 0) hby.out (by omega)
      subst hA'
      clear h0
      go_wp2_with fail
      refine (rdecode_d (some ⟨b, o, none⟩) c' lr _ (by have := hH.out.2.2; omega) hH.out.1 hH.out.2.1 (Rd.more hby.out HBL.out.size)).mono ?_
      rintro e w1 (⟨hok, rfl, hb1⟩ | ⟨hno, rfl, hb1⟩)
      case inr =>
        have b1 : Hid (Below w.heap.size w w1) := HBL.out.trans (hb1.mono HBL.out.size)
        have r1 : Hid (w1.ownsRow w.heap.size 63 12 (.slice Ak ms.length ck) ms.length (mrow ms)) := own_below hrow hb1
        have R2 : Hid ((w1.alloc (.cells #[.int .i64 0, .int .i64 0, .int .i64 0, .bool false, .int .i64 0, .int .i64 0, .int .i64 0, .int .i64 0, .int .i64 0, .int .i64 0, .int .i64 0, .int .i64 0] 63)).ownsRow w.heap.size 63 12 (.slice Ak ms.length ck) ms.length (mrow ms)) := World.ownsRow.alloc r1.out _
        have B2 : Hid (Below w.heap.size w (w1.alloc (.cells #[.int .i64 0, .int .i64 0, .int .i64 0, .bool false, .int .i64 0, .int .i64 0, .int .i64 0, .int .i64 0, .int .i64 0, .int .i64 0, .int .i64 0, .int .i64 0] 63))) := b1.out.alloc b1.out.size _
        have hfin : Hid (allF l.length l = (ms, false)) := by
          show _ = _
          have e : allF (g + 1) lr = ([], false) := by unfold allF; rw [if_neg hne.out, okB_f hno]; rfl
          rw [hall.out, e]; simp
        rw [show mvl m0 = .agg #[.int .i64 0, .int .i64 0, .int .i64 0, .bool false, .int .i64 0, .int .i64 0, .int .i64 0, .int .i64 0, .int .i64 0, .int .i64 0, .int .i64 0, .int .i64 0] from rfl]
        clear b1 r1 hb1 hrow hby HBL hno
        go_wp2_with fail
        exact bodyPost_ret (v := .tuple #[.slice Ak ms.length ck, .bool false]) (by simp [results, Try.results36, go_sem]) rfl ⟨Ak, ck, by rw [hfin.out], by rw [hfin.out]; exact Rd.of_own R2.out, B2.out⟩
      case inl =>
        have hok := Lib.hid hok
        have hst : Hid (allF l.length l = ((ms ++ [msgD lr]) ++ (allF g (lr.drop (lenK (fld lr 0 1)))).1, (allF g (lr.drop (lenK (fld lr 0 1)))).2)) := by
          show _ = _
          have e : allF (g + 1) lr = (msgD lr :: (allF g (lr.drop (lenK (fld lr 0 1)))).1, (allF g (lr.drop (lenK (fld lr 0 1)))).2) := by
            show (if _ then _ else _) = _
            rw [if_neg hne.out, if_pos (okB_t hok.out)]
          rw [hall.out, e]
          simp
        have hKl : Hid (lenK (fld lr 0 1) ≤ lr.length) := hok.out.2.2.1
        have hKp : Hid (1 ≤ lenK (fld lr 0 1)) := lenK_pos _
        generalize lenK (fld lr 0 1) = K at hst hKl hKp ⊢
        have b1 : Hid (Below w.heap.size w w1) := HBL.out.trans (hb1.mono HBL.out.size)
        have r1 : Hid (w1.ownsRow w.heap.size 63 12 (.slice Ak ms.length ck) ms.length (mrow ms)) := own_below hrow hb1
        have y1 : Hid (By w1 w.heap.size (some ⟨b, o, none⟩) lr) := Rd.keep hby.out (fun p hp => hb1.cell (by have := HBL.out.size; omega))
        generalize msgD lr = m at hst ⊢
        obtain ⟨k, a, s, x, p, q, n, t, i, y, z, v⟩ := m
        rw [show mvl ⟨k, a, s, x, p, q, n, t, i, y, z, v⟩ = .agg #[.int .i64 k, .int .i64 a, .int .i64 s, .bool x, .int .i64 p, .int .i64 q, .int .i64 n, .int .i64 t, .int .i64 i, .int .i64 y, .int .i64 z, .int .i64 v] from rfl]
        have M2 : Hid (Blk (w1.alloc (.cells #[.int .i64 k, .int .i64 a, .int .i64 s, .bool x, .int .i64 p, .int .i64 q, .int .i64 n, .int .i64 t, .int .i64 i, .int .i64 y, .int .i64 z, .int .i64 v] 63)) w1.heap.size 63 #[.int .i64 k, .int .i64 a, .int .i64 s, .bool x, .int .i64 p, .int .i64 q, .int .i64 n, .int .i64 t, .int .i64 i, .int .i64 y, .int .i64 z, .int .i64 v]) := Blk.fresh _ _ _
        have B2 : Hid (Below w.heap.size w (w1.alloc (.cells #[.int .i64 k, .int .i64 a, .int .i64 s, .bool x, .int .i64 p, .int .i64 q, .int .i64 n, .int .i64 t, .int .i64 i, .int .i64 y, .int .i64 z, .int .i64 v] 63))) := b1.out.alloc b1.out.size _
        have R2 : Hid ((w1.alloc (.cells #[.int .i64 k, .int .i64 a, .int .i64 s, .bool x, .int .i64 p, .int .i64 q, .int .i64 n, .int .i64 t, .int .i64 i, .int .i64 y, .int .i64 z, .int .i64 v] 63)).ownsRow w.heap.size 63 12 (.slice Ak ms.length ck) ms.length (mrow ms)) := World.ownsRow.alloc r1.out _
        have Y2 : Hid (By (w1.alloc (.cells #[.int .i64 k, .int .i64 a, .int .i64 s, .bool x, .int .i64 p, .int .i64 q, .int .i64 n, .int .i64 t, .int .i64 i, .int .i64 y, .int .i64 z, .int .i64 v] 63)) w.heap.size (some ⟨b, o, none⟩) lr) := Rd.keep y1.out (fun p hp => World.cell?_alloc_lt _ _ _ (by have := b1.out.size; omega))
        have tK : ((K : Int) == 0) = false := beq_eq_false_iff_ne.2 (by have := hKp.out; omega)
        clear b1 r1 y1 hb1 hrow hby HBL hok
        go_upto_region 4 with fail
        generalize w1.alloc (.cells #[.int .i64 k, .int .i64 a, .int .i64 s, .bool x, .int .i64 p, .int .i64 q, .int .i64 n, .int .i64 t, .int .i64 i, .int .i64 y, .int .i64 z, .int .i64 v] 63) = w2 at M2 B2 R2 Y2 ⊢
        generalize w1.heap.size = gM at M2 ⊢
        obtain ⟨j0, j1, j2, j3, j4, j5, j6, j7, j8, j9, j10, j11⟩ := c12_of M2.out
        have h63 : ms.length + 1 ≤ maxLen := by have := hH.out.2.2; unfold maxLen; omega
        have hby' : (ms.length + 1) * 96 ≤ 140737488355328 := by have := hH.out.2.2; omega
        have hba : w.heap.size ≤ w2.heap.size := B2.out.size
        have hle : K ≤ lr.length := hKl.out
        have hlc2 : lr.length ≤ c' := hH.out.1
        go_wp2_with (at_builtin; refine wpList_app1G R2 rfl _ _ _ rfl i0 (.agg #[.int .i64 0, .int .i64 0, .int .i64 0, .bool false, .int .i64 0, .int .i64 0, .int .i64 0, .int .i64 0, .int .i64 0, .int .i64 0, .int .i64 0, .int .i64 0]) 96 Try.underlying81 hi hz0 hz1 hz2 rfl (by decide) rfl rfl rfl [.int .i64 k, .int .i64 a, .int .i64 s, .bool x, .int .i64 p, .int .i64 q, .int .i64 n, .int .i64 t, .int .i64 i, .int .i64 y, .int .i64 z, .int .i64 v] rfl rfl (by simp [Value.oneCell']) h63 hby' hba ?_; intro A3 c3 w3 hown3 hgr3)
        all_goals
          go_roundg g
          case measure => omega
        all_goals
          have hdl : (lr.drop K).length = lr.length - K := List.length_drop
          have b3 : Below w.heap.size w w3 := (B2.out.alloc hba _).grown hgr3 (by simp; omega) (fun q hq => by have := World.ownsRow.lt R2.out q hq; omega)
          have y3 : By w3 w.heap.size (some ⟨b, o, none⟩) lr := Rd.keep Y2.out (fun p hp => by rw [World.cell?_of_block (hgr3.block p.block (by simp; omega) (by intro e; have := World.ownsRow.lt R2.out _ e.symm; omega)), World.cell?_alloc_lt _ _ _ (by omega)])
          have hrow3 : w3.ownsRow w.heap.size 63 12 (.slice A3 (ms ++ [(⟨k, a, s, x, p, q, n, t, i, y, z, v⟩ : M)]).length c3) (ms ++ [(⟨k, a, s, x, p, q, n, t, i, y, z, v⟩ : M)]).length (mrow (ms ++ [(⟨k, a, s, x, p, q, n, t, i, y, z, v⟩ : M)])) := by
            have h := hown3.out
            have e1 : (ms ++ [(⟨k, a, s, x, p, q, n, t, i, y, z, v⟩ : M)]).length = ms.length + 1 := by simp
            rw [e1, mrow_snoc]
            exact h
          have hq := hH.out
          have hp := hKp.out
          have hg := HLG.out
        case rel => first
          | exact ⟨some ⟨b, o, none⟩, 0, lr.drop K, ms ++ [(⟨k, a, s, x, p, q, n, t, i, y, z, v⟩ : M)], A3, c3, by omega, by rw [hdl], by simp, ⟨by omega, by omega, by simp; omega⟩, by_nil (by omega), Lib.hid hrow3, hst, b3⟩
          | exact ⟨some ⟨b, o + K, none⟩, c' - K, lr.drop K, ms ++ [(⟨k, a, s, x, p, q, n, t, i, y, z, v⟩ : M)], A3, c3, by omega, by rw [hdl], by simp, ⟨by omega, by omega, by simp; omega⟩, by_drop y3 K, Lib.hid hrow3, hst, b3⟩
        case rel => first
          | exact ⟨some ⟨b, o, none⟩, 0, lr.drop K, ms ++ [(⟨k, a, s, x, p, q, n, t, i, y, z, v⟩ : M)], A3, c3, by omega, by rw [hdl], by simp, ⟨by omega, by omega, by simp; omega⟩, by_nil (by omega), Lib.hid hrow3, hst, b3⟩
          | exact ⟨some ⟨b, o + K, none⟩, c' - K, lr.drop K, ms ++ [(⟨k, a, s, x, p, q, n, t, i, y, z, v⟩ : M)], A3, c3, by omega, by rw [hdl], by simp, ⟨by omega, by omega, by simp; omega⟩, by_drop y3 K, Lib.hid hrow3, hst, b3⟩
end Go.Proofs.Ytecjecgkioklaaa.Wra
