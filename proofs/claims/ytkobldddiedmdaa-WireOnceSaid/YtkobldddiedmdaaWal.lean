/- Contract: all messages of bytes, by wire. Condition: the bytes lie in memory. -/
import Derived.Test.YtkobldddiedmdaaWde
namespace Go.Proofs.Ytkobldddiedmdaa.Wal
set_option maxRecDepth 100000
open Go.ChangeShapes Go.WideShapes Go.ChangeAt Go.RowKit Mem Tre Ref3 Law3 Fix3 CrdB CrdC Rr4 Wpl Wmr Wrt St7 Rul6 Wen Wtk Wrd Wfi Wdp Wde
set_option linter.unusedVariables false
set_option linter.unusedSimpArgs false

def okB (l : List UInt8) : Bool := decide (1 ≤ l.length ∧ fld l 0 1 ≤ 6 ∧ lenK (fld l 0 1) ≤ l.length ∧
  (fld l 0 1 = 0 → fld l 5 1 ≤ 1 ∧ fld l 6 8 < big63 ∧ fld l 14 8 < big63 ∧ fld l 22 8 < big63 ∧ fld l 30 8 < big63) ∧
  (fld l 0 1 = 2 → fld l 5 8 < big63) ∧ (fld l 0 1 = 6 → fld l 3 8 < big63))
theorem okB_t {l : List UInt8} (h : okD l) : okB l = true := by unfold okB; simp only [decide_eq_true_eq]; exact h
theorem okB_f {l : List UInt8} (h : ¬ okD l) : okB l = false := by unfold okB; simp only [decide_eq_false_iff_not]; exact h
def allF : Nat → List UInt8 → List M × Bool
  | 0, _ => ([], true)
  | f + 1, l => if l.length = 0 then ([], true) else if okB l = true then (msgD l :: (allF f (l.drop (lenK (fld l 0 1)))).1, (allF f (l.drop (lenK (fld l 0 1)))).2) else ([], false)
theorem allF_nil (f : Nat) {l : List UInt8} (h : l.length = 0) : allF f l = ([], true) := by
  cases f with
  | zero => rfl
  | succ f => unfold allF; rw [if_pos h]
theorem lenK_pos (k : Nat) : 1 ≤ lenK k := by unfold lenK; split; · omega
                                              split; · omega
                                              split; · omega
                                              split <;> omega
def mrow (l : List M) : List Value := l.flatMap mvs
theorem mrow_len (l : List M) : (mrow l).length = l.length * 12 := by
  induction l with
  | nil => rfl
  | cons m l ih => simp [mrow, mvs] at ih ⊢; omega
theorem mrow_snoc (l : List M) (m : M) : mrow (l ++ [m]) = mrow l ++ mvs m := by simp [mrow]
theorem msg_info : (Try.prog.info? 28).map (fun i => (i.zero, i.size, i.bytes)) = some (some (.agg #[.int .i64 0, .int .i64 0, .int .i64 0, .bool false, .int .i64 0, .int .i64 0, .int .i64 0, .int .i64 0, .int .i64 0, .int .i64 0, .int .i64 0, .int .i64 0]), 12, 96) := by kernel_rfl
def MadeAl (l : List UInt8) (w : World) (e : Ending) (w' : World) : Prop :=
  ∃ A c, e = .returned (.tuple #[.slice A (allF l.length l).1.length c, .int .i64 (if (allF l.length l).2 = true then 0 else 1)]) ∧ Rd w' w'.heap.size A (mrow (allF l.length l).1) ∧ Below w.heap.size w w'
set_option maxHeartbeats 8000000 in
theorem all_any (A : Option Addr) (c : Nat) (l : List UInt8) (w : World) (hl : l.length ≤ 1000000) (hlc : l.length ≤ c) (hc : (c : Int) ≤ 9223372036854775807) (hr : Hid (By w w.heap.size A l)) :
    Calls Try.prog 7 #[.slice A l.length c] w (MadeAl l w) := by
  obtain ⟨i0, hi, hz0, hz1, hz2⟩ := info_parts msg_info
  go_enter Try.func7, Try.ntmps7
  go_wp2_with fail
  go_loopg [0, 4] l.length (fun g s0 s4 w' => ∃ (A' : Option Addr) (c' : Nat) (lr : List UInt8) (ms : List M) (Ak : Option Addr) (ck : Nat), lr.length ≤ g ∧ s0 = .slice A' lr.length c' ∧ s4 = .slice Ak ms.length ck ∧ Hid (lr.length ≤ c' ∧ (c' : Int) ≤ 9223372036854775807 ∧ ms.length + lr.length ≤ l.length) ∧ Hid (By w' w.heap.size A' lr) ∧ Hid (w'.ownsRow w.heap.size 28 12 (.slice Ak ms.length ck) ms.length (mrow ms)) ∧ Hid (allF l.length l = (ms ++ (allF g lr).1, (allF g lr).2)) ∧ Below w.heap.size w w')
  case atStart => exact ⟨A, c, l, [], none, 0, Nat.le_refl _, rfl, rfl, ⟨hlc, hc, by simp⟩, hr, World.ownsRow_nil _ _ _ _, by show _ = _; simp, Below.refl _ _⟩
  case round =>
    obtain ⟨A', c', lr, ms, Ak, ck, hlg, rfl, rfl, hH, hby, hrow, hall, hbl⟩ := hrel
    have HBL := Lib.hid hbl
    have HLG := Lib.hid hlg
    clear hbl hlg
    by_cases h0 : lr.length = 0
    · have t0 : decide (0 < lr.length) = false := decide_eq_false (by omega)
      have hfin : Hid (allF l.length l = (ms, true)) := by show _ = _; rw [hall.out, allF_nil _ h0]; simp
      clear h0
      go_wp2_with fail
      exact bodyPost_ret (v := .tuple #[.slice Ak ms.length ck, .int .i64 0]) (by simp [results, Try.results7, go_sem]) rfl ⟨Ak, ck, by rw [hfin.out]; rfl, by rw [hfin.out]; exact Rd.of_own hrow.out, HBL.out⟩
    · obtain ⟨g, rfl⟩ : ∃ g, gk = g + 1 := ⟨gk - 1, by have := HLG.out; omega⟩
      have t0 : decide (0 < lr.length) = true := decide_eq_true (by omega)
      have hne := Lib.hid h0
      clear h0
      go_wp2_with fail
      refine (first_any w.heap.size A' c' lr _ (by have := hH.out.2.2; omega) hH.out.1 hH.out.2.1 HBL.out.size hby).mono ?_
      rintro e w1 ⟨m, l1, bad, A1, c1, hF, rfl, hby1, h1, h2, h3, hb1⟩
      have hd := Lib.hid (fir_dec hF)
      have b1 : Hid (Below w.heap.size w w1) := HBL.out.trans (hb1.mono HBL.out.size)
      have r1 : Hid (w1.ownsRow w.heap.size 28 12 (.slice Ak ms.length ck) ms.length (mrow ms)) := own_below hrow hb1
      have y1 := Lib.hid hby1
      clear hF hby1 hb1 hrow hby HBL
      obtain ⟨k, a, s, x, p, q, n, t, i, y, z, v⟩ := m
      rw [show mvl ⟨k, a, s, x, p, q, n, t, i, y, z, v⟩ = .agg #[.int .i64 k, .int .i64 a, .int .i64 s, .bool x, .int .i64 p, .int .i64 q, .int .i64 n, .int .i64 t, .int .i64 i, .int .i64 y, .int .i64 z, .int .i64 v] from rfl]
      have M2 : Hid (Blk (w1.alloc (.cells #[.int .i64 k, .int .i64 a, .int .i64 s, .bool x, .int .i64 p, .int .i64 q, .int .i64 n, .int .i64 t, .int .i64 i, .int .i64 y, .int .i64 z, .int .i64 v] 28)) w1.heap.size 28 #[.int .i64 k, .int .i64 a, .int .i64 s, .bool x, .int .i64 p, .int .i64 q, .int .i64 n, .int .i64 t, .int .i64 i, .int .i64 y, .int .i64 z, .int .i64 v]) := Blk.fresh _ _ _
      have B2 : Hid (Below w.heap.size w (w1.alloc (.cells #[.int .i64 k, .int .i64 a, .int .i64 s, .bool x, .int .i64 p, .int .i64 q, .int .i64 n, .int .i64 t, .int .i64 i, .int .i64 y, .int .i64 z, .int .i64 v] 28))) := b1.out.alloc b1.out.size _
      have R2 : Hid ((w1.alloc (.cells #[.int .i64 k, .int .i64 a, .int .i64 s, .bool x, .int .i64 p, .int .i64 q, .int .i64 n, .int .i64 t, .int .i64 i, .int .i64 y, .int .i64 z, .int .i64 v] 28)).ownsRow w.heap.size 28 12 (.slice Ak ms.length ck) ms.length (mrow ms)) := World.ownsRow.alloc r1.out _
      have Y2 : Hid (By (w1.alloc (.cells #[.int .i64 k, .int .i64 a, .int .i64 s, .bool x, .int .i64 p, .int .i64 q, .int .i64 n, .int .i64 t, .int .i64 i, .int .i64 y, .int .i64 z, .int .i64 v] 28)) w.heap.size A1 l1) := Rd.keep y1.out (fun p hp => World.cell?_alloc_lt _ _ _ (by have := b1.out.size; omega))
      clear b1 r1 y1
      go_upto_region 4 with fail
      generalize w1.alloc (.cells #[.int .i64 k, .int .i64 a, .int .i64 s, .bool x, .int .i64 p, .int .i64 q, .int .i64 n, .int .i64 t, .int .i64 i, .int .i64 y, .int .i64 z, .int .i64 v] 28) = w2 at M2 B2 R2 Y2 ⊢
      generalize w1.heap.size = gM at M2 ⊢
      obtain ⟨j0, j1, j2, j3, j4, j5, j6, j7, j8, j9, j10, j11⟩ := c12_of M2.out
      cases bad with
      | true =>
        have hfin : Hid (allF l.length l = (ms, false)) := by
          show _ = _
          have hno : ¬ okD lr := fun h => absurd (hd.out.2 h) (by decide)
          have e : allF (g + 1) lr = ([], false) := by unfold allF; rw [if_neg hne.out, okB_f hno]; rfl
          rw [hall.out, e]; simp
        go_wp2_with fail
        exact bodyPost_ret (v := .tuple #[.slice Ak ms.length ck, .int .i64 1]) (by simp [results, Try.results7, go_sem]) rfl ⟨Ak, ck, by rw [hfin.out]; rfl, by rw [hfin.out]; exact Rd.of_own R2.out, B2.out⟩
      | false =>
        have hok := Lib.hid (hd.out.1 rfl)
        clear hd
        have hlt : Hid (l1.length < lr.length) := by show _ < _; rw [hok.out.2.2, List.length_drop]; have := lenK_pos (fld lr 0 1); have := hne.out; omega
        have hst : Hid (allF l.length l = ((ms ++ [⟨k, a, s, x, p, q, n, t, i, y, z, v⟩]) ++ (allF g l1).1, (allF g l1).2)) := by
          show _ = _
          have e : allF (g + 1) lr = (msgD lr :: (allF g (lr.drop (lenK (fld lr 0 1)))).1, (allF g (lr.drop (lenK (fld lr 0 1)))).2) := by
            show (if _ then _ else _) = _
            rw [if_neg hne.out, if_pos (okB_t hok.out.1)]
          rw [hall.out, e, ← hok.out.2.2, ← hok.out.2.1]
          simp
        have h63 : ms.length + 1 ≤ maxLen := by have := hH.out.2.2; unfold maxLen; omega
        have hby' : (ms.length + 1) * 96 ≤ 140737488355328 := by have := hH.out.2.2; omega
        have hba : w.heap.size ≤ w2.heap.size := B2.out.size
        go_wp2_with (at_builtin; refine wpList_app1G R2 rfl _ _ _ rfl i0 (.agg #[.int .i64 0, .int .i64 0, .int .i64 0, .bool false, .int .i64 0, .int .i64 0, .int .i64 0, .int .i64 0, .int .i64 0, .int .i64 0, .int .i64 0, .int .i64 0]) 96 Try.underlying24 hi hz0 hz1 hz2 rfl (by decide) rfl rfl rfl [.int .i64 k, .int .i64 a, .int .i64 s, .bool x, .int .i64 p, .int .i64 q, .int .i64 n, .int .i64 t, .int .i64 i, .int .i64 y, .int .i64 z, .int .i64 v] rfl rfl (by simp [Value.oneCell']) h63 hby' hba ?_; intro A3 c3 w3 hown3 hgr3)
        go_roundg g
        case measure => omega
        case rel =>
          have b3 : Below w.heap.size w w3 := (B2.out.alloc hba _).grown hgr3 (by simp; omega) (fun q hq => by have := World.ownsRow.lt R2.out q hq; omega)
          refine ⟨A1, c1, l1, ms ++ [⟨k, a, s, x, p, q, n, t, i, y, z, v⟩], A3, c3, by have := hlt.out; have := HLG.out; omega, rfl, by simp, ⟨h1, h2, by have := hlt.out; have := hH.out.2.2; simp; omega⟩, ?_, ?_, hst, b3⟩
          · exact Rd.keep Y2.out (fun p hp => by rw [World.cell?_of_block (hgr3.block p.block (by simp; omega) (by intro e; have := World.ownsRow.lt R2.out _ e.symm; omega)), World.cell?_alloc_lt _ _ _ (by omega)])
          · have h := hown3.out
            have e1 : (ms ++ [(⟨k, a, s, x, p, q, n, t, i, y, z, v⟩ : M)]).length = ms.length + 1 := by simp
            show w3.ownsRow w.heap.size 28 12 (.slice A3 (ms ++ [(⟨k, a, s, x, p, q, n, t, i, y, z, v⟩ : M)]).length c3) (ms ++ [(⟨k, a, s, x, p, q, n, t, i, y, z, v⟩ : M)]).length (mrow (ms ++ [(⟨k, a, s, x, p, q, n, t, i, y, z, v⟩ : M)]))
            rw [e1, mrow_snoc]
            exact h
end Go.Proofs.Ytkobldddiedmdaa.Wal
