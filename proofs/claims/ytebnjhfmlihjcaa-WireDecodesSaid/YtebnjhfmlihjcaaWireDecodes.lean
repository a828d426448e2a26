/- For every slice of bytes the law WireDecodes returns true, and changes nothing: the message with which they begin is told, as the reference says, and laid by just its bytes. No condition. -/
import Derived.Test.YtebnjhfmlihjcaaWbo
import Derived.Test.YtebnjhfmlihjcaaWra
import Derived.Test.YtebnjhfmlihjcaaWtx
import Derived.Test.YtebnjhfmlihjcaaWto
import Derived.Test.YtebnjhfmlihjcaaRul6
namespace Go.Proofs.Ytebnjhfmlihjcaa.wireDecodes
set_option maxRecDepth 100000
open Go.ChangeShapes Go.WideShapes Go.ChangeAt Go.RowKit Mem Tre Ref3 Law3 Fix3 CrdB CrdC Rr4 Fr4 Wpl Wmr Wrt Wen Wal Wra Wtk Wdp Wde Wec Wt6 Wtx Wto Rul4 Rul6 Few5 Wbo Opn Go.Joins Go.Deep
set_option linter.unusedVariables false
set_option linter.unusedSimpArgs false

theorem own : ownKnob Try.prog.godebug = none := by kernel_rfl
theorem laidOut : laidOutB Try.prog = true := by kernel_rfl

theorem wf_msgD {l : List UInt8} (h : okD l) : WfM (msgD l) := by
  obtain ⟨h1, hk, hn, hc0, hc2, hc6⟩ := h
  have e63 : big63 = 9223372036854775808 := rfl
  rw [e63] at hc0 hc2 hc6
  have a1 : fld l 1 2 < 65536 := fld_lt l 1 2
  have a2 : fld l 3 2 < 65536 := fld_lt l 3 2
  have a3 : fld l 1 4 < 4294967296 := fld_lt l 1 4
  unfold msgD WfM inI
  split
  · obtain ⟨_, b1, b2, b3, b4⟩ := hc0 (by assumption)
    simp only [m0]
    omega
  · split
    · simp only [m0]; omega
    · split
      · have := hc2 (by assumption)
        simp only [m0]; omega
      · split
        · have := hc6 (by assumption)
          simp only [m0]; omega
        · simp only [m0]; omega
theorem s26 {W : World} {gM gQ : Nat} {te tf : TypeId} {v0 v1 v2 v3 v4 v5 v6 v7 v8 v9 v10 v11 r0 r1 r2 r3 r4 r5 r6 r7 r8 r9 r10 r11 : Value} {A A1 : Option Addr} {c c1 : Nat} {l : List UInt8} (hM : Blk W gM te #[v0, v1, v2, v3, v4, v5, v6, v7, v8, v9, v10, v11]) (hQ : Blk W gQ tf #[r0, r1, r2, r3, r4, r5, r6, r7, r8, r9, r10, r11]) (hC : By W W.heap.size A1 l) (hY : By W W.heap.size A l) :
    W.cell? ⟨gM, 0, none⟩ = some v0 ∧ W.cell? ⟨gM, 1, none⟩ = some v1 ∧ W.cell? ⟨gM, 2, none⟩ = some v2 ∧ W.cell? ⟨gM, 3, none⟩ = some v3 ∧ W.cell? ⟨gM, 4, none⟩ = some v4 ∧ W.cell? ⟨gM, 5, none⟩ = some v5 ∧ W.cell? ⟨gM, 6, none⟩ = some v6 ∧ W.cell? ⟨gM, 7, none⟩ = some v7 ∧ W.cell? ⟨gM, 8, none⟩ = some v8 ∧ W.cell? ⟨gM, 9, none⟩ = some v9 ∧ W.cell? ⟨gM, 10, none⟩ = some v10 ∧ W.cell? ⟨gM, 11, none⟩ = some v11 ∧ W.cell? ⟨gQ, 0, none⟩ = some r0 ∧ W.cell? ⟨gQ, 1, none⟩ = some r1 ∧ W.cell? ⟨gQ, 2, none⟩ = some r2 ∧ W.cell? ⟨gQ, 3, none⟩ = some r3 ∧ W.cell? ⟨gQ, 4, none⟩ = some r4 ∧ W.cell? ⟨gQ, 5, none⟩ = some r5 ∧ W.cell? ⟨gQ, 6, none⟩ = some r6 ∧ W.cell? ⟨gQ, 7, none⟩ = some r7 ∧ W.cell? ⟨gQ, 8, none⟩ = some r8 ∧ W.cell? ⟨gQ, 9, none⟩ = some r9 ∧ W.cell? ⟨gQ, 10, none⟩ = some r10 ∧ W.cell? ⟨gQ, 11, none⟩ = some r11 ∧ (convert 26 9 (.slice A1 l.length c1)).run Try.prog W = .ok (.string ⟨l.toArray⟩) W ∧ (convert 26 9 (.slice A l.length c)).run Try.prog W = .ok (.string ⟨l.toArray⟩) W :=
  ⟨hM.cell 0, hM.cell 1, hM.cell 2, hM.cell 3, hM.cell 4, hM.cell 5, hM.cell 6, hM.cell 7, hM.cell 8, hM.cell 9, hM.cell 10, hM.cell 11, hQ.cell 0, hQ.cell 1, hQ.cell 2, hQ.cell 3, hQ.cell 4, hQ.cell 5, hQ.cell 6, hQ.cell 7, hQ.cell 8, hQ.cell 9, hQ.cell 10, hQ.cell 11, text_any hC, text_any hY⟩
attribute [local go_sem high] neP12 neQ12
attribute [local go_sem] undef
set_option maxHeartbeats 8000000 in
theorem inner2 (A : Option Addr) (N c : Nat) (l : List UInt8) (w : World) (hn : Hid (cut N 100 = l.length)) (hN : N ≤ c) (hc : (c : Int) ≤ 9223372036854775807) (hr : Hid (By w w.heap.size A l)) :
    Calls Try.prog 4 #[.slice A N c] w (MadeB true w) := by
  obtain ⟨i0, hi, hz0, hz1, hz2⟩ := info_parts u8_info
  have en : (if (100 : Int) < (N : Int) then (100 : Int) else (N : Int)) = ((cut N 100 : Nat) : Int) := cut_int
  have l1 := (cut_le (n := N) (m := 100)).1
  have l0 := (cut_le (n := N) (m := 100)).2
  rw [hn.out] at en l1 l0
  have l2 : (l.length : Int) ≤ (c : Int) := by omega
  have l3 : (0 : Int) ≤ (l.length : Int) := by omega
  have HL : Hid (l.length ≤ 100) := l0
  have HC : Hid (l.length ≤ c) := by show _ ≤ _; omega
  clear l1 l0
  go_enter Try.func4, Try.ntmps4
  go_upto_region 2 with fail
  clear en l2 l3
  have U0 : Hid (Below w.heap.size w (w.alloc (.cells #[] 5))) := (Below.refl _ _).alloc (Nat.le_refl _) _
  have R0 : Hid ((w.alloc (.cells #[] 5)).ownsRow w.heap.size 5 1 (.slice (some ⟨w.heap.size, 0, none⟩) 0 0) 0 []) := own_empty (Blk.fresh _ _ _) (Nat.le_refl _)
  have Y0 : Hid (By (w.alloc (.cells #[] 5)) w.heap.size A l) := Rd.keep hr.out (fun p hp => World.cell?_alloc_lt _ _ _ hp)
  go_wp2_with (at_builtin; refine wpList_appR (w0 := w) (nm := l.length) (B := w.heap.size) R0 U0.out Y0 (by simp) rfl _ _ _ rfl i0 (.int .u8 0) 1 Try.underlying26 hi hz0 hz1 hz2 rfl (by decide) rfl rfl (by rw [bts_len]; simp) (bts_one l) (by have := HL.out; unfold maxLen; omega) (by have := HL.out; omega) (Nat.le_refl _) (by simp) (by simp) ?_; intro A1 c1 w1 hown1 hb1 hs1)
  have hcap := Lib.hid (own_caps hown1.out)
  have C1 : Hid (By w1 w1.heap.size A1 l) := Rd.of_own hown1.out
  have Y1 : Hid (By w1 w1.heap.size A l) := Rd.below' hr.out hb1 hb1.size
  have B1 := Lib.hid hb1
  clear U0 R0 Y0 hown1 hb1 hs1 hn
  refine (decode_any A1 c1 l w1 (by have := HL.out; omega) hcap.out.1 hcap.out.2 C1).mono ?_
  rintro e w2 (⟨hok, A2, c2, rfl, y2, b2⟩ | ⟨hno, rfl, b2⟩)
  · have hed := Lib.hid (enc_dec hok)
    have hwf := Lib.hid (wf_msgD hok)
    have hK := Lib.hid hok.2.2.1
    have hK1 : Hid (1 ≤ lenK (fld l 0 1)) := lenK_pos _
    have HOK := Lib.hid hok
    clear hok
    generalize hM : msgD l = m at hed hwf ⊢
    have HM := Lib.hid hM
    clear hM
    generalize hKK : lenK (fld l 0 1) = K at *
    have HKK := Lib.hid hKK
    clear hKK
    obtain ⟨k, a, s, x, p, q, n, t, i, y, z, v⟩ := m
    rw [show mvl ⟨k, a, s, x, p, q, n, t, i, y, z, v⟩ = .agg #[.int .i64 k, .int .i64 a, .int .i64 s, .bool x, .int .i64 p, .int .i64 q, .int .i64 n, .int .i64 t, .int .i64 i, .int .i64 y, .int .i64 z, .int .i64 v] from rfl]
    have U3 : Hid (Below w2.heap.size w2 (w2.alloc (.cells #[.int .i64 k, .int .i64 a, .int .i64 s, .bool x, .int .i64 p, .int .i64 q, .int .i64 n, .int .i64 t, .int .i64 i, .int .i64 y, .int .i64 z, .int .i64 v] 30))) := (Below.refl _ _).alloc (Nat.le_refl _) _
    have M3 : Hid (Blk (w2.alloc (.cells #[.int .i64 k, .int .i64 a, .int .i64 s, .bool x, .int .i64 p, .int .i64 q, .int .i64 n, .int .i64 t, .int .i64 i, .int .i64 y, .int .i64 z, .int .i64 v] 30)) w2.heap.size 30 #[.int .i64 k, .int .i64 a, .int .i64 s, .bool x, .int .i64 p, .int .i64 q, .int .i64 n, .int .i64 t, .int .i64 i, .int .i64 y, .int .i64 z, .int .i64 v]) := Blk.fresh _ _ _
    have B3 : Hid (Below w1.heap.size w1 (w2.alloc (.cells #[.int .i64 k, .int .i64 a, .int .i64 s, .bool x, .int .i64 p, .int .i64 q, .int .i64 n, .int .i64 t, .int .i64 i, .int .i64 y, .int .i64 z, .int .i64 v] 30))) := below_step b2 U3.out
    have C3 : Hid (By (w2.alloc (.cells #[.int .i64 k, .int .i64 a, .int .i64 s, .bool x, .int .i64 p, .int .i64 q, .int .i64 n, .int .i64 t, .int .i64 i, .int .i64 y, .int .i64 z, .int .i64 v] 30)) (w2.alloc (.cells #[.int .i64 k, .int .i64 a, .int .i64 s, .bool x, .int .i64 p, .int .i64 q, .int .i64 n, .int .i64 t, .int .i64 i, .int .i64 y, .int .i64 z, .int .i64 v] 30)).heap.size A1 l) := Rd.below' C1.out B3.out B3.out.size
    have Y3 : Hid (By (w2.alloc (.cells #[.int .i64 k, .int .i64 a, .int .i64 s, .bool x, .int .i64 p, .int .i64 q, .int .i64 n, .int .i64 t, .int .i64 i, .int .i64 y, .int .i64 z, .int .i64 v] 30)) (w2.alloc (.cells #[.int .i64 k, .int .i64 a, .int .i64 s, .bool x, .int .i64 p, .int .i64 q, .int .i64 n, .int .i64 t, .int .i64 i, .int .i64 y, .int .i64 z, .int .i64 v] 30)).heap.size A l) := Rd.below' Y1.out B3.out B3.out.size
    have Z3 : Hid (By (w2.alloc (.cells #[.int .i64 k, .int .i64 a, .int .i64 s, .bool x, .int .i64 p, .int .i64 q, .int .i64 n, .int .i64 t, .int .i64 i, .int .i64 y, .int .i64 z, .int .i64 v] 30)) (w2.alloc (.cells #[.int .i64 k, .int .i64 a, .int .i64 s, .bool x, .int .i64 p, .int .i64 q, .int .i64 n, .int .i64 t, .int .i64 i, .int .i64 y, .int .i64 z, .int .i64 v] 30)).heap.size A2 (l.drop K)) := Rd.below' y2 U3.out U3.out.size
    have W3 : Hid (Below w.heap.size w (w2.alloc (.cells #[.int .i64 k, .int .i64 a, .int .i64 s, .bool x, .int .i64 p, .int .i64 q, .int .i64 n, .int .i64 t, .int .i64 i, .int .i64 y, .int .i64 z, .int .i64 v] 30))) := below_step B1.out B3.out
    clear b2 y2 U3 B3 C1 Y1 B1
    go_upto_region 4 with fail
    generalize w2.alloc (.cells #[.int .i64 k, .int .i64 a, .int .i64 s, .bool x, .int .i64 p, .int .i64 q, .int .i64 n, .int .i64 t, .int .i64 i, .int .i64 y, .int .i64 z, .int .i64 v] 30) = w3 at M3 C3 Y3 Z3 W3 ⊢
    generalize w2.heap.size = gM at M3 ⊢
    go_wp2_with fail
    refine (rdecode_d A c l _ (by have := HL.out; omega) HC.out hc Y3).mono ?_
    rintro e w4 (⟨_, rfl, b4⟩ | ⟨hno, _⟩)
    case inr => exact absurd HOK.out hno
    rw [HM.out, HKK.out, show mvl ⟨k, a, s, x, p, q, n, t, i, y, z, v⟩ = .agg #[.int .i64 k, .int .i64 a, .int .i64 s, .bool x, .int .i64 p, .int .i64 q, .int .i64 n, .int .i64 t, .int .i64 i, .int .i64 y, .int .i64 z, .int .i64 v] from rfl]
    have U5 : Hid (Below w4.heap.size w4 (w4.alloc (.cells #[.int .i64 k, .int .i64 a, .int .i64 s, .bool x, .int .i64 p, .int .i64 q, .int .i64 n, .int .i64 t, .int .i64 i, .int .i64 y, .int .i64 z, .int .i64 v] 25))) := (Below.refl _ _).alloc (Nat.le_refl _) _
    have B5 : Hid (Below w3.heap.size w3 (w4.alloc (.cells #[.int .i64 k, .int .i64 a, .int .i64 s, .bool x, .int .i64 p, .int .i64 q, .int .i64 n, .int .i64 t, .int .i64 i, .int .i64 y, .int .i64 z, .int .i64 v] 25))) := below_step b4 U5.out
    have Q5 : Hid (Blk (w4.alloc (.cells #[.int .i64 k, .int .i64 a, .int .i64 s, .bool x, .int .i64 p, .int .i64 q, .int .i64 n, .int .i64 t, .int .i64 i, .int .i64 y, .int .i64 z, .int .i64 v] 25)) w4.heap.size 25 #[.int .i64 k, .int .i64 a, .int .i64 s, .bool x, .int .i64 p, .int .i64 q, .int .i64 n, .int .i64 t, .int .i64 i, .int .i64 y, .int .i64 z, .int .i64 v]) := Blk.fresh _ _ _
    have M5 : Hid (Blk (w4.alloc (.cells #[.int .i64 k, .int .i64 a, .int .i64 s, .bool x, .int .i64 p, .int .i64 q, .int .i64 n, .int .i64 t, .int .i64 i, .int .i64 y, .int .i64 z, .int .i64 v] 25)) gM 30 #[.int .i64 k, .int .i64 a, .int .i64 s, .bool x, .int .i64 p, .int .i64 q, .int .i64 n, .int .i64 t, .int .i64 i, .int .i64 y, .int .i64 z, .int .i64 v]) := Blk.below' M3.out B5.out
    have C5 : Hid (By (w4.alloc (.cells #[.int .i64 k, .int .i64 a, .int .i64 s, .bool x, .int .i64 p, .int .i64 q, .int .i64 n, .int .i64 t, .int .i64 i, .int .i64 y, .int .i64 z, .int .i64 v] 25)) (w4.alloc (.cells #[.int .i64 k, .int .i64 a, .int .i64 s, .bool x, .int .i64 p, .int .i64 q, .int .i64 n, .int .i64 t, .int .i64 i, .int .i64 y, .int .i64 z, .int .i64 v] 25)).heap.size A1 l) := Rd.below' C3.out B5.out B5.out.size
    have Y5 : Hid (By (w4.alloc (.cells #[.int .i64 k, .int .i64 a, .int .i64 s, .bool x, .int .i64 p, .int .i64 q, .int .i64 n, .int .i64 t, .int .i64 i, .int .i64 y, .int .i64 z, .int .i64 v] 25)) (w4.alloc (.cells #[.int .i64 k, .int .i64 a, .int .i64 s, .bool x, .int .i64 p, .int .i64 q, .int .i64 n, .int .i64 t, .int .i64 i, .int .i64 y, .int .i64 z, .int .i64 v] 25)).heap.size A l) := Rd.below' Y3.out B5.out B5.out.size
    have Z5 : Hid (By (w4.alloc (.cells #[.int .i64 k, .int .i64 a, .int .i64 s, .bool x, .int .i64 p, .int .i64 q, .int .i64 n, .int .i64 t, .int .i64 i, .int .i64 y, .int .i64 z, .int .i64 v] 25)) (w4.alloc (.cells #[.int .i64 k, .int .i64 a, .int .i64 s, .bool x, .int .i64 p, .int .i64 q, .int .i64 n, .int .i64 t, .int .i64 i, .int .i64 y, .int .i64 z, .int .i64 v] 25)).heap.size A2 (l.drop K)) := Rd.below' Z3.out B5.out B5.out.size
    have W5 : Hid (Below w.heap.size w (w4.alloc (.cells #[.int .i64 k, .int .i64 a, .int .i64 s, .bool x, .int .i64 p, .int .i64 q, .int .i64 n, .int .i64 t, .int .i64 i, .int .i64 y, .int .i64 z, .int .i64 v] 25))) := below_step W3.out B5.out
    clear b4 U5 B5 M3 C3 Y3 Z3 W3
    go_upto_region 5 with fail
    generalize w4.alloc (.cells #[.int .i64 k, .int .i64 a, .int .i64 s, .bool x, .int .i64 p, .int .i64 q, .int .i64 n, .int .i64 t, .int .i64 i, .int .i64 y, .int .i64 z, .int .i64 v] 25) = w5 at Q5 M5 C5 Y5 Z5 W5 ⊢
    generalize w4.heap.size = gQ at Q5 ⊢
    have eM : eqM ⟨k, a, s, x, p, q, n, t, i, y, z, v⟩ ⟨k, a, s, x, p, q, n, t, i, y, z, v⟩ = true := eqM_self _
    have tn : ((K : Int) == 0) = false := beq_eq_false_iff_ne.2 (by have := hK1.out; omega)
    have tp : decide ((0 : Int) < (K : Int)) = true := by have := hK1.out; simp; omega
    have tq : decide (0 < K) = true := by have := hK1.out; simp; omega
    have s0 : w5.cell? ⟨gM, 0, none⟩ = some (.int .i64 k) ∧ w5.cell? ⟨gM, 1, none⟩ = some (.int .i64 a) ∧ w5.cell? ⟨gM, 2, none⟩ = some (.int .i64 s) ∧ w5.cell? ⟨gM, 3, none⟩ = some (.bool x) ∧ w5.cell? ⟨gM, 4, none⟩ = some (.int .i64 p) ∧ w5.cell? ⟨gM, 5, none⟩ = some (.int .i64 q) ∧ w5.cell? ⟨gM, 6, none⟩ = some (.int .i64 n) ∧ w5.cell? ⟨gM, 7, none⟩ = some (.int .i64 t) ∧ w5.cell? ⟨gM, 8, none⟩ = some (.int .i64 i) ∧ w5.cell? ⟨gM, 9, none⟩ = some (.int .i64 y) ∧ w5.cell? ⟨gM, 10, none⟩ = some (.int .i64 z) ∧ w5.cell? ⟨gM, 11, none⟩ = some (.int .i64 v) ∧ w5.cell? ⟨gQ, 0, none⟩ = some (.int .i64 k) ∧ w5.cell? ⟨gQ, 1, none⟩ = some (.int .i64 a) ∧ w5.cell? ⟨gQ, 2, none⟩ = some (.int .i64 s) ∧ w5.cell? ⟨gQ, 3, none⟩ = some (.bool x) ∧ w5.cell? ⟨gQ, 4, none⟩ = some (.int .i64 p) ∧ w5.cell? ⟨gQ, 5, none⟩ = some (.int .i64 q) ∧ w5.cell? ⟨gQ, 6, none⟩ = some (.int .i64 n) ∧ w5.cell? ⟨gQ, 7, none⟩ = some (.int .i64 t) ∧ w5.cell? ⟨gQ, 8, none⟩ = some (.int .i64 i) ∧ w5.cell? ⟨gQ, 9, none⟩ = some (.int .i64 y) ∧ w5.cell? ⟨gQ, 10, none⟩ = some (.int .i64 z) ∧ w5.cell? ⟨gQ, 11, none⟩ = some (.int .i64 v) ∧ (convert 26 9 (.slice A1 l.length c1)).run Try.prog w5 = .ok (.string ⟨l.toArray⟩) w5 ∧ (convert 26 9 (.slice A l.length c)).run Try.prog w5 = .ok (.string ⟨l.toArray⟩) w5 := s26 M5.out Q5.out C5.out Y5.out
    have B6 : Hid (Below w5.heap.size w5 w5.drew) := (Below.refl _ _).drew
    have s0d : w5.drew.cell? ⟨gM, 0, none⟩ = some (.int .i64 k) ∧ w5.drew.cell? ⟨gM, 1, none⟩ = some (.int .i64 a) ∧ w5.drew.cell? ⟨gM, 2, none⟩ = some (.int .i64 s) ∧ w5.drew.cell? ⟨gM, 3, none⟩ = some (.bool x) ∧ w5.drew.cell? ⟨gM, 4, none⟩ = some (.int .i64 p) ∧ w5.drew.cell? ⟨gM, 5, none⟩ = some (.int .i64 q) ∧ w5.drew.cell? ⟨gM, 6, none⟩ = some (.int .i64 n) ∧ w5.drew.cell? ⟨gM, 7, none⟩ = some (.int .i64 t) ∧ w5.drew.cell? ⟨gM, 8, none⟩ = some (.int .i64 i) ∧ w5.drew.cell? ⟨gM, 9, none⟩ = some (.int .i64 y) ∧ w5.drew.cell? ⟨gM, 10, none⟩ = some (.int .i64 z) ∧ w5.drew.cell? ⟨gM, 11, none⟩ = some (.int .i64 v) ∧ w5.drew.cell? ⟨gQ, 0, none⟩ = some (.int .i64 k) ∧ w5.drew.cell? ⟨gQ, 1, none⟩ = some (.int .i64 a) ∧ w5.drew.cell? ⟨gQ, 2, none⟩ = some (.int .i64 s) ∧ w5.drew.cell? ⟨gQ, 3, none⟩ = some (.bool x) ∧ w5.drew.cell? ⟨gQ, 4, none⟩ = some (.int .i64 p) ∧ w5.drew.cell? ⟨gQ, 5, none⟩ = some (.int .i64 q) ∧ w5.drew.cell? ⟨gQ, 6, none⟩ = some (.int .i64 n) ∧ w5.drew.cell? ⟨gQ, 7, none⟩ = some (.int .i64 t) ∧ w5.drew.cell? ⟨gQ, 8, none⟩ = some (.int .i64 i) ∧ w5.drew.cell? ⟨gQ, 9, none⟩ = some (.int .i64 y) ∧ w5.drew.cell? ⟨gQ, 10, none⟩ = some (.int .i64 z) ∧ w5.drew.cell? ⟨gQ, 11, none⟩ = some (.int .i64 v) ∧ (convert 26 9 (.slice A1 l.length c1)).run Try.prog w5.drew = .ok (.string ⟨l.toArray⟩) w5.drew ∧ (convert 26 9 (.slice A l.length c)).run Try.prog w5.drew = .ok (.string ⟨l.toArray⟩) w5.drew := s26 (Blk.below' M5.out B6.out) (Blk.below' Q5.out B6.out) (Rd.below' C5.out B6.out B6.out.size) (Rd.below' Y5.out B6.out B6.out.size)
    refine wp_region_held_drew (S := (fun w' => w'.cell? ⟨gM, 0, none⟩ = some (.int .i64 k) ∧ w'.cell? ⟨gM, 1, none⟩ = some (.int .i64 a) ∧ w'.cell? ⟨gM, 2, none⟩ = some (.int .i64 s) ∧ w'.cell? ⟨gM, 3, none⟩ = some (.bool x) ∧ w'.cell? ⟨gM, 4, none⟩ = some (.int .i64 p) ∧ w'.cell? ⟨gM, 5, none⟩ = some (.int .i64 q) ∧ w'.cell? ⟨gM, 6, none⟩ = some (.int .i64 n) ∧ w'.cell? ⟨gM, 7, none⟩ = some (.int .i64 t) ∧ w'.cell? ⟨gM, 8, none⟩ = some (.int .i64 i) ∧ w'.cell? ⟨gM, 9, none⟩ = some (.int .i64 y) ∧ w'.cell? ⟨gM, 10, none⟩ = some (.int .i64 z) ∧ w'.cell? ⟨gM, 11, none⟩ = some (.int .i64 v) ∧ w'.cell? ⟨gQ, 0, none⟩ = some (.int .i64 k) ∧ w'.cell? ⟨gQ, 1, none⟩ = some (.int .i64 a) ∧ w'.cell? ⟨gQ, 2, none⟩ = some (.int .i64 s) ∧ w'.cell? ⟨gQ, 3, none⟩ = some (.bool x) ∧ w'.cell? ⟨gQ, 4, none⟩ = some (.int .i64 p) ∧ w'.cell? ⟨gQ, 5, none⟩ = some (.int .i64 q) ∧ w'.cell? ⟨gQ, 6, none⟩ = some (.int .i64 n) ∧ w'.cell? ⟨gQ, 7, none⟩ = some (.int .i64 t) ∧ w'.cell? ⟨gQ, 8, none⟩ = some (.int .i64 i) ∧ w'.cell? ⟨gQ, 9, none⟩ = some (.int .i64 y) ∧ w'.cell? ⟨gQ, 10, none⟩ = some (.int .i64 z) ∧ w'.cell? ⟨gQ, 11, none⟩ = some (.int .i64 v) ∧ (convert 26 9 (.slice A1 l.length c1)).run Try.prog w' = .ok (.string ⟨l.toArray⟩) w' ∧ (convert 26 9 (.slice A l.length c)).run Try.prog w' = .ok (.string ⟨l.toArray⟩) w')) (by kernel_rfl) s0d (fun hHeld => ?_)
    refine wpAnyH_ready (rs := [0]) (by kernel_rfl) (by simp) ?_
    refine AllReadyH.cons rfl (fun K' hK => ?_) AllReadyH.nil
    go_simp
    refine (told6_any _).mono ?_
    rintro e w7 ⟨rfl, hb7⟩
    have B7 : Hid (Below w5.heap.size w5 w7) := Below.trans B6.out hb7
    have q7 : w7.cell? ⟨gM, 0, none⟩ = some (.int .i64 k) ∧ w7.cell? ⟨gM, 1, none⟩ = some (.int .i64 a) ∧ w7.cell? ⟨gM, 2, none⟩ = some (.int .i64 s) ∧ w7.cell? ⟨gM, 3, none⟩ = some (.bool x) ∧ w7.cell? ⟨gM, 4, none⟩ = some (.int .i64 p) ∧ w7.cell? ⟨gM, 5, none⟩ = some (.int .i64 q) ∧ w7.cell? ⟨gM, 6, none⟩ = some (.int .i64 n) ∧ w7.cell? ⟨gM, 7, none⟩ = some (.int .i64 t) ∧ w7.cell? ⟨gM, 8, none⟩ = some (.int .i64 i) ∧ w7.cell? ⟨gM, 9, none⟩ = some (.int .i64 y) ∧ w7.cell? ⟨gM, 10, none⟩ = some (.int .i64 z) ∧ w7.cell? ⟨gM, 11, none⟩ = some (.int .i64 v) ∧ w7.cell? ⟨gQ, 0, none⟩ = some (.int .i64 k) ∧ w7.cell? ⟨gQ, 1, none⟩ = some (.int .i64 a) ∧ w7.cell? ⟨gQ, 2, none⟩ = some (.int .i64 s) ∧ w7.cell? ⟨gQ, 3, none⟩ = some (.bool x) ∧ w7.cell? ⟨gQ, 4, none⟩ = some (.int .i64 p) ∧ w7.cell? ⟨gQ, 5, none⟩ = some (.int .i64 q) ∧ w7.cell? ⟨gQ, 6, none⟩ = some (.int .i64 n) ∧ w7.cell? ⟨gQ, 7, none⟩ = some (.int .i64 t) ∧ w7.cell? ⟨gQ, 8, none⟩ = some (.int .i64 i) ∧ w7.cell? ⟨gQ, 9, none⟩ = some (.int .i64 y) ∧ w7.cell? ⟨gQ, 10, none⟩ = some (.int .i64 z) ∧ w7.cell? ⟨gQ, 11, none⟩ = some (.int .i64 v) ∧ (convert 26 9 (.slice A1 l.length c1)).run Try.prog w7 = .ok (.string ⟨l.toArray⟩) w7 ∧ (convert 26 9 (.slice A l.length c)).run Try.prog w7 = .ok (.string ⟨l.toArray⟩) w7 := s26 (Blk.below' M5.out B7.out) (Blk.below' Q5.out B7.out) (Rd.below' C5.out B7.out B7.out.size) (Rd.below' Y5.out B7.out B7.out.size)
    go_wp2_with fail
    refine hK.out _ _ q7 (fun hHeld => ?_)
    clear hK K'
    (try simp only [Act.put, List.getElem_toArray, List.getElem_cons_succ, List.getElem_cons_zero, List.setIfInBounds_toArray, List.set_cons_zero, List.set_cons_succ])
    refine wpAnyH_take (i := 1) (v := ?_) rfl (by kernel_rfl) (by kernel_rfl) (by kernel_rfl) (fun _ _ _ h => h) (Or.inl ⟨by rfl, ?_⟩) (by assumption) ?_
    rotate_left
    · intro w' hSw
      (try dsimp only at hSw)
      go_simp
      try with_reducible rfl
    (try simp only [Act.put, List.getElem_toArray, List.getElem_cons_succ, List.getElem_cons_zero, List.setIfInBounds_toArray, List.set_cons_zero, List.set_cons_succ])
    refine wpAnyH_take (i := 2) (v := ?_) rfl (by kernel_rfl) (by kernel_rfl) (by kernel_rfl) (fun _ _ _ h => h) (Or.inl ⟨by rfl, ?_⟩) (by assumption) ?_
    rotate_left
    · intro w' hSw
      (try dsimp only at hSw)
      go_simp
      try with_reducible rfl
    (try simp only [Act.put, List.getElem_toArray, List.getElem_cons_succ, List.getElem_cons_zero, List.setIfInBounds_toArray, List.set_cons_zero, List.set_cons_succ])
    refine wpAnyH_take (i := 3) (v := ?_) rfl (by kernel_rfl) (by kernel_rfl) (by kernel_rfl) (fun _ _ _ h => h) (Or.inl ⟨by rfl, ?_⟩) (by assumption) ?_
    rotate_left
    · intro w' hSw
      (try dsimp only at hSw)
      go_simp
      try with_reducible rfl
    (try simp only [Act.put, List.getElem_toArray, List.getElem_cons_succ, List.getElem_cons_zero, List.setIfInBounds_toArray, List.set_cons_zero, List.set_cons_succ])
    refine wpAnyH_take (i := 5) (v := ?_) rfl (by kernel_rfl) (by kernel_rfl) (by kernel_rfl) (fun _ _ _ h => h) (Or.inl ⟨by rfl, ?_⟩) (by assumption) ?_
    rotate_left
    · intro w' hSw
      (try dsimp only at hSw)
      go_simp
      try with_reducible rfl
    (try simp only [Act.put, List.getElem_toArray, List.getElem_cons_succ, List.getElem_cons_zero, List.setIfInBounds_toArray, List.set_cons_zero, List.set_cons_succ])
    refine wpAnyH_ready (rs := [4]) (by kernel_rfl) (by simp) ?_
    refine AllReadyH.cons rfl (fun K' hK => ?_) AllReadyH.nil
    go_simp
    refine (from_any ⟨k, a, s, x, p, q, n, t, i, y, z, v⟩ _).mono ?_
    rintro e w8 ⟨rfl, hb8⟩
    rw [show mvl ⟨k, a, s, x, p, q, n, t, i, y, z, v⟩ = .agg #[.int .i64 k, .int .i64 a, .int .i64 s, .bool x, .int .i64 p, .int .i64 q, .int .i64 n, .int .i64 t, .int .i64 i, .int .i64 y, .int .i64 z, .int .i64 v] from rfl]
    have B8 : Hid (Below w5.heap.size w5 w8) := below_step B7.out hb8
    have q8 : w8.cell? ⟨gM, 0, none⟩ = some (.int .i64 k) ∧ w8.cell? ⟨gM, 1, none⟩ = some (.int .i64 a) ∧ w8.cell? ⟨gM, 2, none⟩ = some (.int .i64 s) ∧ w8.cell? ⟨gM, 3, none⟩ = some (.bool x) ∧ w8.cell? ⟨gM, 4, none⟩ = some (.int .i64 p) ∧ w8.cell? ⟨gM, 5, none⟩ = some (.int .i64 q) ∧ w8.cell? ⟨gM, 6, none⟩ = some (.int .i64 n) ∧ w8.cell? ⟨gM, 7, none⟩ = some (.int .i64 t) ∧ w8.cell? ⟨gM, 8, none⟩ = some (.int .i64 i) ∧ w8.cell? ⟨gM, 9, none⟩ = some (.int .i64 y) ∧ w8.cell? ⟨gM, 10, none⟩ = some (.int .i64 z) ∧ w8.cell? ⟨gM, 11, none⟩ = some (.int .i64 v) ∧ w8.cell? ⟨gQ, 0, none⟩ = some (.int .i64 k) ∧ w8.cell? ⟨gQ, 1, none⟩ = some (.int .i64 a) ∧ w8.cell? ⟨gQ, 2, none⟩ = some (.int .i64 s) ∧ w8.cell? ⟨gQ, 3, none⟩ = some (.bool x) ∧ w8.cell? ⟨gQ, 4, none⟩ = some (.int .i64 p) ∧ w8.cell? ⟨gQ, 5, none⟩ = some (.int .i64 q) ∧ w8.cell? ⟨gQ, 6, none⟩ = some (.int .i64 n) ∧ w8.cell? ⟨gQ, 7, none⟩ = some (.int .i64 t) ∧ w8.cell? ⟨gQ, 8, none⟩ = some (.int .i64 i) ∧ w8.cell? ⟨gQ, 9, none⟩ = some (.int .i64 y) ∧ w8.cell? ⟨gQ, 10, none⟩ = some (.int .i64 z) ∧ w8.cell? ⟨gQ, 11, none⟩ = some (.int .i64 v) ∧ (convert 26 9 (.slice A1 l.length c1)).run Try.prog w8 = .ok (.string ⟨l.toArray⟩) w8 ∧ (convert 26 9 (.slice A l.length c)).run Try.prog w8 = .ok (.string ⟨l.toArray⟩) w8 := s26 (Blk.below' M5.out B8.out) (Blk.below' Q5.out B8.out) (Rd.below' C5.out B8.out B8.out.size) (Rd.below' Y5.out B8.out B8.out.size)
    go_wp2_with fail
    refine hK.out _ _ q8 (fun hHeld => ?_)
    clear hK K'
    (try simp only [Act.put, List.getElem_toArray, List.getElem_cons_succ, List.getElem_cons_zero, List.setIfInBounds_toArray, List.set_cons_zero, List.set_cons_succ])
    refine wpAnyH_take (i := 6) (v := ?_) rfl (by kernel_rfl) (by kernel_rfl) (by kernel_rfl) (fun _ _ _ h => h) (Or.inl ⟨by rfl, ?_⟩) (by assumption) ?_
    rotate_left
    · intro w' hSw
      (try dsimp only at hSw)
      go_simp
      try with_reducible rfl
    (try simp only [Act.put, List.getElem_toArray, List.getElem_cons_succ, List.getElem_cons_zero, List.setIfInBounds_toArray, List.set_cons_zero, List.set_cons_succ])
    refine wpAnyH_take (i := 7) (v := ?_) rfl (by kernel_rfl) (by kernel_rfl) (by kernel_rfl) (fun _ _ _ h => h) (Or.inl ⟨by rfl, ?_⟩) (by assumption) ?_
    rotate_left
    · intro w' hSw
      (try dsimp only at hSw)
      go_simp
      try with_reducible rfl
    (try simp only [Act.put, List.getElem_toArray, List.getElem_cons_succ, List.getElem_cons_zero, List.setIfInBounds_toArray, List.set_cons_zero, List.set_cons_succ])
    refine wpAnyH_take (i := 8) (v := ?_) rfl (by kernel_rfl) (by kernel_rfl) (by kernel_rfl) (fun _ _ _ h => h) (Or.inl ⟨by rfl, ?_⟩) (by assumption) ?_
    rotate_left
    · intro w' hSw
      (try dsimp only at hSw)
      go_simp
      try with_reducible rfl
    (try simp only [Act.put, List.getElem_toArray, List.getElem_cons_succ, List.getElem_cons_zero, List.setIfInBounds_toArray, List.set_cons_zero, List.set_cons_succ])
    refine wpAnyH_take (i := 9) (v := ?_) rfl (by kernel_rfl) (by kernel_rfl) (by kernel_rfl) (fun _ _ _ h => h) (Or.inl ⟨by rfl, ?_⟩) (by assumption) ?_
    rotate_left
    · intro w' hSw
      (try dsimp only at hSw)
      go_simp
      try with_reducible rfl
    (try simp only [Act.put, List.getElem_toArray, List.getElem_cons_succ, List.getElem_cons_zero, List.setIfInBounds_toArray, List.set_cons_zero, List.set_cons_succ])
    refine wpAnyH_take (i := 10) (v := ?_) rfl (by kernel_rfl) (by kernel_rfl) (by kernel_rfl) (fun _ _ _ h => h) (Or.inl ⟨by rfl, ?_⟩) (by assumption) ?_
    rotate_left
    · intro w' hSw
      (try dsimp only at hSw)
      go_simp
      try with_reducible rfl
    (try simp only [Act.put, List.getElem_toArray, List.getElem_cons_succ, List.getElem_cons_zero, List.setIfInBounds_toArray, List.set_cons_zero, List.set_cons_succ])
    refine wpAnyH_take (i := 11) (v := ?_) rfl (by kernel_rfl) (by kernel_rfl) (by kernel_rfl) (fun _ _ _ h => h) (Or.inl ⟨by rfl, ?_⟩) (by assumption) ?_
    rotate_left
    · intro w' hSw
      (try dsimp only at hSw)
      go_simp
      try with_reducible rfl
    (try simp only [Act.put, List.getElem_toArray, List.getElem_cons_succ, List.getElem_cons_zero, List.setIfInBounds_toArray, List.set_cons_zero, List.set_cons_succ])
    refine wpAnyH_take (i := 12) (v := ?_) rfl (by kernel_rfl) (by kernel_rfl) (by kernel_rfl) (fun _ _ _ h => h) (Or.inl ⟨by rfl, ?_⟩) (by assumption) ?_
    rotate_left
    · intro w' hSw
      (try dsimp only at hSw)
      go_simp
      try with_reducible rfl
    (try simp only [Act.put, List.getElem_toArray, List.getElem_cons_succ, List.getElem_cons_zero, List.setIfInBounds_toArray, List.set_cons_zero, List.set_cons_succ])
    refine wpAnyH_take (i := 13) (v := ?_) rfl (by kernel_rfl) (by kernel_rfl) (by kernel_rfl) (fun _ _ _ h => h) (Or.inl ⟨by rfl, ?_⟩) (by assumption) ?_
    rotate_left
    · intro w' hSw
      (try dsimp only at hSw)
      go_simp
      try with_reducible rfl
    (try simp only [Act.put, List.getElem_toArray, List.getElem_cons_succ, List.getElem_cons_zero, List.setIfInBounds_toArray, List.set_cons_zero, List.set_cons_succ])
    refine wpAnyH_take (i := 14) (v := ?_) rfl (by kernel_rfl) (by kernel_rfl) (by kernel_rfl) (fun _ _ _ h => h) (Or.inl ⟨by rfl, ?_⟩) (by assumption) ?_
    rotate_left
    · intro w' hSw
      (try dsimp only at hSw)
      go_simp
      try with_reducible rfl
    (try simp only [Act.put, List.getElem_toArray, List.getElem_cons_succ, List.getElem_cons_zero, List.setIfInBounds_toArray, List.set_cons_zero, List.set_cons_succ])
    refine wpAnyH_take (i := 15) (v := ?_) rfl (by kernel_rfl) (by kernel_rfl) (by kernel_rfl) (fun _ _ _ h => h) (Or.inl ⟨by rfl, ?_⟩) (by assumption) ?_
    rotate_left
    · intro w' hSw
      (try dsimp only at hSw)
      go_simp
      try with_reducible rfl
    (try simp only [Act.put, List.getElem_toArray, List.getElem_cons_succ, List.getElem_cons_zero, List.setIfInBounds_toArray, List.set_cons_zero, List.set_cons_succ])
    refine wpAnyH_take (i := 16) (v := ?_) rfl (by kernel_rfl) (by kernel_rfl) (by kernel_rfl) (fun _ _ _ h => h) (Or.inl ⟨by rfl, ?_⟩) (by assumption) ?_
    rotate_left
    · intro w' hSw
      (try dsimp only at hSw)
      go_simp
      try with_reducible rfl
    (try simp only [Act.put, List.getElem_toArray, List.getElem_cons_succ, List.getElem_cons_zero, List.setIfInBounds_toArray, List.set_cons_zero, List.set_cons_succ])
    refine wpAnyH_take (i := 17) (v := ?_) rfl (by kernel_rfl) (by kernel_rfl) (by kernel_rfl) (fun _ _ _ h => h) (Or.inl ⟨by rfl, ?_⟩) (by assumption) ?_
    rotate_left
    · intro w' hSw
      (try dsimp only at hSw)
      go_simp
      try with_reducible rfl
    (try simp only [Act.put, List.getElem_toArray, List.getElem_cons_succ, List.getElem_cons_zero, List.setIfInBounds_toArray, List.set_cons_zero, List.set_cons_succ])
    refine wpAnyH_take (i := 18) (v := ?_) rfl (by kernel_rfl) (by kernel_rfl) (by kernel_rfl) (fun _ _ _ h => h) (Or.inl ⟨by rfl, ?_⟩) (by assumption) ?_
    rotate_left
    · intro w' hSw
      (try dsimp only at hSw)
      go_simp
      try with_reducible rfl
    (try simp only [Act.put, List.getElem_toArray, List.getElem_cons_succ, List.getElem_cons_zero, List.setIfInBounds_toArray, List.set_cons_zero, List.set_cons_succ])
    refine wpAnyH_take (i := 19) (v := undef) rfl (by kernel_rfl) (by kernel_rfl) (by kernel_rfl) (fun _ _ _ h => h) (Or.inr ⟨by rfl, rfl⟩) (by assumption) ?_
    (try simp only [Act.put, List.getElem_toArray, List.getElem_cons_succ, List.getElem_cons_zero, List.setIfInBounds_toArray, List.set_cons_zero, List.set_cons_succ])
    refine wpAnyH_take (i := 20) (v := undef) rfl (by kernel_rfl) (by kernel_rfl) (by kernel_rfl) (fun _ _ _ h => h) (Or.inr ⟨by rfl, rfl⟩) (by assumption) ?_
    (try simp only [Act.put, List.getElem_toArray, List.getElem_cons_succ, List.getElem_cons_zero, List.setIfInBounds_toArray, List.set_cons_zero, List.set_cons_succ])
    refine wpAnyH_take (i := 21) (v := undef) rfl (by kernel_rfl) (by kernel_rfl) (by kernel_rfl) (fun _ _ _ h => h) (Or.inr ⟨by rfl, rfl⟩) (by assumption) ?_
    (try simp only [Act.put, List.getElem_toArray, List.getElem_cons_succ, List.getElem_cons_zero, List.setIfInBounds_toArray, List.set_cons_zero, List.set_cons_succ])
    refine wpAnyH_take (i := 22) (v := undef) rfl (by kernel_rfl) (by kernel_rfl) (by kernel_rfl) (fun _ _ _ h => h) (Or.inr ⟨by rfl, rfl⟩) (by assumption) ?_
    (try simp only [Act.put, List.getElem_toArray, List.getElem_cons_succ, List.getElem_cons_zero, List.setIfInBounds_toArray, List.set_cons_zero, List.set_cons_succ])
    refine wpAnyH_take (i := 23) (v := undef) rfl (by kernel_rfl) (by kernel_rfl) (by kernel_rfl) (fun _ _ _ h => h) (Or.inr ⟨by rfl, rfl⟩) (by assumption) ?_
    (try simp only [Act.put, List.getElem_toArray, List.getElem_cons_succ, List.getElem_cons_zero, List.setIfInBounds_toArray, List.set_cons_zero, List.set_cons_succ])
    refine wpAnyH_take (i := 24) (v := undef) rfl (by kernel_rfl) (by kernel_rfl) (by kernel_rfl) (fun _ _ _ h => h) (Or.inr ⟨by rfl, rfl⟩) (by assumption) ?_
    (try simp only [Act.put, List.getElem_toArray, List.getElem_cons_succ, List.getElem_cons_zero, List.setIfInBounds_toArray, List.set_cons_zero, List.set_cons_succ])
    refine wpAnyH_take (i := 25) (v := undef) rfl (by kernel_rfl) (by kernel_rfl) (by kernel_rfl) (fun _ _ _ h => h) (Or.inr ⟨by rfl, rfl⟩) (by assumption) ?_
    (try simp only [Act.put, List.getElem_toArray, List.getElem_cons_succ, List.getElem_cons_zero, List.setIfInBounds_toArray, List.set_cons_zero, List.set_cons_succ])
    refine wpAnyH_take (i := 26) (v := ?_) rfl (by kernel_rfl) (by kernel_rfl) (by kernel_rfl) (fun _ _ _ h => h) (Or.inl ⟨by rfl, ?_⟩) (by assumption) ?_
    rotate_left
    · intro w' hSw
      (try dsimp only at hSw)
      go_simp
      try with_reducible rfl
    (try simp only [Act.put, List.getElem_toArray, List.getElem_cons_succ, List.getElem_cons_zero, List.setIfInBounds_toArray, List.set_cons_zero, List.set_cons_succ])
    refine wpAnyH_take (i := 27) (v := ?_) rfl (by kernel_rfl) (by kernel_rfl) (by kernel_rfl) (fun _ _ _ h => h) (Or.inl ⟨by rfl, ?_⟩) (by assumption) ?_
    rotate_left
    · intro w' hSw
      (try dsimp only at hSw)
      go_simp
      try with_reducible rfl
    (try simp only [Act.put, List.getElem_toArray, List.getElem_cons_succ, List.getElem_cons_zero, List.setIfInBounds_toArray, List.set_cons_zero, List.set_cons_succ])
    refine wpAnyH_take (i := 28) (v := ?_) rfl (by kernel_rfl) (by kernel_rfl) (by kernel_rfl) (fun _ _ _ h => h) (Or.inl ⟨by rfl, ?_⟩) (by assumption) ?_
    rotate_left
    · intro w' hSw
      (try dsimp only at hSw)
      go_simp
      try with_reducible rfl
    (try simp only [Act.put, List.getElem_toArray, List.getElem_cons_succ, List.getElem_cons_zero, List.setIfInBounds_toArray, List.set_cons_zero, List.set_cons_succ])
    refine wpAnyH_take (i := 29) (v := ?_) rfl (by kernel_rfl) (by kernel_rfl) (by kernel_rfl) (fun _ _ _ h => h) (Or.inl ⟨by rfl, ?_⟩) (by assumption) ?_
    rotate_left
    · intro w' hSw
      (try dsimp only at hSw)
      go_simp
      try with_reducible rfl
    (try simp only [Act.put, List.getElem_toArray, List.getElem_cons_succ, List.getElem_cons_zero, List.setIfInBounds_toArray, List.set_cons_zero, List.set_cons_succ])
    refine wpAnyH_take (i := 30) (v := ?_) rfl (by kernel_rfl) (by kernel_rfl) (by kernel_rfl) (fun _ _ _ h => h) (Or.inl ⟨by rfl, ?_⟩) (by assumption) ?_
    rotate_left
    · intro w' hSw
      (try dsimp only at hSw)
      go_simp
      try with_reducible rfl
    (try simp only [Act.put, List.getElem_toArray, List.getElem_cons_succ, List.getElem_cons_zero, List.setIfInBounds_toArray, List.set_cons_zero, List.set_cons_succ])
    refine wpAnyH_take (i := 31) (v := ?_) rfl (by kernel_rfl) (by kernel_rfl) (by kernel_rfl) (fun _ _ _ h => h) (Or.inl ⟨by rfl, ?_⟩) (by assumption) ?_
    rotate_left
    · intro w' hSw
      (try dsimp only at hSw)
      go_simp
      try with_reducible rfl
    (try simp only [Act.put, List.getElem_toArray, List.getElem_cons_succ, List.getElem_cons_zero, List.setIfInBounds_toArray, List.set_cons_zero, List.set_cons_succ])
    refine wpAnyH_take (i := 32) (v := ?_) rfl (by kernel_rfl) (by kernel_rfl) (by kernel_rfl) (fun _ _ _ h => h) (Or.inl ⟨by rfl, ?_⟩) (by assumption) ?_
    rotate_left
    · intro w' hSw
      (try dsimp only at hSw)
      go_simp
      try with_reducible rfl
    (try simp only [Act.put, List.getElem_toArray, List.getElem_cons_succ, List.getElem_cons_zero, List.setIfInBounds_toArray, List.set_cons_zero, List.set_cons_succ])
    refine wpAnyH_take (i := 33) (v := ?_) rfl (by kernel_rfl) (by kernel_rfl) (by kernel_rfl) (fun _ _ _ h => h) (Or.inl ⟨by rfl, ?_⟩) (by assumption) ?_
    rotate_left
    · intro w' hSw
      (try dsimp only at hSw)
      go_simp
      try with_reducible rfl
    (try simp only [Act.put, List.getElem_toArray, List.getElem_cons_succ, List.getElem_cons_zero, List.setIfInBounds_toArray, List.set_cons_zero, List.set_cons_succ])
    refine wpAnyH_take (i := 34) (v := ?_) rfl (by kernel_rfl) (by kernel_rfl) (by kernel_rfl) (fun _ _ _ h => h) (Or.inl ⟨by rfl, ?_⟩) (by assumption) ?_
    rotate_left
    · intro w' hSw
      (try dsimp only at hSw)
      go_simp
      try with_reducible rfl
    (try simp only [Act.put, List.getElem_toArray, List.getElem_cons_succ, List.getElem_cons_zero, List.setIfInBounds_toArray, List.set_cons_zero, List.set_cons_succ])
    refine wpAnyH_done (by kernel_rfl) ?_ _
    have Y8 : Hid (By w8 w8.heap.size A l) := Rd.below' Y5.out B8.out B8.out.size
    have Z8 : Hid (By w8 w8.heap.size A2 (l.drop K)) := Rd.below' Z5.out B8.out B8.out.size
    have M8 : Hid (Blk w8 gM 30 #[.int .i64 k, .int .i64 a, .int .i64 s, .bool x, .int .i64 p, .int .i64 q, .int .i64 n, .int .i64 t, .int .i64 i, .int .i64 y, .int .i64 z, .int .i64 v]) := Blk.below' M5.out B8.out
    have W8 : Hid (Below w.heap.size w w8) := below_step W5.out B8.out
    have hE : Hid (encB ⟨k, a, s, x, p, q, n, t, i, y, z, v⟩ = l.take K) := by show _ = _; unfold encB; rw [if_pos hed.out.1]; exact hed.out.2
    clear q7 q8 s0 s0d Y5 Z5 M5 Q5 C5 W5 B6 B7 B8 hb7 hb8 hHeld eM hed
    clear tp tq
    obtain ⟨b, o, hA, hbo, _⟩ := By.at (i := 0) Y8.out (by have := hK.out; have := hK1.out; omega)
    subst hA
    obtain ⟨T, hT⟩ : ∃ T, T = l.take K := ⟨_, rfl⟩
    obtain ⟨D, hD⟩ : ∃ D, D = l.drop K := ⟨_, rfl⟩
    have lT : T.length = K := by rw [hT, List.length_take]; exact Nat.min_eq_left hK.out
    have lD : D.length = l.length - K := by rw [hD, List.length_drop]
    have yT : By w8 w8.heap.size (some ⟨b, o, none⟩) T := by rw [hT]; exact by_cut Y8.out K
    rw [← hT] at hE
    rw [← hD] at Z8
    have cT : ∀ W : World, Below w8.heap.size w8 W → (convert 26 9 (.slice (some ⟨b, o, none⟩) K c)).run Try.prog W = .ok (.string ⟨T.toArray⟩) W := fun W hb => by
      have := text_any (c := c) (Rd.below' yT hb hb.size); rwa [lT] at this
    have cR : ∀ W : World, Below w8.heap.size w8 W → (convert 26 9 (.slice A2 (l.length - K) c2)).run Try.prog W = .ok (.string ⟨D.toArray⟩) W := fun W hb => by
      have := text_any (c := c2) (Rd.below' Z8.out hb hb.size); rwa [lD] at this
    have CT := Lib.hid cT
    have CR := Lib.hid cR
    have LT := Lib.hid lT
    have YD : Hid (By w8 w8.heap.size (some ⟨b, o + K, none⟩) D) := by rw [hD]; exact by_drop Y8.out K
    have YN : Hid (l.length ≤ K → By w8 w8.heap.size (some ⟨b, o, none⟩) D) := fun h => by rw [hD]; exact by_nil h
    have LD := Lib.hid lD
    clear hT hD lT lD yT cT cR
    have f1 : K ≤ l.length := hK.out
    have f2 : l.length ≤ c := HC.out
    have f3 : (0 : Int) ≤ (K : Int) := by omega
    have f4 : K ≤ c := by omega
    have hcm : ∀ W : World, Below w8.heap.size w8 W → W.cell? ⟨gM, 0, none⟩ = some (.int .i64 k) ∧ W.cell? ⟨gM, 1, none⟩ = some (.int .i64 a) ∧ W.cell? ⟨gM, 2, none⟩ = some (.int .i64 s) ∧ W.cell? ⟨gM, 3, none⟩ = some (.bool x) ∧ W.cell? ⟨gM, 4, none⟩ = some (.int .i64 p) ∧ W.cell? ⟨gM, 5, none⟩ = some (.int .i64 q) ∧ W.cell? ⟨gM, 6, none⟩ = some (.int .i64 n) ∧ W.cell? ⟨gM, 7, none⟩ = some (.int .i64 t) ∧ W.cell? ⟨gM, 8, none⟩ = some (.int .i64 i) ∧ W.cell? ⟨gM, 9, none⟩ = some (.int .i64 y) ∧ W.cell? ⟨gM, 10, none⟩ = some (.int .i64 z) ∧ W.cell? ⟨gM, 11, none⟩ = some (.int .i64 v) := fun W hb => have k := Blk.below' M8.out hb; ⟨k.cell 0, k.cell 1, k.cell 2, k.cell 3, k.cell 4, k.cell 5, k.cell 6, k.cell 7, k.cell 8, k.cell 9, k.cell 10, k.cell 11⟩
    have HCM := Lib.hid hcm
    clear hcm
    by_cases hcK : c = K
    · subst hcK
      have LZ : Hid (l.length - c = 0) := by show _ = _; omega
      have CR0 : Hid (∀ W : World, Below w8.heap.size w8 W → (convert 26 9 (.slice A2 0 c2)).run Try.prog W = .ok (.string ⟨D.toArray⟩) W) := fun W hb => by
        have := CR.out W hb; rwa [LZ.out] at this
      have CX : Hid (∀ W : World, Below w8.heap.size w8 W → (convert 26 9 (.slice (some ⟨b, o, none⟩) 0 0)).run Try.prog W = .ok (.string ⟨D.toArray⟩) W) := fun W hb => by
        have := text_any (c := 0) (Rd.below' (YN.out (by omega)) hb hb.size); rwa [LD.out, LZ.out] at this
      have B8 : Below w8.heap.size w8 w8.drew := (Below.refl _ _).drew
      have q8 : w8.drew.cell? ⟨gM, 0, none⟩ = some (.int .i64 k) ∧ w8.drew.cell? ⟨gM, 1, none⟩ = some (.int .i64 a) ∧ w8.drew.cell? ⟨gM, 2, none⟩ = some (.int .i64 s) ∧ w8.drew.cell? ⟨gM, 3, none⟩ = some (.bool x) ∧ w8.drew.cell? ⟨gM, 4, none⟩ = some (.int .i64 p) ∧ w8.drew.cell? ⟨gM, 5, none⟩ = some (.int .i64 q) ∧ w8.drew.cell? ⟨gM, 6, none⟩ = some (.int .i64 n) ∧ w8.drew.cell? ⟨gM, 7, none⟩ = some (.int .i64 t) ∧ w8.drew.cell? ⟨gM, 8, none⟩ = some (.int .i64 i) ∧ w8.drew.cell? ⟨gM, 9, none⟩ = some (.int .i64 y) ∧ w8.drew.cell? ⟨gM, 10, none⟩ = some (.int .i64 z) ∧ w8.drew.cell? ⟨gM, 11, none⟩ = some (.int .i64 v) ∧ (convert 26 9 (.slice A2 0 c2)).run Try.prog w8.drew = .ok (.string ⟨D.toArray⟩) w8.drew ∧ (convert 26 9 (.slice (some ⟨b, o, none⟩) 0 0)).run Try.prog w8.drew = .ok (.string ⟨D.toArray⟩) w8.drew ∧ (convert 26 9 (.slice (some ⟨b, o, none⟩) c c)).run Try.prog w8.drew = .ok (.string ⟨T.toArray⟩) w8.drew := ⟨(HCM.out _ B8).1, (HCM.out _ B8).2.1, (HCM.out _ B8).2.2.1, (HCM.out _ B8).2.2.2.1, (HCM.out _ B8).2.2.2.2.1, (HCM.out _ B8).2.2.2.2.2.1, (HCM.out _ B8).2.2.2.2.2.2.1, (HCM.out _ B8).2.2.2.2.2.2.2.1, (HCM.out _ B8).2.2.2.2.2.2.2.2.1, (HCM.out _ B8).2.2.2.2.2.2.2.2.2.1, (HCM.out _ B8).2.2.2.2.2.2.2.2.2.2.1, (HCM.out _ B8).2.2.2.2.2.2.2.2.2.2.2, CR0.out _ B8, CX.out _ B8, CT.out _ B8⟩
      go_upto_region 7 with fail
      refine wp_region_held_drew (S := (fun w' => w'.cell? ⟨gM, 0, none⟩ = some (.int .i64 k) ∧ w'.cell? ⟨gM, 1, none⟩ = some (.int .i64 a) ∧ w'.cell? ⟨gM, 2, none⟩ = some (.int .i64 s) ∧ w'.cell? ⟨gM, 3, none⟩ = some (.bool x) ∧ w'.cell? ⟨gM, 4, none⟩ = some (.int .i64 p) ∧ w'.cell? ⟨gM, 5, none⟩ = some (.int .i64 q) ∧ w'.cell? ⟨gM, 6, none⟩ = some (.int .i64 n) ∧ w'.cell? ⟨gM, 7, none⟩ = some (.int .i64 t) ∧ w'.cell? ⟨gM, 8, none⟩ = some (.int .i64 i) ∧ w'.cell? ⟨gM, 9, none⟩ = some (.int .i64 y) ∧ w'.cell? ⟨gM, 10, none⟩ = some (.int .i64 z) ∧ w'.cell? ⟨gM, 11, none⟩ = some (.int .i64 v) ∧ (convert 26 9 (.slice A2 0 c2)).run Try.prog w' = .ok (.string ⟨D.toArray⟩) w' ∧ (convert 26 9 (.slice (some ⟨b, o, none⟩) 0 0)).run Try.prog w' = .ok (.string ⟨D.toArray⟩) w' ∧ (convert 26 9 (.slice (some ⟨b, o, none⟩) c c)).run Try.prog w' = .ok (.string ⟨T.toArray⟩) w')) (by kernel_rfl) q8 (fun hHeld => ?_)
      refine wpAnyH_take (i := 0) (v := ?_) rfl (by kernel_rfl) (by kernel_rfl) (by kernel_rfl) (fun _ _ _ h => h) (Or.inl ⟨by rfl, ?_⟩) (by assumption) ?_
      rotate_left
      · intro w' hSw
        (try dsimp only at hSw)
        go_simp
        try with_reducible rfl
      (try simp only [Act.put, List.getElem_toArray, List.getElem_cons_succ, List.getElem_cons_zero, List.setIfInBounds_toArray, List.set_cons_zero, List.set_cons_succ])
      refine wpAnyH_take (i := 1) (v := ?_) rfl (by kernel_rfl) (by kernel_rfl) (by kernel_rfl) (fun _ _ _ h => h) (Or.inl ⟨by rfl, ?_⟩) (by assumption) ?_
      rotate_left
      · intro w' hSw
        (try dsimp only at hSw)
        go_simp
        try with_reducible rfl
      (try simp only [Act.put, List.getElem_toArray, List.getElem_cons_succ, List.getElem_cons_zero, List.setIfInBounds_toArray, List.set_cons_zero, List.set_cons_succ])
      refine wpAnyH_take (i := 2) (v := ?_) rfl (by kernel_rfl) (by kernel_rfl) (by kernel_rfl) (fun _ _ _ h => h) (Or.inl ⟨by rfl, ?_⟩) (by assumption) ?_
      rotate_left
      · intro w' hSw
        (try dsimp only at hSw)
        go_simp
        try with_reducible rfl
      (try simp only [Act.put, List.getElem_toArray, List.getElem_cons_succ, List.getElem_cons_zero, List.setIfInBounds_toArray, List.set_cons_zero, List.set_cons_succ])
      refine wpAnyH_take (i := 3) (v := ?_) rfl (by kernel_rfl) (by kernel_rfl) (by kernel_rfl) (fun _ _ _ h => h) (Or.inl ⟨by rfl, ?_⟩) (by assumption) ?_
      rotate_left
      · intro w' hSw
        (try dsimp only at hSw)
        go_simp
        try with_reducible rfl
      (try simp only [Act.put, List.getElem_toArray, List.getElem_cons_succ, List.getElem_cons_zero, List.setIfInBounds_toArray, List.set_cons_zero, List.set_cons_succ])
      refine wpAnyH_take (i := 4) (v := ?_) rfl (by kernel_rfl) (by kernel_rfl) (by kernel_rfl) (fun _ _ _ h => h) (Or.inl ⟨by rfl, ?_⟩) (by assumption) ?_
      rotate_left
      · intro w' hSw
        (try dsimp only at hSw)
        go_simp
        try with_reducible rfl
      (try simp only [Act.put, List.getElem_toArray, List.getElem_cons_succ, List.getElem_cons_zero, List.setIfInBounds_toArray, List.set_cons_zero, List.set_cons_succ])
      refine wpAnyH_take (i := 5) (v := ?_) rfl (by kernel_rfl) (by kernel_rfl) (by kernel_rfl) (fun _ _ _ h => h) (Or.inl ⟨by rfl, ?_⟩) (by assumption) ?_
      rotate_left
      · intro w' hSw
        (try dsimp only at hSw)
        go_simp
        try with_reducible rfl
      (try simp only [Act.put, List.getElem_toArray, List.getElem_cons_succ, List.getElem_cons_zero, List.setIfInBounds_toArray, List.set_cons_zero, List.set_cons_succ])
      refine wpAnyH_take (i := 6) (v := ?_) rfl (by kernel_rfl) (by kernel_rfl) (by kernel_rfl) (fun _ _ _ h => h) (Or.inl ⟨by rfl, ?_⟩) (by assumption) ?_
      rotate_left
      · intro w' hSw
        (try dsimp only at hSw)
        go_simp
        try with_reducible rfl
      (try simp only [Act.put, List.getElem_toArray, List.getElem_cons_succ, List.getElem_cons_zero, List.setIfInBounds_toArray, List.set_cons_zero, List.set_cons_succ])
      refine wpAnyH_take (i := 7) (v := ?_) rfl (by kernel_rfl) (by kernel_rfl) (by kernel_rfl) (fun _ _ _ h => h) (Or.inl ⟨by rfl, ?_⟩) (by assumption) ?_
      rotate_left
      · intro w' hSw
        (try dsimp only at hSw)
        go_simp
        try with_reducible rfl
      (try simp only [Act.put, List.getElem_toArray, List.getElem_cons_succ, List.getElem_cons_zero, List.setIfInBounds_toArray, List.set_cons_zero, List.set_cons_succ])
      refine wpAnyH_take (i := 8) (v := ?_) rfl (by kernel_rfl) (by kernel_rfl) (by kernel_rfl) (fun _ _ _ h => h) (Or.inl ⟨by rfl, ?_⟩) (by assumption) ?_
      rotate_left
      · intro w' hSw
        (try dsimp only at hSw)
        go_simp
        try with_reducible rfl
      (try simp only [Act.put, List.getElem_toArray, List.getElem_cons_succ, List.getElem_cons_zero, List.setIfInBounds_toArray, List.set_cons_zero, List.set_cons_succ])
      refine wpAnyH_take (i := 9) (v := ?_) rfl (by kernel_rfl) (by kernel_rfl) (by kernel_rfl) (fun _ _ _ h => h) (Or.inl ⟨by rfl, ?_⟩) (by assumption) ?_
      rotate_left
      · intro w' hSw
        (try dsimp only at hSw)
        go_simp
        try with_reducible rfl
      (try simp only [Act.put, List.getElem_toArray, List.getElem_cons_succ, List.getElem_cons_zero, List.setIfInBounds_toArray, List.set_cons_zero, List.set_cons_succ])
      refine wpAnyH_take (i := 10) (v := ?_) rfl (by kernel_rfl) (by kernel_rfl) (by kernel_rfl) (fun _ _ _ h => h) (Or.inl ⟨by rfl, ?_⟩) (by assumption) ?_
      rotate_left
      · intro w' hSw
        (try dsimp only at hSw)
        go_simp
        try with_reducible rfl
      (try simp only [Act.put, List.getElem_toArray, List.getElem_cons_succ, List.getElem_cons_zero, List.setIfInBounds_toArray, List.set_cons_zero, List.set_cons_succ])
      refine wpAnyH_take (i := 11) (v := ?_) rfl (by kernel_rfl) (by kernel_rfl) (by kernel_rfl) (fun _ _ _ h => h) (Or.inl ⟨by rfl, ?_⟩) (by assumption) ?_
      rotate_left
      · intro w' hSw
        (try dsimp only at hSw)
        go_simp
        try with_reducible rfl
      (try simp only [Act.put, List.getElem_toArray, List.getElem_cons_succ, List.getElem_cons_zero, List.setIfInBounds_toArray, List.set_cons_zero, List.set_cons_succ])
      refine wpAnyH_take (i := 14) (v := ?_) rfl (by kernel_rfl) (by kernel_rfl) (by kernel_rfl) (fun _ _ _ h => h) (Or.inl ⟨by rfl, ?_⟩) (by assumption) ?_
      rotate_left
      · intro w' hSw
        (try dsimp only at hSw)
        go_simp
        try with_reducible rfl
      (try simp only [Act.put, List.getElem_toArray, List.getElem_cons_succ, List.getElem_cons_zero, List.setIfInBounds_toArray, List.set_cons_zero, List.set_cons_succ])
      refine wpAnyH_take (i := 15) (v := ?_) rfl (by kernel_rfl) (by kernel_rfl) (by kernel_rfl) (fun _ _ _ h => h) (Or.inl ⟨by rfl, ?_⟩) (by assumption) ?_
      rotate_left
      · intro w' hSw
        (try dsimp only at hSw)
        go_simp
        try with_reducible rfl
      (try simp only [Act.put, List.getElem_toArray, List.getElem_cons_succ, List.getElem_cons_zero, List.setIfInBounds_toArray, List.set_cons_zero, List.set_cons_succ])
      refine wpAnyH_take (i := 16) (v := ?_) rfl (by kernel_rfl) (by kernel_rfl) (by kernel_rfl) (fun _ _ _ h => h) (Or.inl ⟨by rfl, ?_⟩) (by assumption) ?_
      rotate_left
      · intro w' hSw
        (try dsimp only at hSw)
        go_simp
        try with_reducible rfl
      (try simp only [Act.put, List.getElem_toArray, List.getElem_cons_succ, List.getElem_cons_zero, List.setIfInBounds_toArray, List.set_cons_zero, List.set_cons_succ])
      refine wpAnyH_take (i := 17) (v := ?_) rfl (by kernel_rfl) (by kernel_rfl) (by kernel_rfl) (fun _ _ _ h => h) (Or.inl ⟨by rfl, ?_⟩) (by assumption) ?_
      rotate_left
      · intro w' hSw
        (try dsimp only at hSw)
        go_simp
        try with_reducible rfl
      (try simp only [Act.put, List.getElem_toArray, List.getElem_cons_succ, List.getElem_cons_zero, List.setIfInBounds_toArray, List.set_cons_zero, List.set_cons_succ])
      refine wpAnyH_ready (rs := [12]) (by kernel_rfl) (by simp) ?_
      refine AllReadyH.cons rfl (fun K' hK => ?_) AllReadyH.nil
      go_simp
      refine (encode_any ⟨k, a, s, x, p, q, n, t, i, y, z, v⟩ _ hwf.out).mono ?_
      rw [hE.out]
      rintro e w9 ⟨A9, c9, rfl, o9, b9, _⟩
      have B9 : Below w8.heap.size w8 w9 := (below_step ((Below.refl _ _).drew) b9)
      have q9 : w9.cell? ⟨gM, 0, none⟩ = some (.int .i64 k) ∧ w9.cell? ⟨gM, 1, none⟩ = some (.int .i64 a) ∧ w9.cell? ⟨gM, 2, none⟩ = some (.int .i64 s) ∧ w9.cell? ⟨gM, 3, none⟩ = some (.bool x) ∧ w9.cell? ⟨gM, 4, none⟩ = some (.int .i64 p) ∧ w9.cell? ⟨gM, 5, none⟩ = some (.int .i64 q) ∧ w9.cell? ⟨gM, 6, none⟩ = some (.int .i64 n) ∧ w9.cell? ⟨gM, 7, none⟩ = some (.int .i64 t) ∧ w9.cell? ⟨gM, 8, none⟩ = some (.int .i64 i) ∧ w9.cell? ⟨gM, 9, none⟩ = some (.int .i64 y) ∧ w9.cell? ⟨gM, 10, none⟩ = some (.int .i64 z) ∧ w9.cell? ⟨gM, 11, none⟩ = some (.int .i64 v) ∧ (convert 26 9 (.slice A2 0 c2)).run Try.prog w9 = .ok (.string ⟨D.toArray⟩) w9 ∧ (convert 26 9 (.slice (some ⟨b, o, none⟩) 0 0)).run Try.prog w9 = .ok (.string ⟨D.toArray⟩) w9 ∧ (convert 26 9 (.slice (some ⟨b, o, none⟩) c c)).run Try.prog w9 = .ok (.string ⟨T.toArray⟩) w9 := ⟨(HCM.out w9 B9).1, (HCM.out w9 B9).2.1, (HCM.out w9 B9).2.2.1, (HCM.out w9 B9).2.2.2.1, (HCM.out w9 B9).2.2.2.2.1, (HCM.out w9 B9).2.2.2.2.2.1, (HCM.out w9 B9).2.2.2.2.2.2.1, (HCM.out w9 B9).2.2.2.2.2.2.2.1, (HCM.out w9 B9).2.2.2.2.2.2.2.2.1, (HCM.out w9 B9).2.2.2.2.2.2.2.2.2.1, (HCM.out w9 B9).2.2.2.2.2.2.2.2.2.2.1, (HCM.out w9 B9).2.2.2.2.2.2.2.2.2.2.2, CR0.out w9 B9, CX.out w9 B9, CT.out w9 B9⟩
      have t9 : (convert 26 9 (.slice A9 T.length c9)).run Try.prog w9 = .ok (.string ⟨T.toArray⟩) w9 := text_any (Rd.of_own o9.out)
      have W9 : Hid (Below w.heap.size w w9) := below_step W8.out B9
      clear o9 b9
      go_wp2_with fail
      refine hK.out _ _ q9 (fun hHeld => ?_)
      clear hK K'
      (try simp only [Act.put, List.getElem_toArray, List.getElem_cons_succ, List.getElem_cons_zero, List.setIfInBounds_toArray, List.set_cons_zero, List.set_cons_succ])
      refine wpAnyH_ready (rs := [13]) (by kernel_rfl) (by simp) ?_
      refine AllReadyH.cons rfl (fun K' hK => ?_) AllReadyH.nil
      go_simp
      refine hK.out _ _ q9 (fun hHeld => ?_)
      clear hK K'
      (try simp only [Act.put, List.getElem_toArray, List.getElem_cons_succ, List.getElem_cons_zero, List.setIfInBounds_toArray, List.set_cons_zero, List.set_cons_succ])
      refine wpAnyH_take (i := 18) (v := ?_) rfl (by kernel_rfl) (by kernel_rfl) (by kernel_rfl) (fun _ _ _ h => h) (Or.inl ⟨by rfl, ?_⟩) (by assumption) ?_
      rotate_left
      · intro w' hSw
        (try dsimp only at hSw)
        go_simp
        try with_reducible rfl
      (try simp only [Act.put, List.getElem_toArray, List.getElem_cons_succ, List.getElem_cons_zero, List.setIfInBounds_toArray, List.set_cons_zero, List.set_cons_succ])
      refine wpAnyH_take (i := 19) (v := ?_) rfl (by kernel_rfl) (by kernel_rfl) (by kernel_rfl) (fun _ _ _ h => h) (Or.inl ⟨by rfl, ?_⟩) (by assumption) ?_
      rotate_left
      · intro w' hSw
        (try dsimp only at hSw)
        go_simp
        try with_reducible rfl
      (try simp only [Act.put, List.getElem_toArray, List.getElem_cons_succ, List.getElem_cons_zero, List.setIfInBounds_toArray, List.set_cons_zero, List.set_cons_succ])
      refine wpAnyH_take (i := 20) (v := ?_) rfl (by kernel_rfl) (by kernel_rfl) (by kernel_rfl) (fun _ _ _ h => h) (Or.inl ⟨by rfl, ?_⟩) (by assumption) ?_
      rotate_left
      · intro w' hSw
        (try dsimp only at hSw)
        go_simp
        try with_reducible rfl
      (try simp only [Act.put, List.getElem_toArray, List.getElem_cons_succ, List.getElem_cons_zero, List.setIfInBounds_toArray, List.set_cons_zero, List.set_cons_succ])
      refine wpAnyH_take (i := 21) (v := ?_) rfl (by kernel_rfl) (by kernel_rfl) (by kernel_rfl) (fun _ _ _ h => h) (Or.inl ⟨by rfl, ?_⟩) (by assumption) ?_
      rotate_left
      · intro w' hSw
        (try dsimp only at hSw)
        go_simp
        try with_reducible rfl
      (try simp only [Act.put, List.getElem_toArray, List.getElem_cons_succ, List.getElem_cons_zero, List.setIfInBounds_toArray, List.set_cons_zero, List.set_cons_succ])
      refine wpAnyH_done (by kernel_rfl) ?_ _
      go_wp2_with fail
      go_ret
      exact madeB_mk rfl W9.out
    · have hcK2 : ¬ K = c := fun h => hcK h.symm
      have CX : Hid (∀ W : World, Below w8.heap.size w8 W → (convert 26 9 (.slice (some ⟨b, o + K, none⟩) (l.length - K) (c - K))).run Try.prog W = .ok (.string ⟨D.toArray⟩) W) := fun W hb => by
        have := text_any (c := c - K) (Rd.below' YD.out hb hb.size); rwa [LD.out] at this
      have B8 : Below w8.heap.size w8 w8.drew := (Below.refl _ _).drew
      have q8 : w8.drew.cell? ⟨gM, 0, none⟩ = some (.int .i64 k) ∧ w8.drew.cell? ⟨gM, 1, none⟩ = some (.int .i64 a) ∧ w8.drew.cell? ⟨gM, 2, none⟩ = some (.int .i64 s) ∧ w8.drew.cell? ⟨gM, 3, none⟩ = some (.bool x) ∧ w8.drew.cell? ⟨gM, 4, none⟩ = some (.int .i64 p) ∧ w8.drew.cell? ⟨gM, 5, none⟩ = some (.int .i64 q) ∧ w8.drew.cell? ⟨gM, 6, none⟩ = some (.int .i64 n) ∧ w8.drew.cell? ⟨gM, 7, none⟩ = some (.int .i64 t) ∧ w8.drew.cell? ⟨gM, 8, none⟩ = some (.int .i64 i) ∧ w8.drew.cell? ⟨gM, 9, none⟩ = some (.int .i64 y) ∧ w8.drew.cell? ⟨gM, 10, none⟩ = some (.int .i64 z) ∧ w8.drew.cell? ⟨gM, 11, none⟩ = some (.int .i64 v) ∧ (convert 26 9 (.slice A2 (l.length - K) c2)).run Try.prog w8.drew = .ok (.string ⟨D.toArray⟩) w8.drew ∧ (convert 26 9 (.slice (some ⟨b, o + K, none⟩) (l.length - K) (c - K))).run Try.prog w8.drew = .ok (.string ⟨D.toArray⟩) w8.drew ∧ (convert 26 9 (.slice (some ⟨b, o, none⟩) K c)).run Try.prog w8.drew = .ok (.string ⟨T.toArray⟩) w8.drew := ⟨(HCM.out _ B8).1, (HCM.out _ B8).2.1, (HCM.out _ B8).2.2.1, (HCM.out _ B8).2.2.2.1, (HCM.out _ B8).2.2.2.2.1, (HCM.out _ B8).2.2.2.2.2.1, (HCM.out _ B8).2.2.2.2.2.2.1, (HCM.out _ B8).2.2.2.2.2.2.2.1, (HCM.out _ B8).2.2.2.2.2.2.2.2.1, (HCM.out _ B8).2.2.2.2.2.2.2.2.2.1, (HCM.out _ B8).2.2.2.2.2.2.2.2.2.2.1, (HCM.out _ B8).2.2.2.2.2.2.2.2.2.2.2, CR.out _ B8, CX.out _ B8, CT.out _ B8⟩
      go_upto_region 7 with fail
      refine wp_region_held_drew (S := (fun w' => w'.cell? ⟨gM, 0, none⟩ = some (.int .i64 k) ∧ w'.cell? ⟨gM, 1, none⟩ = some (.int .i64 a) ∧ w'.cell? ⟨gM, 2, none⟩ = some (.int .i64 s) ∧ w'.cell? ⟨gM, 3, none⟩ = some (.bool x) ∧ w'.cell? ⟨gM, 4, none⟩ = some (.int .i64 p) ∧ w'.cell? ⟨gM, 5, none⟩ = some (.int .i64 q) ∧ w'.cell? ⟨gM, 6, none⟩ = some (.int .i64 n) ∧ w'.cell? ⟨gM, 7, none⟩ = some (.int .i64 t) ∧ w'.cell? ⟨gM, 8, none⟩ = some (.int .i64 i) ∧ w'.cell? ⟨gM, 9, none⟩ = some (.int .i64 y) ∧ w'.cell? ⟨gM, 10, none⟩ = some (.int .i64 z) ∧ w'.cell? ⟨gM, 11, none⟩ = some (.int .i64 v) ∧ (convert 26 9 (.slice A2 (l.length - K) c2)).run Try.prog w' = .ok (.string ⟨D.toArray⟩) w' ∧ (convert 26 9 (.slice (some ⟨b, o + K, none⟩) (l.length - K) (c - K))).run Try.prog w' = .ok (.string ⟨D.toArray⟩) w' ∧ (convert 26 9 (.slice (some ⟨b, o, none⟩) K c)).run Try.prog w' = .ok (.string ⟨T.toArray⟩) w')) (by kernel_rfl) q8 (fun hHeld => ?_)
      refine wpAnyH_take (i := 0) (v := ?_) rfl (by kernel_rfl) (by kernel_rfl) (by kernel_rfl) (fun _ _ _ h => h) (Or.inl ⟨by rfl, ?_⟩) (by assumption) ?_
      rotate_left
      · intro w' hSw
        (try dsimp only at hSw)
        go_simp
        try with_reducible rfl
      (try simp only [Act.put, List.getElem_toArray, List.getElem_cons_succ, List.getElem_cons_zero, List.setIfInBounds_toArray, List.set_cons_zero, List.set_cons_succ])
      refine wpAnyH_take (i := 1) (v := ?_) rfl (by kernel_rfl) (by kernel_rfl) (by kernel_rfl) (fun _ _ _ h => h) (Or.inl ⟨by rfl, ?_⟩) (by assumption) ?_
      rotate_left
      · intro w' hSw
        (try dsimp only at hSw)
        go_simp
        try with_reducible rfl
      (try simp only [Act.put, List.getElem_toArray, List.getElem_cons_succ, List.getElem_cons_zero, List.setIfInBounds_toArray, List.set_cons_zero, List.set_cons_succ])
      refine wpAnyH_take (i := 2) (v := ?_) rfl (by kernel_rfl) (by kernel_rfl) (by kernel_rfl) (fun _ _ _ h => h) (Or.inl ⟨by rfl, ?_⟩) (by assumption) ?_
      rotate_left
      · intro w' hSw
        (try dsimp only at hSw)
        go_simp
        try with_reducible rfl
      (try simp only [Act.put, List.getElem_toArray, List.getElem_cons_succ, List.getElem_cons_zero, List.setIfInBounds_toArray, List.set_cons_zero, List.set_cons_succ])
      refine wpAnyH_take (i := 3) (v := ?_) rfl (by kernel_rfl) (by kernel_rfl) (by kernel_rfl) (fun _ _ _ h => h) (Or.inl ⟨by rfl, ?_⟩) (by assumption) ?_
      rotate_left
      · intro w' hSw
        (try dsimp only at hSw)
        go_simp
        try with_reducible rfl
      (try simp only [Act.put, List.getElem_toArray, List.getElem_cons_succ, List.getElem_cons_zero, List.setIfInBounds_toArray, List.set_cons_zero, List.set_cons_succ])
      refine wpAnyH_take (i := 4) (v := ?_) rfl (by kernel_rfl) (by kernel_rfl) (by kernel_rfl) (fun _ _ _ h => h) (Or.inl ⟨by rfl, ?_⟩) (by assumption) ?_
      rotate_left
      · intro w' hSw
        (try dsimp only at hSw)
        go_simp
        try with_reducible rfl
      (try simp only [Act.put, List.getElem_toArray, List.getElem_cons_succ, List.getElem_cons_zero, List.setIfInBounds_toArray, List.set_cons_zero, List.set_cons_succ])
      refine wpAnyH_take (i := 5) (v := ?_) rfl (by kernel_rfl) (by kernel_rfl) (by kernel_rfl) (fun _ _ _ h => h) (Or.inl ⟨by rfl, ?_⟩) (by assumption) ?_
      rotate_left
      · intro w' hSw
        (try dsimp only at hSw)
        go_simp
        try with_reducible rfl
      (try simp only [Act.put, List.getElem_toArray, List.getElem_cons_succ, List.getElem_cons_zero, List.setIfInBounds_toArray, List.set_cons_zero, List.set_cons_succ])
      refine wpAnyH_take (i := 6) (v := ?_) rfl (by kernel_rfl) (by kernel_rfl) (by kernel_rfl) (fun _ _ _ h => h) (Or.inl ⟨by rfl, ?_⟩) (by assumption) ?_
      rotate_left
      · intro w' hSw
        (try dsimp only at hSw)
        go_simp
        try with_reducible rfl
      (try simp only [Act.put, List.getElem_toArray, List.getElem_cons_succ, List.getElem_cons_zero, List.setIfInBounds_toArray, List.set_cons_zero, List.set_cons_succ])
      refine wpAnyH_take (i := 7) (v := ?_) rfl (by kernel_rfl) (by kernel_rfl) (by kernel_rfl) (fun _ _ _ h => h) (Or.inl ⟨by rfl, ?_⟩) (by assumption) ?_
      rotate_left
      · intro w' hSw
        (try dsimp only at hSw)
        go_simp
        try with_reducible rfl
      (try simp only [Act.put, List.getElem_toArray, List.getElem_cons_succ, List.getElem_cons_zero, List.setIfInBounds_toArray, List.set_cons_zero, List.set_cons_succ])
      refine wpAnyH_take (i := 8) (v := ?_) rfl (by kernel_rfl) (by kernel_rfl) (by kernel_rfl) (fun _ _ _ h => h) (Or.inl ⟨by rfl, ?_⟩) (by assumption) ?_
      rotate_left
      · intro w' hSw
        (try dsimp only at hSw)
        go_simp
        try with_reducible rfl
      (try simp only [Act.put, List.getElem_toArray, List.getElem_cons_succ, List.getElem_cons_zero, List.setIfInBounds_toArray, List.set_cons_zero, List.set_cons_succ])
      refine wpAnyH_take (i := 9) (v := ?_) rfl (by kernel_rfl) (by kernel_rfl) (by kernel_rfl) (fun _ _ _ h => h) (Or.inl ⟨by rfl, ?_⟩) (by assumption) ?_
      rotate_left
      · intro w' hSw
        (try dsimp only at hSw)
        go_simp
        try with_reducible rfl
      (try simp only [Act.put, List.getElem_toArray, List.getElem_cons_succ, List.getElem_cons_zero, List.setIfInBounds_toArray, List.set_cons_zero, List.set_cons_succ])
      refine wpAnyH_take (i := 10) (v := ?_) rfl (by kernel_rfl) (by kernel_rfl) (by kernel_rfl) (fun _ _ _ h => h) (Or.inl ⟨by rfl, ?_⟩) (by assumption) ?_
      rotate_left
      · intro w' hSw
        (try dsimp only at hSw)
        go_simp
        try with_reducible rfl
      (try simp only [Act.put, List.getElem_toArray, List.getElem_cons_succ, List.getElem_cons_zero, List.setIfInBounds_toArray, List.set_cons_zero, List.set_cons_succ])
      refine wpAnyH_take (i := 11) (v := ?_) rfl (by kernel_rfl) (by kernel_rfl) (by kernel_rfl) (fun _ _ _ h => h) (Or.inl ⟨by rfl, ?_⟩) (by assumption) ?_
      rotate_left
      · intro w' hSw
        (try dsimp only at hSw)
        go_simp
        try with_reducible rfl
      (try simp only [Act.put, List.getElem_toArray, List.getElem_cons_succ, List.getElem_cons_zero, List.setIfInBounds_toArray, List.set_cons_zero, List.set_cons_succ])
      refine wpAnyH_take (i := 14) (v := ?_) rfl (by kernel_rfl) (by kernel_rfl) (by kernel_rfl) (fun _ _ _ h => h) (Or.inl ⟨by rfl, ?_⟩) (by assumption) ?_
      rotate_left
      · intro w' hSw
        (try dsimp only at hSw)
        go_simp
        try with_reducible rfl
      (try simp only [Act.put, List.getElem_toArray, List.getElem_cons_succ, List.getElem_cons_zero, List.setIfInBounds_toArray, List.set_cons_zero, List.set_cons_succ])
      refine wpAnyH_take (i := 15) (v := ?_) rfl (by kernel_rfl) (by kernel_rfl) (by kernel_rfl) (fun _ _ _ h => h) (Or.inl ⟨by rfl, ?_⟩) (by assumption) ?_
      rotate_left
      · intro w' hSw
        (try dsimp only at hSw)
        go_simp
        try with_reducible rfl
      (try simp only [Act.put, List.getElem_toArray, List.getElem_cons_succ, List.getElem_cons_zero, List.setIfInBounds_toArray, List.set_cons_zero, List.set_cons_succ])
      refine wpAnyH_take (i := 16) (v := ?_) rfl (by kernel_rfl) (by kernel_rfl) (by kernel_rfl) (fun _ _ _ h => h) (Or.inl ⟨by rfl, ?_⟩) (by assumption) ?_
      rotate_left
      · intro w' hSw
        (try dsimp only at hSw)
        go_simp
        try with_reducible rfl
      (try simp only [Act.put, List.getElem_toArray, List.getElem_cons_succ, List.getElem_cons_zero, List.setIfInBounds_toArray, List.set_cons_zero, List.set_cons_succ])
      refine wpAnyH_take (i := 17) (v := ?_) rfl (by kernel_rfl) (by kernel_rfl) (by kernel_rfl) (fun _ _ _ h => h) (Or.inl ⟨by rfl, ?_⟩) (by assumption) ?_
      rotate_left
      · intro w' hSw
        (try dsimp only at hSw)
        go_simp
        try with_reducible rfl
      (try simp only [Act.put, List.getElem_toArray, List.getElem_cons_succ, List.getElem_cons_zero, List.setIfInBounds_toArray, List.set_cons_zero, List.set_cons_succ])
      refine wpAnyH_ready (rs := [12]) (by kernel_rfl) (by simp) ?_
      refine AllReadyH.cons rfl (fun K' hK => ?_) AllReadyH.nil
      go_simp
      refine (encode_any ⟨k, a, s, x, p, q, n, t, i, y, z, v⟩ _ hwf.out).mono ?_
      rw [hE.out]
      rintro e w9 ⟨A9, c9, rfl, o9, b9, _⟩
      have B9 : Below w8.heap.size w8 w9 := (below_step ((Below.refl _ _).drew) b9)
      have q9 : w9.cell? ⟨gM, 0, none⟩ = some (.int .i64 k) ∧ w9.cell? ⟨gM, 1, none⟩ = some (.int .i64 a) ∧ w9.cell? ⟨gM, 2, none⟩ = some (.int .i64 s) ∧ w9.cell? ⟨gM, 3, none⟩ = some (.bool x) ∧ w9.cell? ⟨gM, 4, none⟩ = some (.int .i64 p) ∧ w9.cell? ⟨gM, 5, none⟩ = some (.int .i64 q) ∧ w9.cell? ⟨gM, 6, none⟩ = some (.int .i64 n) ∧ w9.cell? ⟨gM, 7, none⟩ = some (.int .i64 t) ∧ w9.cell? ⟨gM, 8, none⟩ = some (.int .i64 i) ∧ w9.cell? ⟨gM, 9, none⟩ = some (.int .i64 y) ∧ w9.cell? ⟨gM, 10, none⟩ = some (.int .i64 z) ∧ w9.cell? ⟨gM, 11, none⟩ = some (.int .i64 v) ∧ (convert 26 9 (.slice A2 (l.length - K) c2)).run Try.prog w9 = .ok (.string ⟨D.toArray⟩) w9 ∧ (convert 26 9 (.slice (some ⟨b, o + K, none⟩) (l.length - K) (c - K))).run Try.prog w9 = .ok (.string ⟨D.toArray⟩) w9 ∧ (convert 26 9 (.slice (some ⟨b, o, none⟩) K c)).run Try.prog w9 = .ok (.string ⟨T.toArray⟩) w9 := ⟨(HCM.out w9 B9).1, (HCM.out w9 B9).2.1, (HCM.out w9 B9).2.2.1, (HCM.out w9 B9).2.2.2.1, (HCM.out w9 B9).2.2.2.2.1, (HCM.out w9 B9).2.2.2.2.2.1, (HCM.out w9 B9).2.2.2.2.2.2.1, (HCM.out w9 B9).2.2.2.2.2.2.2.1, (HCM.out w9 B9).2.2.2.2.2.2.2.2.1, (HCM.out w9 B9).2.2.2.2.2.2.2.2.2.1, (HCM.out w9 B9).2.2.2.2.2.2.2.2.2.2.1, (HCM.out w9 B9).2.2.2.2.2.2.2.2.2.2.2, CR.out w9 B9, CX.out w9 B9, CT.out w9 B9⟩
      have t9 : (convert 26 9 (.slice A9 T.length c9)).run Try.prog w9 = .ok (.string ⟨T.toArray⟩) w9 := text_any (Rd.of_own o9.out)
      have W9 : Hid (Below w.heap.size w w9) := below_step W8.out B9
      clear o9 b9
      go_wp2_with fail
      refine hK.out _ _ q9 (fun hHeld => ?_)
      clear hK K'
      (try simp only [Act.put, List.getElem_toArray, List.getElem_cons_succ, List.getElem_cons_zero, List.setIfInBounds_toArray, List.set_cons_zero, List.set_cons_succ])
      refine wpAnyH_ready (rs := [13]) (by kernel_rfl) (by simp) ?_
      refine AllReadyH.cons rfl (fun K' hK => ?_) AllReadyH.nil
      go_simp
      refine hK.out _ _ q9 (fun hHeld => ?_)
      clear hK K'
      (try simp only [Act.put, List.getElem_toArray, List.getElem_cons_succ, List.getElem_cons_zero, List.setIfInBounds_toArray, List.set_cons_zero, List.set_cons_succ])
      refine wpAnyH_take (i := 18) (v := ?_) rfl (by kernel_rfl) (by kernel_rfl) (by kernel_rfl) (fun _ _ _ h => h) (Or.inl ⟨by rfl, ?_⟩) (by assumption) ?_
      rotate_left
      · intro w' hSw
        (try dsimp only at hSw)
        go_simp
        try with_reducible rfl
      (try simp only [Act.put, List.getElem_toArray, List.getElem_cons_succ, List.getElem_cons_zero, List.setIfInBounds_toArray, List.set_cons_zero, List.set_cons_succ])
      refine wpAnyH_take (i := 19) (v := ?_) rfl (by kernel_rfl) (by kernel_rfl) (by kernel_rfl) (fun _ _ _ h => h) (Or.inl ⟨by rfl, ?_⟩) (by assumption) ?_
      rotate_left
      · intro w' hSw
        (try dsimp only at hSw)
        go_simp
        try with_reducible rfl
      (try simp only [Act.put, List.getElem_toArray, List.getElem_cons_succ, List.getElem_cons_zero, List.setIfInBounds_toArray, List.set_cons_zero, List.set_cons_succ])
      refine wpAnyH_take (i := 20) (v := ?_) rfl (by kernel_rfl) (by kernel_rfl) (by kernel_rfl) (fun _ _ _ h => h) (Or.inl ⟨by rfl, ?_⟩) (by assumption) ?_
      rotate_left
      · intro w' hSw
        (try dsimp only at hSw)
        go_simp
        try with_reducible rfl
      (try simp only [Act.put, List.getElem_toArray, List.getElem_cons_succ, List.getElem_cons_zero, List.setIfInBounds_toArray, List.set_cons_zero, List.set_cons_succ])
      refine wpAnyH_take (i := 21) (v := ?_) rfl (by kernel_rfl) (by kernel_rfl) (by kernel_rfl) (fun _ _ _ h => h) (Or.inl ⟨by rfl, ?_⟩) (by assumption) ?_
      rotate_left
      · intro w' hSw
        (try dsimp only at hSw)
        go_simp
        try with_reducible rfl
      (try simp only [Act.put, List.getElem_toArray, List.getElem_cons_succ, List.getElem_cons_zero, List.setIfInBounds_toArray, List.set_cons_zero, List.set_cons_succ])
      refine wpAnyH_done (by kernel_rfl) ?_ _
      go_wp2_with fail
      go_ret
      exact madeB_mk rfl W9.out
  · rw [show mvl m0 = .agg #[.int .i64 0, .int .i64 0, .int .i64 0, .bool false, .int .i64 0, .int .i64 0, .int .i64 0, .int .i64 0, .int .i64 0, .int .i64 0, .int .i64 0, .int .i64 0] from rfl]
    have U3 : Hid (Below w2.heap.size w2 (w2.alloc (.cells #[.int .i64 0, .int .i64 0, .int .i64 0, .bool false, .int .i64 0, .int .i64 0, .int .i64 0, .int .i64 0, .int .i64 0, .int .i64 0, .int .i64 0, .int .i64 0] 30))) := (Below.refl _ _).alloc (Nat.le_refl _) _
    have M3 : Hid (Blk (w2.alloc (.cells #[.int .i64 0, .int .i64 0, .int .i64 0, .bool false, .int .i64 0, .int .i64 0, .int .i64 0, .int .i64 0, .int .i64 0, .int .i64 0, .int .i64 0, .int .i64 0] 30)) w2.heap.size 30 #[.int .i64 0, .int .i64 0, .int .i64 0, .bool false, .int .i64 0, .int .i64 0, .int .i64 0, .int .i64 0, .int .i64 0, .int .i64 0, .int .i64 0, .int .i64 0]) := Blk.fresh _ _ _
    have B3 : Hid (Below w1.heap.size w1 (w2.alloc (.cells #[.int .i64 0, .int .i64 0, .int .i64 0, .bool false, .int .i64 0, .int .i64 0, .int .i64 0, .int .i64 0, .int .i64 0, .int .i64 0, .int .i64 0, .int .i64 0] 30))) := below_step b2 U3.out
    have C3 : Hid (By (w2.alloc (.cells #[.int .i64 0, .int .i64 0, .int .i64 0, .bool false, .int .i64 0, .int .i64 0, .int .i64 0, .int .i64 0, .int .i64 0, .int .i64 0, .int .i64 0, .int .i64 0] 30)) (w2.alloc (.cells #[.int .i64 0, .int .i64 0, .int .i64 0, .bool false, .int .i64 0, .int .i64 0, .int .i64 0, .int .i64 0, .int .i64 0, .int .i64 0, .int .i64 0, .int .i64 0] 30)).heap.size A1 l) := Rd.below' C1.out B3.out B3.out.size
    have Y3 : Hid (By (w2.alloc (.cells #[.int .i64 0, .int .i64 0, .int .i64 0, .bool false, .int .i64 0, .int .i64 0, .int .i64 0, .int .i64 0, .int .i64 0, .int .i64 0, .int .i64 0, .int .i64 0] 30)) (w2.alloc (.cells #[.int .i64 0, .int .i64 0, .int .i64 0, .bool false, .int .i64 0, .int .i64 0, .int .i64 0, .int .i64 0, .int .i64 0, .int .i64 0, .int .i64 0, .int .i64 0] 30)).heap.size A l) := Rd.below' Y1.out B3.out B3.out.size
    have W3 : Hid (Below w.heap.size w (w2.alloc (.cells #[.int .i64 0, .int .i64 0, .int .i64 0, .bool false, .int .i64 0, .int .i64 0, .int .i64 0, .int .i64 0, .int .i64 0, .int .i64 0, .int .i64 0, .int .i64 0] 30))) := below_step B1.out B3.out
    have HNO := Lib.hid hno
    clear b2 U3 B3 C1 Y1 B1 hno
    go_upto_region 4 with fail
    generalize w2.alloc (.cells #[.int .i64 0, .int .i64 0, .int .i64 0, .bool false, .int .i64 0, .int .i64 0, .int .i64 0, .int .i64 0, .int .i64 0, .int .i64 0, .int .i64 0, .int .i64 0] 30) = w3 at M3 C3 Y3 W3 ⊢
    generalize w2.heap.size = gM at M3 ⊢
    go_wp2_with fail
    refine (rdecode_d A c l _ (by have := HL.out; omega) HC.out hc Y3).mono ?_
    rintro e w4 (⟨hok, _⟩ | ⟨_, rfl, b4⟩)
    case inl => exact absurd hok HNO.out
    rw [show mvl m0 = .agg #[.int .i64 0, .int .i64 0, .int .i64 0, .bool false, .int .i64 0, .int .i64 0, .int .i64 0, .int .i64 0, .int .i64 0, .int .i64 0, .int .i64 0, .int .i64 0] from rfl]
    have U5 : Hid (Below w4.heap.size w4 (w4.alloc (.cells #[.int .i64 0, .int .i64 0, .int .i64 0, .bool false, .int .i64 0, .int .i64 0, .int .i64 0, .int .i64 0, .int .i64 0, .int .i64 0, .int .i64 0, .int .i64 0] 25))) := (Below.refl _ _).alloc (Nat.le_refl _) _
    have B5 : Hid (Below w3.heap.size w3 (w4.alloc (.cells #[.int .i64 0, .int .i64 0, .int .i64 0, .bool false, .int .i64 0, .int .i64 0, .int .i64 0, .int .i64 0, .int .i64 0, .int .i64 0, .int .i64 0, .int .i64 0] 25))) := below_step b4 U5.out
    have Q5 : Hid (Blk (w4.alloc (.cells #[.int .i64 0, .int .i64 0, .int .i64 0, .bool false, .int .i64 0, .int .i64 0, .int .i64 0, .int .i64 0, .int .i64 0, .int .i64 0, .int .i64 0, .int .i64 0] 25)) w4.heap.size 25 #[.int .i64 0, .int .i64 0, .int .i64 0, .bool false, .int .i64 0, .int .i64 0, .int .i64 0, .int .i64 0, .int .i64 0, .int .i64 0, .int .i64 0, .int .i64 0]) := Blk.fresh _ _ _
    have M5 : Hid (Blk (w4.alloc (.cells #[.int .i64 0, .int .i64 0, .int .i64 0, .bool false, .int .i64 0, .int .i64 0, .int .i64 0, .int .i64 0, .int .i64 0, .int .i64 0, .int .i64 0, .int .i64 0] 25)) gM 30 #[.int .i64 0, .int .i64 0, .int .i64 0, .bool false, .int .i64 0, .int .i64 0, .int .i64 0, .int .i64 0, .int .i64 0, .int .i64 0, .int .i64 0, .int .i64 0]) := Blk.below' M3.out B5.out
    have C5 : Hid (By (w4.alloc (.cells #[.int .i64 0, .int .i64 0, .int .i64 0, .bool false, .int .i64 0, .int .i64 0, .int .i64 0, .int .i64 0, .int .i64 0, .int .i64 0, .int .i64 0, .int .i64 0] 25)) (w4.alloc (.cells #[.int .i64 0, .int .i64 0, .int .i64 0, .bool false, .int .i64 0, .int .i64 0, .int .i64 0, .int .i64 0, .int .i64 0, .int .i64 0, .int .i64 0, .int .i64 0] 25)).heap.size A1 l) := Rd.below' C3.out B5.out B5.out.size
    have Y5 : Hid (By (w4.alloc (.cells #[.int .i64 0, .int .i64 0, .int .i64 0, .bool false, .int .i64 0, .int .i64 0, .int .i64 0, .int .i64 0, .int .i64 0, .int .i64 0, .int .i64 0, .int .i64 0] 25)) (w4.alloc (.cells #[.int .i64 0, .int .i64 0, .int .i64 0, .bool false, .int .i64 0, .int .i64 0, .int .i64 0, .int .i64 0, .int .i64 0, .int .i64 0, .int .i64 0, .int .i64 0] 25)).heap.size A l) := Rd.below' Y3.out B5.out B5.out.size
    have W5 : Hid (Below w.heap.size w (w4.alloc (.cells #[.int .i64 0, .int .i64 0, .int .i64 0, .bool false, .int .i64 0, .int .i64 0, .int .i64 0, .int .i64 0, .int .i64 0, .int .i64 0, .int .i64 0, .int .i64 0] 25))) := below_step W3.out B5.out
    clear b4 U5 B5 M3 C3 Y3 W3
    go_upto_region 5 with fail
    generalize w4.alloc (.cells #[.int .i64 0, .int .i64 0, .int .i64 0, .bool false, .int .i64 0, .int .i64 0, .int .i64 0, .int .i64 0, .int .i64 0, .int .i64 0, .int .i64 0, .int .i64 0] 25) = w5 at Q5 M5 C5 Y5 W5 ⊢
    generalize w4.heap.size = gQ at Q5 ⊢
    have eM : eqM ⟨0, 0, 0, false, 0, 0, 0, 0, 0, 0, 0, 0⟩ ⟨0, 0, 0, false, 0, 0, 0, 0, 0, 0, 0, 0⟩ = true := eqM_self _
    have B6 : Hid (Below w5.heap.size w5 w5.drew) := (Below.refl _ _).drew
    have s0d : w5.drew.cell? ⟨gM, 0, none⟩ = some (.int .i64 0) ∧ w5.drew.cell? ⟨gM, 1, none⟩ = some (.int .i64 0) ∧ w5.drew.cell? ⟨gM, 2, none⟩ = some (.int .i64 0) ∧ w5.drew.cell? ⟨gM, 3, none⟩ = some (.bool false) ∧ w5.drew.cell? ⟨gM, 4, none⟩ = some (.int .i64 0) ∧ w5.drew.cell? ⟨gM, 5, none⟩ = some (.int .i64 0) ∧ w5.drew.cell? ⟨gM, 6, none⟩ = some (.int .i64 0) ∧ w5.drew.cell? ⟨gM, 7, none⟩ = some (.int .i64 0) ∧ w5.drew.cell? ⟨gM, 8, none⟩ = some (.int .i64 0) ∧ w5.drew.cell? ⟨gM, 9, none⟩ = some (.int .i64 0) ∧ w5.drew.cell? ⟨gM, 10, none⟩ = some (.int .i64 0) ∧ w5.drew.cell? ⟨gM, 11, none⟩ = some (.int .i64 0) ∧ w5.drew.cell? ⟨gQ, 0, none⟩ = some (.int .i64 0) ∧ w5.drew.cell? ⟨gQ, 1, none⟩ = some (.int .i64 0) ∧ w5.drew.cell? ⟨gQ, 2, none⟩ = some (.int .i64 0) ∧ w5.drew.cell? ⟨gQ, 3, none⟩ = some (.bool false) ∧ w5.drew.cell? ⟨gQ, 4, none⟩ = some (.int .i64 0) ∧ w5.drew.cell? ⟨gQ, 5, none⟩ = some (.int .i64 0) ∧ w5.drew.cell? ⟨gQ, 6, none⟩ = some (.int .i64 0) ∧ w5.drew.cell? ⟨gQ, 7, none⟩ = some (.int .i64 0) ∧ w5.drew.cell? ⟨gQ, 8, none⟩ = some (.int .i64 0) ∧ w5.drew.cell? ⟨gQ, 9, none⟩ = some (.int .i64 0) ∧ w5.drew.cell? ⟨gQ, 10, none⟩ = some (.int .i64 0) ∧ w5.drew.cell? ⟨gQ, 11, none⟩ = some (.int .i64 0) ∧ (convert 26 9 (.slice A1 l.length c1)).run Try.prog w5.drew = .ok (.string ⟨l.toArray⟩) w5.drew ∧ (convert 26 9 (.slice A l.length c)).run Try.prog w5.drew = .ok (.string ⟨l.toArray⟩) w5.drew := s26 (Blk.below' M5.out B6.out) (Blk.below' Q5.out B6.out) (Rd.below' C5.out B6.out B6.out.size) (Rd.below' Y5.out B6.out B6.out.size)
    refine wp_region_held_drew (S := (fun w' => w'.cell? ⟨gM, 0, none⟩ = some (.int .i64 0) ∧ w'.cell? ⟨gM, 1, none⟩ = some (.int .i64 0) ∧ w'.cell? ⟨gM, 2, none⟩ = some (.int .i64 0) ∧ w'.cell? ⟨gM, 3, none⟩ = some (.bool false) ∧ w'.cell? ⟨gM, 4, none⟩ = some (.int .i64 0) ∧ w'.cell? ⟨gM, 5, none⟩ = some (.int .i64 0) ∧ w'.cell? ⟨gM, 6, none⟩ = some (.int .i64 0) ∧ w'.cell? ⟨gM, 7, none⟩ = some (.int .i64 0) ∧ w'.cell? ⟨gM, 8, none⟩ = some (.int .i64 0) ∧ w'.cell? ⟨gM, 9, none⟩ = some (.int .i64 0) ∧ w'.cell? ⟨gM, 10, none⟩ = some (.int .i64 0) ∧ w'.cell? ⟨gM, 11, none⟩ = some (.int .i64 0) ∧ w'.cell? ⟨gQ, 0, none⟩ = some (.int .i64 0) ∧ w'.cell? ⟨gQ, 1, none⟩ = some (.int .i64 0) ∧ w'.cell? ⟨gQ, 2, none⟩ = some (.int .i64 0) ∧ w'.cell? ⟨gQ, 3, none⟩ = some (.bool false) ∧ w'.cell? ⟨gQ, 4, none⟩ = some (.int .i64 0) ∧ w'.cell? ⟨gQ, 5, none⟩ = some (.int .i64 0) ∧ w'.cell? ⟨gQ, 6, none⟩ = some (.int .i64 0) ∧ w'.cell? ⟨gQ, 7, none⟩ = some (.int .i64 0) ∧ w'.cell? ⟨gQ, 8, none⟩ = some (.int .i64 0) ∧ w'.cell? ⟨gQ, 9, none⟩ = some (.int .i64 0) ∧ w'.cell? ⟨gQ, 10, none⟩ = some (.int .i64 0) ∧ w'.cell? ⟨gQ, 11, none⟩ = some (.int .i64 0) ∧ (convert 26 9 (.slice A1 l.length c1)).run Try.prog w' = .ok (.string ⟨l.toArray⟩) w' ∧ (convert 26 9 (.slice A l.length c)).run Try.prog w' = .ok (.string ⟨l.toArray⟩) w')) (by kernel_rfl) s0d (fun hHeld => ?_)
    refine wpAnyH_ready (rs := [0]) (by kernel_rfl) (by simp) ?_
    refine AllReadyH.cons rfl (fun K' hK => ?_) AllReadyH.nil
    go_simp
    refine (told6_any _).mono ?_
    rintro e w7 ⟨rfl, hb7⟩
    have B7 : Hid (Below w5.heap.size w5 w7) := Below.trans B6.out hb7
    have q7 : w7.cell? ⟨gM, 0, none⟩ = some (.int .i64 0) ∧ w7.cell? ⟨gM, 1, none⟩ = some (.int .i64 0) ∧ w7.cell? ⟨gM, 2, none⟩ = some (.int .i64 0) ∧ w7.cell? ⟨gM, 3, none⟩ = some (.bool false) ∧ w7.cell? ⟨gM, 4, none⟩ = some (.int .i64 0) ∧ w7.cell? ⟨gM, 5, none⟩ = some (.int .i64 0) ∧ w7.cell? ⟨gM, 6, none⟩ = some (.int .i64 0) ∧ w7.cell? ⟨gM, 7, none⟩ = some (.int .i64 0) ∧ w7.cell? ⟨gM, 8, none⟩ = some (.int .i64 0) ∧ w7.cell? ⟨gM, 9, none⟩ = some (.int .i64 0) ∧ w7.cell? ⟨gM, 10, none⟩ = some (.int .i64 0) ∧ w7.cell? ⟨gM, 11, none⟩ = some (.int .i64 0) ∧ w7.cell? ⟨gQ, 0, none⟩ = some (.int .i64 0) ∧ w7.cell? ⟨gQ, 1, none⟩ = some (.int .i64 0) ∧ w7.cell? ⟨gQ, 2, none⟩ = some (.int .i64 0) ∧ w7.cell? ⟨gQ, 3, none⟩ = some (.bool false) ∧ w7.cell? ⟨gQ, 4, none⟩ = some (.int .i64 0) ∧ w7.cell? ⟨gQ, 5, none⟩ = some (.int .i64 0) ∧ w7.cell? ⟨gQ, 6, none⟩ = some (.int .i64 0) ∧ w7.cell? ⟨gQ, 7, none⟩ = some (.int .i64 0) ∧ w7.cell? ⟨gQ, 8, none⟩ = some (.int .i64 0) ∧ w7.cell? ⟨gQ, 9, none⟩ = some (.int .i64 0) ∧ w7.cell? ⟨gQ, 10, none⟩ = some (.int .i64 0) ∧ w7.cell? ⟨gQ, 11, none⟩ = some (.int .i64 0) ∧ (convert 26 9 (.slice A1 l.length c1)).run Try.prog w7 = .ok (.string ⟨l.toArray⟩) w7 ∧ (convert 26 9 (.slice A l.length c)).run Try.prog w7 = .ok (.string ⟨l.toArray⟩) w7 := s26 (Blk.below' M5.out B7.out) (Blk.below' Q5.out B7.out) (Rd.below' C5.out B7.out B7.out.size) (Rd.below' Y5.out B7.out B7.out.size)
    go_wp2_with fail
    refine hK.out _ _ q7 (fun hHeld => ?_)
    clear hK K'
    (try simp only [Act.put, List.getElem_toArray, List.getElem_cons_succ, List.getElem_cons_zero, List.setIfInBounds_toArray, List.set_cons_zero, List.set_cons_succ])
    refine wpAnyH_take (i := 1) (v := ?_) rfl (by kernel_rfl) (by kernel_rfl) (by kernel_rfl) (fun _ _ _ h => h) (Or.inl ⟨by rfl, ?_⟩) (by assumption) ?_
    rotate_left
    · intro w' hSw
      (try dsimp only at hSw)
      go_simp
      try with_reducible rfl
    (try simp only [Act.put, List.getElem_toArray, List.getElem_cons_succ, List.getElem_cons_zero, List.setIfInBounds_toArray, List.set_cons_zero, List.set_cons_succ])
    refine wpAnyH_take (i := 2) (v := ?_) rfl (by kernel_rfl) (by kernel_rfl) (by kernel_rfl) (fun _ _ _ h => h) (Or.inl ⟨by rfl, ?_⟩) (by assumption) ?_
    rotate_left
    · intro w' hSw
      (try dsimp only at hSw)
      go_simp
      try with_reducible rfl
    (try simp only [Act.put, List.getElem_toArray, List.getElem_cons_succ, List.getElem_cons_zero, List.setIfInBounds_toArray, List.set_cons_zero, List.set_cons_succ])
    refine wpAnyH_take (i := 3) (v := ?_) rfl (by kernel_rfl) (by kernel_rfl) (by kernel_rfl) (fun _ _ _ h => h) (Or.inl ⟨by rfl, ?_⟩) (by assumption) ?_
    rotate_left
    · intro w' hSw
      (try dsimp only at hSw)
      go_simp
      try with_reducible rfl
    (try simp only [Act.put, List.getElem_toArray, List.getElem_cons_succ, List.getElem_cons_zero, List.setIfInBounds_toArray, List.set_cons_zero, List.set_cons_succ])
    refine wpAnyH_take (i := 5) (v := ?_) rfl (by kernel_rfl) (by kernel_rfl) (by kernel_rfl) (fun _ _ _ h => h) (Or.inl ⟨by rfl, ?_⟩) (by assumption) ?_
    rotate_left
    · intro w' hSw
      (try dsimp only at hSw)
      go_simp
      try with_reducible rfl
    (try simp only [Act.put, List.getElem_toArray, List.getElem_cons_succ, List.getElem_cons_zero, List.setIfInBounds_toArray, List.set_cons_zero, List.set_cons_succ])
    refine wpAnyH_ready (rs := [4]) (by kernel_rfl) (by simp) ?_
    refine AllReadyH.cons rfl (fun K' hK => ?_) AllReadyH.nil
    go_simp
    refine (from_any ⟨0, 0, 0, false, 0, 0, 0, 0, 0, 0, 0, 0⟩ _).mono ?_
    rintro e w8 ⟨rfl, hb8⟩
    rw [show mvl ⟨0, 0, 0, false, 0, 0, 0, 0, 0, 0, 0, 0⟩ = .agg #[.int .i64 0, .int .i64 0, .int .i64 0, .bool false, .int .i64 0, .int .i64 0, .int .i64 0, .int .i64 0, .int .i64 0, .int .i64 0, .int .i64 0, .int .i64 0] from rfl]
    have B8 : Hid (Below w5.heap.size w5 w8) := below_step B7.out hb8
    have q8 : w8.cell? ⟨gM, 0, none⟩ = some (.int .i64 0) ∧ w8.cell? ⟨gM, 1, none⟩ = some (.int .i64 0) ∧ w8.cell? ⟨gM, 2, none⟩ = some (.int .i64 0) ∧ w8.cell? ⟨gM, 3, none⟩ = some (.bool false) ∧ w8.cell? ⟨gM, 4, none⟩ = some (.int .i64 0) ∧ w8.cell? ⟨gM, 5, none⟩ = some (.int .i64 0) ∧ w8.cell? ⟨gM, 6, none⟩ = some (.int .i64 0) ∧ w8.cell? ⟨gM, 7, none⟩ = some (.int .i64 0) ∧ w8.cell? ⟨gM, 8, none⟩ = some (.int .i64 0) ∧ w8.cell? ⟨gM, 9, none⟩ = some (.int .i64 0) ∧ w8.cell? ⟨gM, 10, none⟩ = some (.int .i64 0) ∧ w8.cell? ⟨gM, 11, none⟩ = some (.int .i64 0) ∧ w8.cell? ⟨gQ, 0, none⟩ = some (.int .i64 0) ∧ w8.cell? ⟨gQ, 1, none⟩ = some (.int .i64 0) ∧ w8.cell? ⟨gQ, 2, none⟩ = some (.int .i64 0) ∧ w8.cell? ⟨gQ, 3, none⟩ = some (.bool false) ∧ w8.cell? ⟨gQ, 4, none⟩ = some (.int .i64 0) ∧ w8.cell? ⟨gQ, 5, none⟩ = some (.int .i64 0) ∧ w8.cell? ⟨gQ, 6, none⟩ = some (.int .i64 0) ∧ w8.cell? ⟨gQ, 7, none⟩ = some (.int .i64 0) ∧ w8.cell? ⟨gQ, 8, none⟩ = some (.int .i64 0) ∧ w8.cell? ⟨gQ, 9, none⟩ = some (.int .i64 0) ∧ w8.cell? ⟨gQ, 10, none⟩ = some (.int .i64 0) ∧ w8.cell? ⟨gQ, 11, none⟩ = some (.int .i64 0) ∧ (convert 26 9 (.slice A1 l.length c1)).run Try.prog w8 = .ok (.string ⟨l.toArray⟩) w8 ∧ (convert 26 9 (.slice A l.length c)).run Try.prog w8 = .ok (.string ⟨l.toArray⟩) w8 := s26 (Blk.below' M5.out B8.out) (Blk.below' Q5.out B8.out) (Rd.below' C5.out B8.out B8.out.size) (Rd.below' Y5.out B8.out B8.out.size)
    go_wp2_with fail
    refine hK.out _ _ q8 (fun hHeld => ?_)
    clear hK K'
    (try simp only [Act.put, List.getElem_toArray, List.getElem_cons_succ, List.getElem_cons_zero, List.setIfInBounds_toArray, List.set_cons_zero, List.set_cons_succ])
    refine wpAnyH_take (i := 6) (v := ?_) rfl (by kernel_rfl) (by kernel_rfl) (by kernel_rfl) (fun _ _ _ h => h) (Or.inl ⟨by rfl, ?_⟩) (by assumption) ?_
    rotate_left
    · intro w' hSw
      (try dsimp only at hSw)
      go_simp
      try with_reducible rfl
    (try simp only [Act.put, List.getElem_toArray, List.getElem_cons_succ, List.getElem_cons_zero, List.setIfInBounds_toArray, List.set_cons_zero, List.set_cons_succ])
    refine wpAnyH_take (i := 7) (v := ?_) rfl (by kernel_rfl) (by kernel_rfl) (by kernel_rfl) (fun _ _ _ h => h) (Or.inl ⟨by rfl, ?_⟩) (by assumption) ?_
    rotate_left
    · intro w' hSw
      (try dsimp only at hSw)
      go_simp
      try with_reducible rfl
    (try simp only [Act.put, List.getElem_toArray, List.getElem_cons_succ, List.getElem_cons_zero, List.setIfInBounds_toArray, List.set_cons_zero, List.set_cons_succ])
    refine wpAnyH_take (i := 8) (v := ?_) rfl (by kernel_rfl) (by kernel_rfl) (by kernel_rfl) (fun _ _ _ h => h) (Or.inl ⟨by rfl, ?_⟩) (by assumption) ?_
    rotate_left
    · intro w' hSw
      (try dsimp only at hSw)
      go_simp
      try with_reducible rfl
    (try simp only [Act.put, List.getElem_toArray, List.getElem_cons_succ, List.getElem_cons_zero, List.setIfInBounds_toArray, List.set_cons_zero, List.set_cons_succ])
    refine wpAnyH_take (i := 9) (v := ?_) rfl (by kernel_rfl) (by kernel_rfl) (by kernel_rfl) (fun _ _ _ h => h) (Or.inl ⟨by rfl, ?_⟩) (by assumption) ?_
    rotate_left
    · intro w' hSw
      (try dsimp only at hSw)
      go_simp
      try with_reducible rfl
    (try simp only [Act.put, List.getElem_toArray, List.getElem_cons_succ, List.getElem_cons_zero, List.setIfInBounds_toArray, List.set_cons_zero, List.set_cons_succ])
    refine wpAnyH_take (i := 10) (v := ?_) rfl (by kernel_rfl) (by kernel_rfl) (by kernel_rfl) (fun _ _ _ h => h) (Or.inl ⟨by rfl, ?_⟩) (by assumption) ?_
    rotate_left
    · intro w' hSw
      (try dsimp only at hSw)
      go_simp
      try with_reducible rfl
    (try simp only [Act.put, List.getElem_toArray, List.getElem_cons_succ, List.getElem_cons_zero, List.setIfInBounds_toArray, List.set_cons_zero, List.set_cons_succ])
    refine wpAnyH_take (i := 11) (v := ?_) rfl (by kernel_rfl) (by kernel_rfl) (by kernel_rfl) (fun _ _ _ h => h) (Or.inl ⟨by rfl, ?_⟩) (by assumption) ?_
    rotate_left
    · intro w' hSw
      (try dsimp only at hSw)
      go_simp
      try with_reducible rfl
    (try simp only [Act.put, List.getElem_toArray, List.getElem_cons_succ, List.getElem_cons_zero, List.setIfInBounds_toArray, List.set_cons_zero, List.set_cons_succ])
    refine wpAnyH_take (i := 12) (v := ?_) rfl (by kernel_rfl) (by kernel_rfl) (by kernel_rfl) (fun _ _ _ h => h) (Or.inl ⟨by rfl, ?_⟩) (by assumption) ?_
    rotate_left
    · intro w' hSw
      (try dsimp only at hSw)
      go_simp
      try with_reducible rfl
    (try simp only [Act.put, List.getElem_toArray, List.getElem_cons_succ, List.getElem_cons_zero, List.setIfInBounds_toArray, List.set_cons_zero, List.set_cons_succ])
    refine wpAnyH_take (i := 13) (v := ?_) rfl (by kernel_rfl) (by kernel_rfl) (by kernel_rfl) (fun _ _ _ h => h) (Or.inl ⟨by rfl, ?_⟩) (by assumption) ?_
    rotate_left
    · intro w' hSw
      (try dsimp only at hSw)
      go_simp
      try with_reducible rfl
    (try simp only [Act.put, List.getElem_toArray, List.getElem_cons_succ, List.getElem_cons_zero, List.setIfInBounds_toArray, List.set_cons_zero, List.set_cons_succ])
    refine wpAnyH_take (i := 14) (v := ?_) rfl (by kernel_rfl) (by kernel_rfl) (by kernel_rfl) (fun _ _ _ h => h) (Or.inl ⟨by rfl, ?_⟩) (by assumption) ?_
    rotate_left
    · intro w' hSw
      (try dsimp only at hSw)
      go_simp
      try with_reducible rfl
    (try simp only [Act.put, List.getElem_toArray, List.getElem_cons_succ, List.getElem_cons_zero, List.setIfInBounds_toArray, List.set_cons_zero, List.set_cons_succ])
    refine wpAnyH_take (i := 15) (v := ?_) rfl (by kernel_rfl) (by kernel_rfl) (by kernel_rfl) (fun _ _ _ h => h) (Or.inl ⟨by rfl, ?_⟩) (by assumption) ?_
    rotate_left
    · intro w' hSw
      (try dsimp only at hSw)
      go_simp
      try with_reducible rfl
    (try simp only [Act.put, List.getElem_toArray, List.getElem_cons_succ, List.getElem_cons_zero, List.setIfInBounds_toArray, List.set_cons_zero, List.set_cons_succ])
    refine wpAnyH_take (i := 16) (v := ?_) rfl (by kernel_rfl) (by kernel_rfl) (by kernel_rfl) (fun _ _ _ h => h) (Or.inl ⟨by rfl, ?_⟩) (by assumption) ?_
    rotate_left
    · intro w' hSw
      (try dsimp only at hSw)
      go_simp
      try with_reducible rfl
    (try simp only [Act.put, List.getElem_toArray, List.getElem_cons_succ, List.getElem_cons_zero, List.setIfInBounds_toArray, List.set_cons_zero, List.set_cons_succ])
    refine wpAnyH_take (i := 17) (v := ?_) rfl (by kernel_rfl) (by kernel_rfl) (by kernel_rfl) (fun _ _ _ h => h) (Or.inl ⟨by rfl, ?_⟩) (by assumption) ?_
    rotate_left
    · intro w' hSw
      (try dsimp only at hSw)
      go_simp
      try with_reducible rfl
    (try simp only [Act.put, List.getElem_toArray, List.getElem_cons_succ, List.getElem_cons_zero, List.setIfInBounds_toArray, List.set_cons_zero, List.set_cons_succ])
    refine wpAnyH_take (i := 18) (v := ?_) rfl (by kernel_rfl) (by kernel_rfl) (by kernel_rfl) (fun _ _ _ h => h) (Or.inl ⟨by rfl, ?_⟩) (by assumption) ?_
    rotate_left
    · intro w' hSw
      (try dsimp only at hSw)
      go_simp
      try with_reducible rfl
    (try simp only [Act.put, List.getElem_toArray, List.getElem_cons_succ, List.getElem_cons_zero, List.setIfInBounds_toArray, List.set_cons_zero, List.set_cons_succ])
    refine wpAnyH_take (i := 19) (v := ?_) rfl (by kernel_rfl) (by kernel_rfl) (by kernel_rfl) (fun _ _ _ h => h) (Or.inl ⟨by rfl, ?_⟩) (by assumption) ?_
    rotate_left
    · intro w' hSw
      (try dsimp only at hSw)
      go_simp
      try with_reducible rfl
    (try simp only [Act.put, List.getElem_toArray, List.getElem_cons_succ, List.getElem_cons_zero, List.setIfInBounds_toArray, List.set_cons_zero, List.set_cons_succ])
    refine wpAnyH_take (i := 20) (v := ?_) rfl (by kernel_rfl) (by kernel_rfl) (by kernel_rfl) (fun _ _ _ h => h) (Or.inl ⟨by rfl, ?_⟩) (by assumption) ?_
    rotate_left
    · intro w' hSw
      (try dsimp only at hSw)
      go_simp
      try with_reducible rfl
    (try simp only [Act.put, List.getElem_toArray, List.getElem_cons_succ, List.getElem_cons_zero, List.setIfInBounds_toArray, List.set_cons_zero, List.set_cons_succ])
    refine wpAnyH_take (i := 21) (v := ?_) rfl (by kernel_rfl) (by kernel_rfl) (by kernel_rfl) (fun _ _ _ h => h) (Or.inl ⟨by rfl, ?_⟩) (by assumption) ?_
    rotate_left
    · intro w' hSw
      (try dsimp only at hSw)
      go_simp
      try with_reducible rfl
    (try simp only [Act.put, List.getElem_toArray, List.getElem_cons_succ, List.getElem_cons_zero, List.setIfInBounds_toArray, List.set_cons_zero, List.set_cons_succ])
    refine wpAnyH_take (i := 22) (v := ?_) rfl (by kernel_rfl) (by kernel_rfl) (by kernel_rfl) (fun _ _ _ h => h) (Or.inl ⟨by rfl, ?_⟩) (by assumption) ?_
    rotate_left
    · intro w' hSw
      (try dsimp only at hSw)
      go_simp
      try with_reducible rfl
    (try simp only [Act.put, List.getElem_toArray, List.getElem_cons_succ, List.getElem_cons_zero, List.setIfInBounds_toArray, List.set_cons_zero, List.set_cons_succ])
    refine wpAnyH_take (i := 23) (v := ?_) rfl (by kernel_rfl) (by kernel_rfl) (by kernel_rfl) (fun _ _ _ h => h) (Or.inl ⟨by rfl, ?_⟩) (by assumption) ?_
    rotate_left
    · intro w' hSw
      (try dsimp only at hSw)
      go_simp
      try with_reducible rfl
    (try simp only [Act.put, List.getElem_toArray, List.getElem_cons_succ, List.getElem_cons_zero, List.setIfInBounds_toArray, List.set_cons_zero, List.set_cons_succ])
    refine wpAnyH_take (i := 24) (v := ?_) rfl (by kernel_rfl) (by kernel_rfl) (by kernel_rfl) (fun _ _ _ h => h) (Or.inl ⟨by rfl, ?_⟩) (by assumption) ?_
    rotate_left
    · intro w' hSw
      (try dsimp only at hSw)
      go_simp
      try with_reducible rfl
    (try simp only [Act.put, List.getElem_toArray, List.getElem_cons_succ, List.getElem_cons_zero, List.setIfInBounds_toArray, List.set_cons_zero, List.set_cons_succ])
    refine wpAnyH_take (i := 25) (v := ?_) rfl (by kernel_rfl) (by kernel_rfl) (by kernel_rfl) (fun _ _ _ h => h) (Or.inl ⟨by rfl, ?_⟩) (by assumption) ?_
    rotate_left
    · intro w' hSw
      (try dsimp only at hSw)
      go_simp
      try with_reducible rfl
    (try simp only [Act.put, List.getElem_toArray, List.getElem_cons_succ, List.getElem_cons_zero, List.setIfInBounds_toArray, List.set_cons_zero, List.set_cons_succ])
    refine wpAnyH_take (i := 26) (v := ?_) rfl (by kernel_rfl) (by kernel_rfl) (by kernel_rfl) (fun _ _ _ h => h) (Or.inl ⟨by rfl, ?_⟩) (by assumption) ?_
    rotate_left
    · intro w' hSw
      (try dsimp only at hSw)
      go_simp
      try with_reducible rfl
    (try simp only [Act.put, List.getElem_toArray, List.getElem_cons_succ, List.getElem_cons_zero, List.setIfInBounds_toArray, List.set_cons_zero, List.set_cons_succ])
    refine wpAnyH_take (i := 27) (v := ?_) rfl (by kernel_rfl) (by kernel_rfl) (by kernel_rfl) (fun _ _ _ h => h) (Or.inl ⟨by rfl, ?_⟩) (by assumption) ?_
    rotate_left
    · intro w' hSw
      (try dsimp only at hSw)
      go_simp
      try with_reducible rfl
    (try simp only [Act.put, List.getElem_toArray, List.getElem_cons_succ, List.getElem_cons_zero, List.setIfInBounds_toArray, List.set_cons_zero, List.set_cons_succ])
    refine wpAnyH_take (i := 28) (v := ?_) rfl (by kernel_rfl) (by kernel_rfl) (by kernel_rfl) (fun _ _ _ h => h) (Or.inl ⟨by rfl, ?_⟩) (by assumption) ?_
    rotate_left
    · intro w' hSw
      (try dsimp only at hSw)
      go_simp
      try with_reducible rfl
    (try simp only [Act.put, List.getElem_toArray, List.getElem_cons_succ, List.getElem_cons_zero, List.setIfInBounds_toArray, List.set_cons_zero, List.set_cons_succ])
    refine wpAnyH_take (i := 29) (v := ?_) rfl (by kernel_rfl) (by kernel_rfl) (by kernel_rfl) (fun _ _ _ h => h) (Or.inl ⟨by rfl, ?_⟩) (by assumption) ?_
    rotate_left
    · intro w' hSw
      (try dsimp only at hSw)
      go_simp
      try with_reducible rfl
    (try simp only [Act.put, List.getElem_toArray, List.getElem_cons_succ, List.getElem_cons_zero, List.setIfInBounds_toArray, List.set_cons_zero, List.set_cons_succ])
    refine wpAnyH_take (i := 30) (v := ?_) rfl (by kernel_rfl) (by kernel_rfl) (by kernel_rfl) (fun _ _ _ h => h) (Or.inl ⟨by rfl, ?_⟩) (by assumption) ?_
    rotate_left
    · intro w' hSw
      (try dsimp only at hSw)
      go_simp
      try with_reducible rfl
    (try simp only [Act.put, List.getElem_toArray, List.getElem_cons_succ, List.getElem_cons_zero, List.setIfInBounds_toArray, List.set_cons_zero, List.set_cons_succ])
    refine wpAnyH_take (i := 31) (v := ?_) rfl (by kernel_rfl) (by kernel_rfl) (by kernel_rfl) (fun _ _ _ h => h) (Or.inl ⟨by rfl, ?_⟩) (by assumption) ?_
    rotate_left
    · intro w' hSw
      (try dsimp only at hSw)
      go_simp
      try with_reducible rfl
    (try simp only [Act.put, List.getElem_toArray, List.getElem_cons_succ, List.getElem_cons_zero, List.setIfInBounds_toArray, List.set_cons_zero, List.set_cons_succ])
    refine wpAnyH_take (i := 32) (v := ?_) rfl (by kernel_rfl) (by kernel_rfl) (by kernel_rfl) (fun _ _ _ h => h) (Or.inl ⟨by rfl, ?_⟩) (by assumption) ?_
    rotate_left
    · intro w' hSw
      (try dsimp only at hSw)
      go_simp
      try with_reducible rfl
    (try simp only [Act.put, List.getElem_toArray, List.getElem_cons_succ, List.getElem_cons_zero, List.setIfInBounds_toArray, List.set_cons_zero, List.set_cons_succ])
    refine wpAnyH_take (i := 33) (v := ?_) rfl (by kernel_rfl) (by kernel_rfl) (by kernel_rfl) (fun _ _ _ h => h) (Or.inl ⟨by rfl, ?_⟩) (by assumption) ?_
    rotate_left
    · intro w' hSw
      (try dsimp only at hSw)
      go_simp
      try with_reducible rfl
    (try simp only [Act.put, List.getElem_toArray, List.getElem_cons_succ, List.getElem_cons_zero, List.setIfInBounds_toArray, List.set_cons_zero, List.set_cons_succ])
    refine wpAnyH_take (i := 34) (v := ?_) rfl (by kernel_rfl) (by kernel_rfl) (by kernel_rfl) (fun _ _ _ h => h) (Or.inl ⟨by rfl, ?_⟩) (by assumption) ?_
    rotate_left
    · intro w' hSw
      (try dsimp only at hSw)
      go_simp
      try with_reducible rfl
    (try simp only [Act.put, List.getElem_toArray, List.getElem_cons_succ, List.getElem_cons_zero, List.setIfInBounds_toArray, List.set_cons_zero, List.set_cons_succ])
    refine wpAnyH_done (by kernel_rfl) ?_ _
    have W8 : Hid (Below w.heap.size w w8) := below_step W5.out B8.out
    clear q7 q8 s0d Y5 M5 Q5 C5 W5 B6 B7 B8 hb7 hb8 hHeld eM
    go_upto_region 7 with fail
    refine wp_region_held_drew (S := (fun _ => True)) (by kernel_rfl) trivial (fun hHeld => ?_)
    refine wpAnyH_take (i := 0) (v := ?_) rfl (by kernel_rfl) (by kernel_rfl) (by kernel_rfl) (fun _ _ _ h => h) (Or.inl ⟨by rfl, ?_⟩) (by assumption) ?_
    rotate_left
    · intro w' hSw
      (try dsimp only at hSw)
      go_simp
      try with_reducible rfl
    (try simp only [Act.put, List.getElem_toArray, List.getElem_cons_succ, List.getElem_cons_zero, List.setIfInBounds_toArray, List.set_cons_zero, List.set_cons_succ])
    refine wpAnyH_take (i := 1) (v := ?_) rfl (by kernel_rfl) (by kernel_rfl) (by kernel_rfl) (fun _ _ _ h => h) (Or.inl ⟨by rfl, ?_⟩) (by assumption) ?_
    rotate_left
    · intro w' hSw
      (try dsimp only at hSw)
      go_simp
      try with_reducible rfl
    (try simp only [Act.put, List.getElem_toArray, List.getElem_cons_succ, List.getElem_cons_zero, List.setIfInBounds_toArray, List.set_cons_zero, List.set_cons_succ])
    refine wpAnyH_take (i := 2) (v := ?_) rfl (by kernel_rfl) (by kernel_rfl) (by kernel_rfl) (fun _ _ _ h => h) (Or.inl ⟨by rfl, ?_⟩) (by assumption) ?_
    rotate_left
    · intro w' hSw
      (try dsimp only at hSw)
      go_simp
      try with_reducible rfl
    (try simp only [Act.put, List.getElem_toArray, List.getElem_cons_succ, List.getElem_cons_zero, List.setIfInBounds_toArray, List.set_cons_zero, List.set_cons_succ])
    refine wpAnyH_take (i := 3) (v := undef) rfl (by kernel_rfl) (by kernel_rfl) (by kernel_rfl) (fun _ _ _ h => h) (Or.inr ⟨by rfl, rfl⟩) (by assumption) ?_
    (try simp only [Act.put, List.getElem_toArray, List.getElem_cons_succ, List.getElem_cons_zero, List.setIfInBounds_toArray, List.set_cons_zero, List.set_cons_succ])
    refine wpAnyH_take (i := 4) (v := undef) rfl (by kernel_rfl) (by kernel_rfl) (by kernel_rfl) (fun _ _ _ h => h) (Or.inr ⟨by rfl, rfl⟩) (by assumption) ?_
    (try simp only [Act.put, List.getElem_toArray, List.getElem_cons_succ, List.getElem_cons_zero, List.setIfInBounds_toArray, List.set_cons_zero, List.set_cons_succ])
    refine wpAnyH_take (i := 5) (v := undef) rfl (by kernel_rfl) (by kernel_rfl) (by kernel_rfl) (fun _ _ _ h => h) (Or.inr ⟨by rfl, rfl⟩) (by assumption) ?_
    (try simp only [Act.put, List.getElem_toArray, List.getElem_cons_succ, List.getElem_cons_zero, List.setIfInBounds_toArray, List.set_cons_zero, List.set_cons_succ])
    refine wpAnyH_take (i := 6) (v := undef) rfl (by kernel_rfl) (by kernel_rfl) (by kernel_rfl) (fun _ _ _ h => h) (Or.inr ⟨by rfl, rfl⟩) (by assumption) ?_
    (try simp only [Act.put, List.getElem_toArray, List.getElem_cons_succ, List.getElem_cons_zero, List.setIfInBounds_toArray, List.set_cons_zero, List.set_cons_succ])
    refine wpAnyH_take (i := 7) (v := undef) rfl (by kernel_rfl) (by kernel_rfl) (by kernel_rfl) (fun _ _ _ h => h) (Or.inr ⟨by rfl, rfl⟩) (by assumption) ?_
    (try simp only [Act.put, List.getElem_toArray, List.getElem_cons_succ, List.getElem_cons_zero, List.setIfInBounds_toArray, List.set_cons_zero, List.set_cons_succ])
    refine wpAnyH_take (i := 8) (v := undef) rfl (by kernel_rfl) (by kernel_rfl) (by kernel_rfl) (fun _ _ _ h => h) (Or.inr ⟨by rfl, rfl⟩) (by assumption) ?_
    (try simp only [Act.put, List.getElem_toArray, List.getElem_cons_succ, List.getElem_cons_zero, List.setIfInBounds_toArray, List.set_cons_zero, List.set_cons_succ])
    refine wpAnyH_take (i := 9) (v := undef) rfl (by kernel_rfl) (by kernel_rfl) (by kernel_rfl) (fun _ _ _ h => h) (Or.inr ⟨by rfl, rfl⟩) (by assumption) ?_
    (try simp only [Act.put, List.getElem_toArray, List.getElem_cons_succ, List.getElem_cons_zero, List.setIfInBounds_toArray, List.set_cons_zero, List.set_cons_succ])
    refine wpAnyH_take (i := 10) (v := undef) rfl (by kernel_rfl) (by kernel_rfl) (by kernel_rfl) (fun _ _ _ h => h) (Or.inr ⟨by rfl, rfl⟩) (by assumption) ?_
    (try simp only [Act.put, List.getElem_toArray, List.getElem_cons_succ, List.getElem_cons_zero, List.setIfInBounds_toArray, List.set_cons_zero, List.set_cons_succ])
    refine wpAnyH_take (i := 11) (v := undef) rfl (by kernel_rfl) (by kernel_rfl) (by kernel_rfl) (fun _ _ _ h => h) (Or.inr ⟨by rfl, rfl⟩) (by assumption) ?_
    (try simp only [Act.put, List.getElem_toArray, List.getElem_cons_succ, List.getElem_cons_zero, List.setIfInBounds_toArray, List.set_cons_zero, List.set_cons_succ])
    refine wpAnyH_take (i := 12) (v := undef) rfl (by kernel_rfl) (by kernel_rfl) (by kernel_rfl) (fun _ _ _ h => h) (Or.inr ⟨by rfl, rfl⟩) (by assumption) ?_
    (try simp only [Act.put, List.getElem_toArray, List.getElem_cons_succ, List.getElem_cons_zero, List.setIfInBounds_toArray, List.set_cons_zero, List.set_cons_succ])
    refine wpAnyH_take (i := 13) (v := undef) rfl (by kernel_rfl) (by kernel_rfl) (by kernel_rfl) (fun _ _ _ h => h) (Or.inr ⟨by rfl, rfl⟩) (by assumption) ?_
    (try simp only [Act.put, List.getElem_toArray, List.getElem_cons_succ, List.getElem_cons_zero, List.setIfInBounds_toArray, List.set_cons_zero, List.set_cons_succ])
    refine wpAnyH_take (i := 14) (v := undef) rfl (by kernel_rfl) (by kernel_rfl) (by kernel_rfl) (fun _ _ _ h => h) (Or.inr ⟨by rfl, rfl⟩) (by assumption) ?_
    (try simp only [Act.put, List.getElem_toArray, List.getElem_cons_succ, List.getElem_cons_zero, List.setIfInBounds_toArray, List.set_cons_zero, List.set_cons_succ])
    refine wpAnyH_take (i := 15) (v := undef) rfl (by kernel_rfl) (by kernel_rfl) (by kernel_rfl) (fun _ _ _ h => h) (Or.inr ⟨by rfl, rfl⟩) (by assumption) ?_
    (try simp only [Act.put, List.getElem_toArray, List.getElem_cons_succ, List.getElem_cons_zero, List.setIfInBounds_toArray, List.set_cons_zero, List.set_cons_succ])
    refine wpAnyH_take (i := 16) (v := undef) rfl (by kernel_rfl) (by kernel_rfl) (by kernel_rfl) (fun _ _ _ h => h) (Or.inr ⟨by rfl, rfl⟩) (by assumption) ?_
    (try simp only [Act.put, List.getElem_toArray, List.getElem_cons_succ, List.getElem_cons_zero, List.setIfInBounds_toArray, List.set_cons_zero, List.set_cons_succ])
    refine wpAnyH_take (i := 17) (v := undef) rfl (by kernel_rfl) (by kernel_rfl) (by kernel_rfl) (fun _ _ _ h => h) (Or.inr ⟨by rfl, rfl⟩) (by assumption) ?_
    (try simp only [Act.put, List.getElem_toArray, List.getElem_cons_succ, List.getElem_cons_zero, List.setIfInBounds_toArray, List.set_cons_zero, List.set_cons_succ])
    refine wpAnyH_take (i := 18) (v := undef) rfl (by kernel_rfl) (by kernel_rfl) (by kernel_rfl) (fun _ _ _ h => h) (Or.inr ⟨by rfl, rfl⟩) (by assumption) ?_
    (try simp only [Act.put, List.getElem_toArray, List.getElem_cons_succ, List.getElem_cons_zero, List.setIfInBounds_toArray, List.set_cons_zero, List.set_cons_succ])
    refine wpAnyH_take (i := 19) (v := undef) rfl (by kernel_rfl) (by kernel_rfl) (by kernel_rfl) (fun _ _ _ h => h) (Or.inr ⟨by rfl, rfl⟩) (by assumption) ?_
    (try simp only [Act.put, List.getElem_toArray, List.getElem_cons_succ, List.getElem_cons_zero, List.setIfInBounds_toArray, List.set_cons_zero, List.set_cons_succ])
    refine wpAnyH_take (i := 20) (v := ?_) rfl (by kernel_rfl) (by kernel_rfl) (by kernel_rfl) (fun _ _ _ h => h) (Or.inl ⟨by rfl, ?_⟩) (by assumption) ?_
    rotate_left
    · intro w' hSw
      (try dsimp only at hSw)
      go_simp
      try with_reducible rfl
    (try simp only [Act.put, List.getElem_toArray, List.getElem_cons_succ, List.getElem_cons_zero, List.setIfInBounds_toArray, List.set_cons_zero, List.set_cons_succ])
    refine wpAnyH_take (i := 21) (v := ?_) rfl (by kernel_rfl) (by kernel_rfl) (by kernel_rfl) (fun _ _ _ h => h) (Or.inl ⟨by rfl, ?_⟩) (by assumption) ?_
    rotate_left
    · intro w' hSw
      (try dsimp only at hSw)
      go_simp
      try with_reducible rfl
    (try simp only [Act.put, List.getElem_toArray, List.getElem_cons_succ, List.getElem_cons_zero, List.setIfInBounds_toArray, List.set_cons_zero, List.set_cons_succ])
    refine wpAnyH_done (by kernel_rfl) ?_ _
    go_wp2_with fail
    go_ret
    exact madeB_mk rfl (Below.drew W8.out)

set_option maxRecDepth 100000 in
theorem lifted (os : Os) (started : os.Started) (H : Type) (enc : TypeId × Value → H) :
    ReturnsInHanded {} Try.checked os 4 .any (Rows.wireDecodesSpec.pre6 enc Try.prog Try.f4 Rows.wireDecodesRow.domain false) (Rows.wireDecodesSpec.post enc Try.prog Try.f4 false true false false) := by
  refine returnsInHanded_of_change (C := Try.checked) own started (by kernel_rfl) Try.func4
    (ChangeSpec.witness6 (enc := enc) (C := Try.checked) false ⟨#[], #[.slice none 0 0], []⟩ 8 (by kernel_rfl) (by kernel_rfl) (by kernel_rfl) (by kernel_rfl)) ?_
  intro W base args ds gs before hval0 hW hcnd _
  have hval : ∀ (j : Nat) t v, Try.f4.params[j]? = some t → args[j]? = some v → Value.okWide Try.prog W .any base t v := hval0
  have hW' := hW
  obtain ⟨p, q, hA0, hV, rfl, hfz, hnd⟩ := hW
  have hA : DataW.TrodAll enc Try.prog W 0 (fun _ => true) true Try.f4.params.toList args.toList ds p := hA0
  rw [Try.params4] at hA hval
  obtain ⟨v0, d0, rfl, rfl, h0⟩ := trodAll_one hA
  obtain ⟨A0, n0, c0, rfl⟩ := okWide_slice Try.underlying26 (hval 0 _ v0 rfl rfl)
  obtain ⟨fu, h0'⟩ := h0
  obtain ⟨A, c, l, hv, hlc, hcm, hl⟩ := open_bytes (v := .slice A0 n0 c0) Try.underlying26 Try.underlying5 (by kernel_rfl) h0'
  cases hv
  refine (inner2 A0 _ c0 (l.take 100) W (cut_len _ _) hlc (by unfold maxLen at hcm; omega) (by_cut hl _)).mono fun e W' ⟨he, hb⟩ => ?_
  subst he
  exact ⟨_, rfl, law_post hW' rfl rfl rfl rfl (by kernel_rfl) Try.underlying4 (by rw [Try.params4]; simp only [List.mem_cons, List.not_mem_nil, or_false, forall_eq]; exact ⟨by kernel_rfl, of_decide_eq_true (by kernel_rfl)⟩) laidOut hb⟩

theorem over : Rows.wireDecodesRow.holds Try.pinned (OpenSpec.ofChange Rows.wireDecodesSpec) :=
  OpenClaim.holds_of_wide 4 Try.f4 rfl rfl rfl rfl rfl rfl rfl ⟨rfl, rfl, rfl, rfl, rfl⟩ rfl rfl rfl rfl rfl (by kernel_rfl) Try.func4 (by kernel_rfl)
    (of_decide_eq_true (by kernel_rfl)) (by unfold Func.isWrapper; first | (rw [if_pos (by decide +kernel)]; kernel_rfl) | (rw [if_neg (by decide +kernel)]; exact ⟨rfl, rfl⟩))
    (fun os started H enc _ => lifted os started H enc)

theorem proved : Rows.WireDecodesSaid := over
#print axioms proved
end Go.Proofs.Ytebnjhfmlihjcaa.wireDecodes
