/- For every slice of bytes the law WireAlls returns true, and changes nothing: all messages are told, as the reference says. No condition. -/
import Derived.Test.YtecjecgkioklaaaWbo
import Derived.Test.YtecjecgkioklaaaWra
import Derived.Test.YtecjecgkioklaaaWt6
import Derived.Test.YtecjecgkioklaaaWto
namespace Go.Proofs.Ytecjecgkioklaaa.wireAlls
set_option maxRecDepth 100000
open Go.ChangeShapes Go.WideShapes Go.ChangeAt Go.RowKit Mem Tre Ref3 Law3 Fix3 CrdB CrdC Rr4 Fr4 Wpl Wmr Wrt Wal Wra Wt6 Wto Rul4 Few5 Wbo Opn Go.Joins Go.Deep
set_option linter.unusedVariables false

theorem own : ownKnob Try.prog.godebug = none := by kernel_rfl
theorem laidOut : laidOutB Try.prog = true := by kernel_rfl

theorem allF_le (f : Nat) (l : List UInt8) : (allF f l).1.length ≤ f := by
  induction f generalizing l with
  | zero => exact Nat.le_refl _
  | succ f ih =>
    unfold allF
    split
    · simp
    · split
      · have := ih (l.drop (lenK (fld l 0 1)))
        simp only [List.length_cons]
        omega
      · simp
theorem s24 {w w1 : World} {pa oa pb ob j : Nat} {v0 v1 v2 v3 v4 v5 v6 v7 v8 v9 v10 v11 : Value} (hb : Below w.heap.size w w1) (h : w.cell? ⟨pa, oa + j * 12, none⟩ = some v0 ∧ w.cell? ⟨pa, oa + j * 12 + 1, none⟩ = some v1 ∧ w.cell? ⟨pa, oa + j * 12 + 2, none⟩ = some v2 ∧ w.cell? ⟨pa, oa + j * 12 + 3, none⟩ = some v3 ∧ w.cell? ⟨pa, oa + j * 12 + 4, none⟩ = some v4 ∧ w.cell? ⟨pa, oa + j * 12 + 5, none⟩ = some v5 ∧ w.cell? ⟨pa, oa + j * 12 + 6, none⟩ = some v6 ∧ w.cell? ⟨pa, oa + j * 12 + 7, none⟩ = some v7 ∧ w.cell? ⟨pa, oa + j * 12 + 8, none⟩ = some v8 ∧ w.cell? ⟨pa, oa + j * 12 + 9, none⟩ = some v9 ∧ w.cell? ⟨pa, oa + j * 12 + 10, none⟩ = some v10 ∧ w.cell? ⟨pa, oa + j * 12 + 11, none⟩ = some v11 ∧ w.cell? ⟨pb, ob + j * 12, none⟩ = some v0 ∧ w.cell? ⟨pb, ob + j * 12 + 1, none⟩ = some v1 ∧ w.cell? ⟨pb, ob + j * 12 + 2, none⟩ = some v2 ∧ w.cell? ⟨pb, ob + j * 12 + 3, none⟩ = some v3 ∧ w.cell? ⟨pb, ob + j * 12 + 4, none⟩ = some v4 ∧ w.cell? ⟨pb, ob + j * 12 + 5, none⟩ = some v5 ∧ w.cell? ⟨pb, ob + j * 12 + 6, none⟩ = some v6 ∧ w.cell? ⟨pb, ob + j * 12 + 7, none⟩ = some v7 ∧ w.cell? ⟨pb, ob + j * 12 + 8, none⟩ = some v8 ∧ w.cell? ⟨pb, ob + j * 12 + 9, none⟩ = some v9 ∧ w.cell? ⟨pb, ob + j * 12 + 10, none⟩ = some v10 ∧ w.cell? ⟨pb, ob + j * 12 + 11, none⟩ = some v11) : w1.cell? ⟨pa, oa + j * 12, none⟩ = some v0 ∧ w1.cell? ⟨pa, oa + j * 12 + 1, none⟩ = some v1 ∧ w1.cell? ⟨pa, oa + j * 12 + 2, none⟩ = some v2 ∧ w1.cell? ⟨pa, oa + j * 12 + 3, none⟩ = some v3 ∧ w1.cell? ⟨pa, oa + j * 12 + 4, none⟩ = some v4 ∧ w1.cell? ⟨pa, oa + j * 12 + 5, none⟩ = some v5 ∧ w1.cell? ⟨pa, oa + j * 12 + 6, none⟩ = some v6 ∧ w1.cell? ⟨pa, oa + j * 12 + 7, none⟩ = some v7 ∧ w1.cell? ⟨pa, oa + j * 12 + 8, none⟩ = some v8 ∧ w1.cell? ⟨pa, oa + j * 12 + 9, none⟩ = some v9 ∧ w1.cell? ⟨pa, oa + j * 12 + 10, none⟩ = some v10 ∧ w1.cell? ⟨pa, oa + j * 12 + 11, none⟩ = some v11 ∧ w1.cell? ⟨pb, ob + j * 12, none⟩ = some v0 ∧ w1.cell? ⟨pb, ob + j * 12 + 1, none⟩ = some v1 ∧ w1.cell? ⟨pb, ob + j * 12 + 2, none⟩ = some v2 ∧ w1.cell? ⟨pb, ob + j * 12 + 3, none⟩ = some v3 ∧ w1.cell? ⟨pb, ob + j * 12 + 4, none⟩ = some v4 ∧ w1.cell? ⟨pb, ob + j * 12 + 5, none⟩ = some v5 ∧ w1.cell? ⟨pb, ob + j * 12 + 6, none⟩ = some v6 ∧ w1.cell? ⟨pb, ob + j * 12 + 7, none⟩ = some v7 ∧ w1.cell? ⟨pb, ob + j * 12 + 8, none⟩ = some v8 ∧ w1.cell? ⟨pb, ob + j * 12 + 9, none⟩ = some v9 ∧ w1.cell? ⟨pb, ob + j * 12 + 10, none⟩ = some v10 ∧ w1.cell? ⟨pb, ob + j * 12 + 11, none⟩ = some v11 := by
  obtain ⟨h0, h1, h2, h3, h4, h5, h6, h7, h8, h9, h10, h11, h12, h13, h14, h15, h16, h17, h18, h19, h20, h21, h22, h23⟩ := h
  exact ⟨cell_later hb h0, cell_later hb h1, cell_later hb h2, cell_later hb h3, cell_later hb h4, cell_later hb h5, cell_later hb h6, cell_later hb h7, cell_later hb h8, cell_later hb h9, cell_later hb h10, cell_later hb h11, cell_later hb h12, cell_later hb h13, cell_later hb h14, cell_later hb h15, cell_later hb h16, cell_later hb h17, cell_later hb h18, cell_later hb h19, cell_later hb h20, cell_later hb h21, cell_later hb h22, cell_later hb h23⟩
attribute [local go_sem high] neP12 neQ12
set_option maxHeartbeats 8000000 in
theorem inner2 (A : Option Addr) (N c : Nat) (l : List UInt8) (w : World) (hn : Hid (cut N 600 = l.length)) (hN : N ≤ c) (hc : (c : Int) ≤ 9223372036854775807) (hr : Hid (By w w.heap.size A l)) :
    Calls Try.prog 8 #[.slice A N c] w (MadeB true w) := by
  have en : (if (600 : Int) < (N : Int) then (600 : Int) else (N : Int)) = ((cut N 600 : Nat) : Int) := cut_int
  have l1 := (cut_le (n := N) (m := 600)).1
  have l0 := (cut_le (n := N) (m := 600)).2
  rw [hn.out] at en l1 l0
  have l2 : (l.length : Int) ≤ (c : Int) := by omega
  have l3 : (0 : Int) ≤ (l.length : Int) := by omega
  have HL : Hid (l.length ≤ 600) := l0
  have HC : Hid (l.length ≤ c) := by show _ ≤ _; omega
  clear l1 l0
  go_enter Try.func8, Try.ntmps8
  go_upto_region 2 with fail
  clear en l2 l3
  go_wp2_with fail
  refine (all_any A c l _ (by have := HL.out; omega) HC.out hc hr).mono ?_
  rintro e w1 ⟨A1, c1, rfl, y1, b1⟩
  generalize hR : allF l.length l = R at y1 ⊢
  have HR := Lib.hid hR
  clear hR
  obtain ⟨ms, ok⟩ := R
  have hms : Hid (ms.length ≤ 600) := by
    have h := allF_le l.length l
    rw [HR.out] at h
    have := HL.out
    show _ ≤ _
    exact Nat.le_trans h this
  cases ok
  all_goals
    go_wp2_with fail
    refine (rall_any A c l _ (by have := HL.out; omega) HC.out hc (Rd.below' hr.out b1 b1.size)).mono ?_
    rintro e w2 ⟨A2, c2, rfl, y2, b2⟩
    rw [HR.out] at y2 ⊢
    have Y1 : Hid (Rd w2 w2.heap.size A1 (mrow ms)) := Rd.below' y1 b2 b2.size
    have Y2 : Hid (Rd w2 w2.heap.size A2 (mrow ms)) := y2
    have B2 : Hid (Below w.heap.size w w2) := below_step b1 b2
    clear y1 b1 y2 b2
    go_wp2_with fail
    refine (told6_any _).mono ?_
    rintro e w3 ⟨rfl, hb3⟩
    have Z1 : Hid (Rd w3 w3.heap.size A1 (mrow ms)) := Rd.below' Y1.out hb3 hb3.size
    have Z2 : Hid (Rd w3 w3.heap.size A2 (mrow ms)) := Rd.below' Y2.out hb3 hb3.size
    have B3 : Hid (Below w.heap.size w w3) := below_step B2.out hb3
    clear Y1 Y2 B2 hb3
    go_wp2_with fail
    go_loopg [7] ms.length (fun g s7 w' => ∃ j : Nat, j + g = ms.length ∧ s7 = .int .i64 j ∧ Below w3.heap.size w3 w')
    case atStart => exact ⟨0, by omega, rfl, Below.refl _ _⟩
    case round =>
      obtain ⟨j, hj, rfl, hbl⟩ := hrel
      have HBL := Lib.hid hbl
      have HJ := Lib.hid hj
      clear hbl hj
      by_cases h0 : j < ms.length
      · obtain ⟨g, rfl⟩ : ∃ g, gk = g + 1 := ⟨gk - 1, by have := HJ.out; omega⟩
        have t0 : decide ((j : Int) < (ms.length : Int)) = true := by simp; omega
        obtain ⟨pa, oa, hA1, hp, hcc1⟩ := Ms.at (i := j) (Rd.below' Z1.out HBL.out HBL.out.size) h0
        obtain ⟨pb, ob, hA2, hp2, hcc2⟩ := Ms.at (i := j) (Rd.below' Z2.out HBL.out HBL.out.size) h0
        have k1 := hcc1 j h0
        have k2 := hcc2 j h0
        clear hcc1 hcc2
        generalize gM ms j = m at k1 k2
        obtain ⟨k, a, s, x, p, q, n, t, i, y, z, v⟩ := m
        subst hA1
        subst hA2
        have s0 : wr.cell? ⟨pa, oa + j * 12, none⟩ = some (.int .i64 k) ∧ wr.cell? ⟨pa, oa + j * 12 + 1, none⟩ = some (.int .i64 a) ∧ wr.cell? ⟨pa, oa + j * 12 + 2, none⟩ = some (.int .i64 s) ∧ wr.cell? ⟨pa, oa + j * 12 + 3, none⟩ = some (.bool x) ∧ wr.cell? ⟨pa, oa + j * 12 + 4, none⟩ = some (.int .i64 p) ∧ wr.cell? ⟨pa, oa + j * 12 + 5, none⟩ = some (.int .i64 q) ∧ wr.cell? ⟨pa, oa + j * 12 + 6, none⟩ = some (.int .i64 n) ∧ wr.cell? ⟨pa, oa + j * 12 + 7, none⟩ = some (.int .i64 t) ∧ wr.cell? ⟨pa, oa + j * 12 + 8, none⟩ = some (.int .i64 i) ∧ wr.cell? ⟨pa, oa + j * 12 + 9, none⟩ = some (.int .i64 y) ∧ wr.cell? ⟨pa, oa + j * 12 + 10, none⟩ = some (.int .i64 z) ∧ wr.cell? ⟨pa, oa + j * 12 + 11, none⟩ = some (.int .i64 v) ∧ wr.cell? ⟨pb, ob + j * 12, none⟩ = some (.int .i64 k) ∧ wr.cell? ⟨pb, ob + j * 12 + 1, none⟩ = some (.int .i64 a) ∧ wr.cell? ⟨pb, ob + j * 12 + 2, none⟩ = some (.int .i64 s) ∧ wr.cell? ⟨pb, ob + j * 12 + 3, none⟩ = some (.bool x) ∧ wr.cell? ⟨pb, ob + j * 12 + 4, none⟩ = some (.int .i64 p) ∧ wr.cell? ⟨pb, ob + j * 12 + 5, none⟩ = some (.int .i64 q) ∧ wr.cell? ⟨pb, ob + j * 12 + 6, none⟩ = some (.int .i64 n) ∧ wr.cell? ⟨pb, ob + j * 12 + 7, none⟩ = some (.int .i64 t) ∧ wr.cell? ⟨pb, ob + j * 12 + 8, none⟩ = some (.int .i64 i) ∧ wr.cell? ⟨pb, ob + j * 12 + 9, none⟩ = some (.int .i64 y) ∧ wr.cell? ⟨pb, ob + j * 12 + 10, none⟩ = some (.int .i64 z) ∧ wr.cell? ⟨pb, ob + j * 12 + 11, none⟩ = some (.int .i64 v) := ⟨k1.1, k1.2.1, k1.2.2.1, k1.2.2.2.1, k1.2.2.2.2.1, k1.2.2.2.2.2.1, k1.2.2.2.2.2.2.1, k1.2.2.2.2.2.2.2.1, k1.2.2.2.2.2.2.2.2.1, k1.2.2.2.2.2.2.2.2.2.1, k1.2.2.2.2.2.2.2.2.2.2.1, k1.2.2.2.2.2.2.2.2.2.2.2, k2⟩
        have eM : eqM ⟨k, a, s, x, p, q, n, t, i, y, z, v⟩ ⟨k, a, s, x, p, q, n, t, i, y, z, v⟩ = true := eqM_self _
        clear k1 k2
        go_upto_region 9 with fail
        go_region_held3 (fun w' => w'.cell? ⟨pa, oa + j * 12, none⟩ = some (.int .i64 k) ∧ w'.cell? ⟨pa, oa + j * 12 + 1, none⟩ = some (.int .i64 a) ∧ w'.cell? ⟨pa, oa + j * 12 + 2, none⟩ = some (.int .i64 s) ∧ w'.cell? ⟨pa, oa + j * 12 + 3, none⟩ = some (.bool x) ∧ w'.cell? ⟨pa, oa + j * 12 + 4, none⟩ = some (.int .i64 p) ∧ w'.cell? ⟨pa, oa + j * 12 + 5, none⟩ = some (.int .i64 q) ∧ w'.cell? ⟨pa, oa + j * 12 + 6, none⟩ = some (.int .i64 n) ∧ w'.cell? ⟨pa, oa + j * 12 + 7, none⟩ = some (.int .i64 t) ∧ w'.cell? ⟨pa, oa + j * 12 + 8, none⟩ = some (.int .i64 i) ∧ w'.cell? ⟨pa, oa + j * 12 + 9, none⟩ = some (.int .i64 y) ∧ w'.cell? ⟨pa, oa + j * 12 + 10, none⟩ = some (.int .i64 z) ∧ w'.cell? ⟨pa, oa + j * 12 + 11, none⟩ = some (.int .i64 v) ∧ w'.cell? ⟨pb, ob + j * 12, none⟩ = some (.int .i64 k) ∧ w'.cell? ⟨pb, ob + j * 12 + 1, none⟩ = some (.int .i64 a) ∧ w'.cell? ⟨pb, ob + j * 12 + 2, none⟩ = some (.int .i64 s) ∧ w'.cell? ⟨pb, ob + j * 12 + 3, none⟩ = some (.bool x) ∧ w'.cell? ⟨pb, ob + j * 12 + 4, none⟩ = some (.int .i64 p) ∧ w'.cell? ⟨pb, ob + j * 12 + 5, none⟩ = some (.int .i64 q) ∧ w'.cell? ⟨pb, ob + j * 12 + 6, none⟩ = some (.int .i64 n) ∧ w'.cell? ⟨pb, ob + j * 12 + 7, none⟩ = some (.int .i64 t) ∧ w'.cell? ⟨pb, ob + j * 12 + 8, none⟩ = some (.int .i64 i) ∧ w'.cell? ⟨pb, ob + j * 12 + 9, none⟩ = some (.int .i64 y) ∧ w'.cell? ⟨pb, ob + j * 12 + 10, none⟩ = some (.int .i64 z) ∧ w'.cell? ⟨pb, ob + j * 12 + 11, none⟩ = some (.int .i64 v))
          (first | go_keep | (with_reducible assumption) | (exact q5))
          (first | (go_at_call 34; refine (from_any ⟨k, a, s, x, p, q, n, t, i, y, z, v⟩ _).mono ?_; rintro e w5 ⟨rfl, hb5⟩; rw [show mvl ⟨k, a, s, x, p, q, n, t, i, y, z, v⟩ = .agg #[.int .i64 k, .int .i64 a, .int .i64 s, .bool x, .int .i64 p, .int .i64 q, .int .i64 n, .int .i64 t, .int .i64 i, .int .i64 y, .int .i64 z, .int .i64 v] from rfl]; have B5 : Hid (Below w3.heap.size w3 w5) := Below.trans HBL.out.drew (hb5.mono HBL.out.size); have q5 : w5.cell? ⟨pa, oa + j * 12, none⟩ = some (.int .i64 k) ∧ w5.cell? ⟨pa, oa + j * 12 + 1, none⟩ = some (.int .i64 a) ∧ w5.cell? ⟨pa, oa + j * 12 + 2, none⟩ = some (.int .i64 s) ∧ w5.cell? ⟨pa, oa + j * 12 + 3, none⟩ = some (.bool x) ∧ w5.cell? ⟨pa, oa + j * 12 + 4, none⟩ = some (.int .i64 p) ∧ w5.cell? ⟨pa, oa + j * 12 + 5, none⟩ = some (.int .i64 q) ∧ w5.cell? ⟨pa, oa + j * 12 + 6, none⟩ = some (.int .i64 n) ∧ w5.cell? ⟨pa, oa + j * 12 + 7, none⟩ = some (.int .i64 t) ∧ w5.cell? ⟨pa, oa + j * 12 + 8, none⟩ = some (.int .i64 i) ∧ w5.cell? ⟨pa, oa + j * 12 + 9, none⟩ = some (.int .i64 y) ∧ w5.cell? ⟨pa, oa + j * 12 + 10, none⟩ = some (.int .i64 z) ∧ w5.cell? ⟨pa, oa + j * 12 + 11, none⟩ = some (.int .i64 v) ∧ w5.cell? ⟨pb, ob + j * 12, none⟩ = some (.int .i64 k) ∧ w5.cell? ⟨pb, ob + j * 12 + 1, none⟩ = some (.int .i64 a) ∧ w5.cell? ⟨pb, ob + j * 12 + 2, none⟩ = some (.int .i64 s) ∧ w5.cell? ⟨pb, ob + j * 12 + 3, none⟩ = some (.bool x) ∧ w5.cell? ⟨pb, ob + j * 12 + 4, none⟩ = some (.int .i64 p) ∧ w5.cell? ⟨pb, ob + j * 12 + 5, none⟩ = some (.int .i64 q) ∧ w5.cell? ⟨pb, ob + j * 12 + 6, none⟩ = some (.int .i64 n) ∧ w5.cell? ⟨pb, ob + j * 12 + 7, none⟩ = some (.int .i64 t) ∧ w5.cell? ⟨pb, ob + j * 12 + 8, none⟩ = some (.int .i64 i) ∧ w5.cell? ⟨pb, ob + j * 12 + 9, none⟩ = some (.int .i64 y) ∧ w5.cell? ⟨pb, ob + j * 12 + 10, none⟩ = some (.int .i64 z) ∧ w5.cell? ⟨pb, ob + j * 12 + 11, none⟩ = some (.int .i64 v) := s24 (w := wr.drew) hb5 s0))
        go_wp2_with fail
        go_roundg g
        case measure => omega
        case rel =>
          have hms' := hms.out
          have ew : wrap64 ((j : Int) + 1) = ((j + 1 : Nat) : Int) := by have := HJ.out; unfold wrap64; omega
          exact ⟨j + 1, by have := HJ.out; omega, by rw [ew], B5.out⟩
      · have hjs : j = ms.length := by have := HJ.out; omega
        have t0 : decide ((j : Int) < (ms.length : Int)) = false := by simp; omega
        have B6 : Below w.heap.size w wr := below_step B3.out HBL.out
        go_wp2_with fail
        go_ret
        exact madeB_mk rfl B6

set_option maxRecDepth 100000 in
theorem lifted (os : Os) (started : os.Started) (H : Type) (enc : TypeId × Value → H) :
    ReturnsInHanded {} Try.checked os 8 .any (Rows.wireAllsSpec.pre6 enc Try.prog Try.f8 Rows.wireAllsRow.domain false) (Rows.wireAllsSpec.post enc Try.prog Try.f8 false true false false) := by
  refine returnsInHanded_of_change (C := Try.checked) own started (by kernel_rfl) Try.func8
    (ChangeSpec.witness6 (enc := enc) (C := Try.checked) false ⟨#[], #[.slice none 0 0], []⟩ 8 (by kernel_rfl) (by kernel_rfl) (by kernel_rfl) (by kernel_rfl)) ?_
  intro W base args ds gs before hval0 hW hcnd _
  have hval : ∀ (j : Nat) t v, Try.f8.params[j]? = some t → args[j]? = some v → Value.okWide Try.prog W .any base t v := hval0
  have hW' := hW
  obtain ⟨p, q, hA0, hV, rfl, hfz, hnd⟩ := hW
  have hA : DataW.TrodAll enc Try.prog W 0 (fun _ => true) true Try.f8.params.toList args.toList ds p := hA0
  rw [Try.params8] at hA hval
  obtain ⟨v0, d0, rfl, rfl, h0⟩ := trodAll_one hA
  obtain ⟨A0, n0, c0, rfl⟩ := okWide_slice Try.underlying64 (hval 0 _ v0 rfl rfl)
  obtain ⟨fu, h0'⟩ := h0
  obtain ⟨A, c, l, hv, hlc, hcm, hl⟩ := open_bytes (v := .slice A0 n0 c0) Try.underlying64 Try.underlying5 (by kernel_rfl) h0'
  cases hv
  refine (inner2 A0 _ c0 (l.take 600) W (cut_len _ _) hlc (by unfold maxLen at hcm; omega) (by_cut hl _)).mono fun e W' ⟨he, hb⟩ => ?_
  subst he
  exact ⟨_, rfl, law_post hW' rfl rfl rfl rfl (by kernel_rfl) Try.underlying4 (by rw [Try.params8]; simp only [List.mem_cons, List.not_mem_nil, or_false, forall_eq]; exact ⟨by kernel_rfl, of_decide_eq_true (by kernel_rfl)⟩) laidOut hb⟩

theorem over : Rows.wireAllsRow.holds Try.pinned (OpenSpec.ofChange Rows.wireAllsSpec) :=
  OpenClaim.holds_of_wide 8 Try.f8 rfl rfl rfl rfl rfl rfl rfl ⟨rfl, rfl, rfl, rfl, rfl⟩ rfl rfl rfl rfl rfl (by kernel_rfl) Try.func8 (by kernel_rfl)
    (of_decide_eq_true (by kernel_rfl)) (by unfold Func.isWrapper; first | (rw [if_pos (by decide +kernel)]; kernel_rfl) | (rw [if_neg (by decide +kernel)]; exact ⟨rfl, rfl⟩))
    (fun os started H enc _ => lifted os started H enc)

theorem proved : Rows.WireAllsSaid := over
#print axioms proved
end Go.Proofs.Ytecjecgkioklaaa.wireAlls
