/- For every message the law WireEncodes returns true, and changes nothing: its bytes are told as the reference says, or that there are none; they are taken again, and nothing is left. No condition. -/
import Derived.Test.YtebnjhfmlihjcaaWde
import Derived.Test.YtebnjhfmlihjcaaWtx
import Derived.Test.YtebnjhfmlihjcaaWto
import Derived.Test.YtebnjhfmlihjcaaWre
import Derived.Test.YtebnjhfmlihjcaaWec
import Derived.Test.YtebnjhfmlihjcaaOpc
import Derived.Test.YtebnjhfmlihjcaaWpl
import Derived.Test.YtebnjhfmlihjcaaWmr
namespace Go.Proofs.Ytebnjhfmlihjcaa.Wom
set_option maxRecDepth 100000
open Go.ChangeShapes Go.WideShapes Go.RowKit Mem Opn Opc Wpl Wmr Go.Joins Go.Deep
set_option linter.unusedSimpArgs false
theorem open_msg {H : Type} {enc : TypeId × Value → H} {w : World} {r : Reach} {b0 base : Nat} {spare : Nat → Bool} {held : Bool} {v : Value} {d : DataW H} {p : List MemPlace}
    (hv : Value.okWide Try.prog w r b0 25 v) (h : DataW.Trod enc Try.prog w base spare held 25 v d p) : ∃ m : M, v = mvl m ∧ WfM m := by
  have cM : Try.prog.cellsOf 25 = 12 := by kernel_rfl
  have cO : Try.prog.cellsOf 23 = 7 := by kernel_rfl
  have ci : Try.prog.cellsOf 3 = 1 := by kernel_rfl
  have cl : Try.prog.cellsOf 2 = 1 := by kernel_rfl
  have cb : Try.prog.cellsOf 4 = 1 := by kernel_rfl
  obtain ⟨cs, rfl, hsz⟩ := okWide_struct Try.underlying25 hv
  obtain ⟨l⟩ := cs
  match l, hsz.trans cM with
  | [e0, e1, e2, e3, e4, e5, e6, e7, e8, e9, e10, e11], _ =>
    obtain ⟨fuel, hf⟩ := h
    obtain ⟨xs, n, _, _, _, hlen, hg⟩ := DataW.trod_struct Try.underlying25 hf
    match xs, hlen with
    | [y0, y1, y2, y3, y4, y5], _ =>
      have g0 := hg 0 _ rfl
      have g1 := hg 1 _ rfl
      have g2 := hg 2 _ rfl
      have g3 := hg 3 _ rfl
      have g4 := hg 4 _ rfl
      have g5 := hg 5 _ rfl
      simp [Value.cells, ci, cO, cl] at g0 g1 g2 g3 g4 g5
      obtain ⟨xs1, n1, _, _, _, hlen1, hg1⟩ := DataW.trod_struct Try.underlying23 g1
      match xs1, hlen1 with
      | [u0, u1, u2, u3, u4, u5, u6], _ =>
        have q0 := hg1 0 _ rfl
        have q1 := hg1 1 _ rfl
        have q2 := hg1 2 _ rfl
        have q3 := hg1 3 _ rfl
        have q4 := hg1 4 _ rfl
        have q5 := hg1 5 _ rfl
        have q6 := hg1 6 _ rfl
        simp [ci, cl, cb] at q0 q1 q2 q3 q4 q5 q6
        obtain ⟨k, rfl, w0⟩ := one_int Try.underlying3 g0
        obtain ⟨a, rfl, w1⟩ := one_int Try.underlying3 q0
        obtain ⟨s, rfl, w2⟩ := one_int Try.underlying3 q1
        obtain ⟨x, rfl⟩ := one_bool Try.underlying4 q2
        obtain ⟨p, rfl, w3⟩ := one_int Try.underlying2 q3
        obtain ⟨q, rfl, w4⟩ := one_int Try.underlying2 q4
        obtain ⟨m, rfl, w5⟩ := one_int Try.underlying2 q5
        obtain ⟨t, rfl, w6⟩ := one_int Try.underlying2 q6
        obtain ⟨i, rfl, w7⟩ := one_int Try.underlying3 g2
        obtain ⟨y, rfl, w8⟩ := one_int Try.underlying2 g3
        obtain ⟨z, rfl, w9⟩ := one_int Try.underlying3 g4
        obtain ⟨o, rfl, w10⟩ := one_int Try.underlying2 g5
        exact ⟨⟨k, a, s, x, p, q, m, t, i, y, z, o⟩, rfl, w0, w1, w2, w3, w4, w5, w6, w7, w8, w9, w10⟩
end Go.Proofs.Ytebnjhfmlihjcaa.Wom
namespace Go.Proofs.Ytebnjhfmlihjcaa.wireEncodes
set_option maxRecDepth 100000
open Go.ChangeShapes Go.WideShapes Go.ChangeAt Go.RowKit Mem Tre Ref3 Law3 Fix3 CrdB CrdC Rr4 Fr4 Wpl Wmr Wrt Wen Wnu Wtk Wdp Wde Wec Wt6 Wtx Wto Wrs Wre Rul6 Opn Wom Go.Joins Go.Deep
set_option linter.unusedVariables false
set_option linter.unusedSimpArgs false

theorem own : ownKnob Try.prog.godebug = none := by kernel_rfl
theorem laidOut : laidOutB Try.prog = true := by kernel_rfl

theorem s13 {W : World} {gX : Nat} {te : TypeId} {v0 v1 v2 v3 v4 v5 v6 v7 v8 v9 v10 v11 : Value} {AB : Option Addr} {cB : Nat} {LB : List UInt8} (hM : Blk W gX te #[v0, v1, v2, v3, v4, v5, v6, v7, v8, v9, v10, v11]) (hB : By W W.heap.size AB LB) :
    W.cell? ⟨gX, 0, none⟩ = some v0 ∧ W.cell? ⟨gX, 1, none⟩ = some v1 ∧ W.cell? ⟨gX, 2, none⟩ = some v2 ∧ W.cell? ⟨gX, 3, none⟩ = some v3 ∧ W.cell? ⟨gX, 4, none⟩ = some v4 ∧ W.cell? ⟨gX, 5, none⟩ = some v5 ∧ W.cell? ⟨gX, 6, none⟩ = some v6 ∧ W.cell? ⟨gX, 7, none⟩ = some v7 ∧ W.cell? ⟨gX, 8, none⟩ = some v8 ∧ W.cell? ⟨gX, 9, none⟩ = some v9 ∧ W.cell? ⟨gX, 10, none⟩ = some v10 ∧ W.cell? ⟨gX, 11, none⟩ = some v11 ∧ (convert 26 9 (.slice AB LB.length cB)).run Try.prog W = .ok (.string ⟨LB.toArray⟩) W := ⟨hM.cell 0, hM.cell 1, hM.cell 2, hM.cell 3, hM.cell 4, hM.cell 5, hM.cell 6, hM.cell 7, hM.cell 8, hM.cell 9, hM.cell 10, hM.cell 11, text_any hB⟩
theorem s24b {W : World} {gX gD : Nat} {te tf : TypeId} {v0 v1 v2 v3 v4 v5 v6 v7 v8 v9 v10 v11 r0 r1 r2 r3 r4 r5 r6 r7 r8 r9 r10 r11 : Value} (hM : Blk W gX te #[v0, v1, v2, v3, v4, v5, v6, v7, v8, v9, v10, v11]) (hD : Blk W gD tf #[r0, r1, r2, r3, r4, r5, r6, r7, r8, r9, r10, r11]) :
    W.cell? ⟨gX, 0, none⟩ = some v0 ∧ W.cell? ⟨gX, 1, none⟩ = some v1 ∧ W.cell? ⟨gX, 2, none⟩ = some v2 ∧ W.cell? ⟨gX, 3, none⟩ = some v3 ∧ W.cell? ⟨gX, 4, none⟩ = some v4 ∧ W.cell? ⟨gX, 5, none⟩ = some v5 ∧ W.cell? ⟨gX, 6, none⟩ = some v6 ∧ W.cell? ⟨gX, 7, none⟩ = some v7 ∧ W.cell? ⟨gX, 8, none⟩ = some v8 ∧ W.cell? ⟨gX, 9, none⟩ = some v9 ∧ W.cell? ⟨gX, 10, none⟩ = some v10 ∧ W.cell? ⟨gX, 11, none⟩ = some v11 ∧ W.cell? ⟨gD, 0, none⟩ = some r0 ∧ W.cell? ⟨gD, 1, none⟩ = some r1 ∧ W.cell? ⟨gD, 2, none⟩ = some r2 ∧ W.cell? ⟨gD, 3, none⟩ = some r3 ∧ W.cell? ⟨gD, 4, none⟩ = some r4 ∧ W.cell? ⟨gD, 5, none⟩ = some r5 ∧ W.cell? ⟨gD, 6, none⟩ = some r6 ∧ W.cell? ⟨gD, 7, none⟩ = some r7 ∧ W.cell? ⟨gD, 8, none⟩ = some r8 ∧ W.cell? ⟨gD, 9, none⟩ = some r9 ∧ W.cell? ⟨gD, 10, none⟩ = some r10 ∧ W.cell? ⟨gD, 11, none⟩ = some r11 := ⟨hM.cell 0, hM.cell 1, hM.cell 2, hM.cell 3, hM.cell 4, hM.cell 5, hM.cell 6, hM.cell 7, hM.cell 8, hM.cell 9, hM.cell 10, hM.cell 11, hD.cell 0, hD.cell 1, hD.cell 2, hD.cell 3, hD.cell 4, hD.cell 5, hD.cell 6, hD.cell 7, hD.cell 8, hD.cell 9, hD.cell 10, hD.cell 11⟩
attribute [local go_sem high] eqP12 neP12 eqQ12 neQ12
attribute [local go_sem] undef
set_option maxHeartbeats 16000000 in
theorem inner_t (k a s p q n t i y z v : Int) (x : Bool) (w : World) (hwf : Hid (WfM ⟨k, a, s, x, p, q, n, t, i, y, z, v⟩)) (hR : Hid (rightM ⟨k, a, s, x, p, q, n, t, i, y, z, v⟩ = true)) :
    Calls Try.prog 3 #[.agg #[.int .i64 k, .int .i64 a, .int .i64 s, .bool x, .int .i64 p, .int .i64 q, .int .i64 n, .int .i64 t, .int .i64 i, .int .i64 y, .int .i64 z, .int .i64 v]] w (MadeB true w) := by
  have b0 : Hid (Below w.heap.size w (w.alloc (.cells #[.int .i64 k, .int .i64 a, .int .i64 s, .bool x, .int .i64 p, .int .i64 q, .int .i64 n, .int .i64 t, .int .i64 i, .int .i64 y, .int .i64 z, .int .i64 v] 25))) := (Below.refl _ _).alloc (Nat.le_refl _) _
  have K0 : Hid (Blk (w.alloc (.cells #[.int .i64 k, .int .i64 a, .int .i64 s, .bool x, .int .i64 p, .int .i64 q, .int .i64 n, .int .i64 t, .int .i64 i, .int .i64 y, .int .i64 z, .int .i64 v] 25)) w.heap.size 25 #[.int .i64 k, .int .i64 a, .int .i64 s, .bool x, .int .i64 p, .int .i64 q, .int .i64 n, .int .i64 t, .int .i64 i, .int .i64 y, .int .i64 z, .int .i64 v]) := Blk.fresh _ _ _
  obtain ⟨LB, hLB⟩ : ∃ L, encB ⟨k, a, s, x, p, q, n, t, i, y, z, v⟩ = L := ⟨_, rfl⟩
  have HLB := Lib.hid hLB
  have hE : Hid (encP ⟨k, a, s, x, p, q, n, t, i, y, z, v⟩ = LB) := by show _ = _; rw [← hLB]; unfold encB; rw [if_pos hR.out]
  have hlen : Hid (1 ≤ LB.length ∧ LB.length ≤ 100) := by
    show _ ∧ _
    have h := dec_enc (m := ⟨k, a, s, x, p, q, n, t, i, y, z, v⟩) [] hwf.out hR.out
    rw [List.append_nil, hE.out] at h
    obtain ⟨h1, h2, h3⟩ := h
    refine ⟨h1.1, ?_⟩
    rw [← h3]
    unfold lenK
    split <;> (try split) <;> (try split) <;> (try split) <;> omega
  have hdec : Hid (okD LB ∧ msgD LB = ⟨k, a, s, x, p, q, n, t, i, y, z, v⟩ ∧ lenK (fld LB 0 1) = LB.length) := by
    show _ ∧ _
    have h := dec_enc (m := ⟨k, a, s, x, p, q, n, t, i, y, z, v⟩) [] hwf.out hR.out
    rw [List.append_nil, hE.out] at h
    exact h
  clear hLB
  go_enter Try.func3, Try.ntmps3
  go_upto_region 1 with fail
  generalize w.alloc (.cells #[.int .i64 k, .int .i64 a, .int .i64 s, .bool x, .int .i64 p, .int .i64 q, .int .i64 n, .int .i64 t, .int .i64 i, .int .i64 y, .int .i64 z, .int .i64 v] 25) = wA at b0 K0 ⊢
  obtain ⟨gX, hgX⟩ : ∃ g, g = w.heap.size := ⟨_, rfl⟩
  have K1 : Hid (Blk wA gX 25 #[.int .i64 k, .int .i64 a, .int .i64 s, .bool x, .int .i64 p, .int .i64 q, .int .i64 n, .int .i64 t, .int .i64 i, .int .i64 y, .int .i64 z, .int .i64 v]) := by rw [hgX]; exact K0.out
  simp only [← hgX]
  have HG := Lib.hid hgX
  clear hgX K0
  obtain ⟨j0, j1, j2, j3, j4, j5, j6, j7, j8, j9, j10, j11⟩ := c12_of K1.out
  go_wp2_with fail
  refine (to_any ⟨k, a, s, x, p, q, n, t, i, y, z, v⟩ _).mono ?_
  rintro e w1 ⟨rfl, hb1⟩
  rw [show mvl ⟨k, a, s, x, p, q, n, t, i, y, z, v⟩ = .agg #[.int .i64 k, .int .i64 a, .int .i64 s, .bool x, .int .i64 p, .int .i64 q, .int .i64 n, .int .i64 t, .int .i64 i, .int .i64 y, .int .i64 z, .int .i64 v] from rfl]
  go_wp2_with fail
  refine (encode_any ⟨k, a, s, x, p, q, n, t, i, y, z, v⟩ _ hwf.out).mono ?_
  rw [HLB.out]
  rintro e w2 ⟨AB, cB, rfl, ro, hb2, _⟩
  have hcap := Lib.hid (own_caps ro.out)
  have b2 : Hid (Below wA.heap.size wA w2) := below_step hb1 hb2
  have Y2 : Hid (By w2 w2.heap.size AB LB) := Rd.of_own ro.out
  have K2 : Hid (Blk w2 gX 25 #[.int .i64 k, .int .i64 a, .int .i64 s, .bool x, .int .i64 p, .int .i64 q, .int .i64 n, .int .i64 t, .int .i64 i, .int .i64 y, .int .i64 z, .int .i64 v]) := Blk.below' K1.out b2.out
  have B2 : Hid (Below w.heap.size w w2) := below_step b0.out b2.out
  clear hb1 hb2 ro b0 b2 K1 j0 j1 j2 j3 j4 j5 j6 j7 j8 j9 j10 j11
  go_wp2_with fail
  refine (decode_any AB cB LB w2 (by have := hlen.out.2; omega) hcap.out.1 hcap.out.2 Y2).mono ?_
  rintro e w3 (⟨_, A2, c2, rfl, _, b3⟩ | ⟨hno, _⟩)
  case inr => exact absurd hdec.out.1 hno
  have hz : Hid ((LB.drop (lenK (fld LB 0 1))).length = 0) := by show _ = _; rw [hdec.out.2.2]; simp
  rw [hdec.out.2.1, hz.out, show mvl ⟨k, a, s, x, p, q, n, t, i, y, z, v⟩ = .agg #[.int .i64 k, .int .i64 a, .int .i64 s, .bool x, .int .i64 p, .int .i64 q, .int .i64 n, .int .i64 t, .int .i64 i, .int .i64 y, .int .i64 z, .int .i64 v] from rfl]
  have U4 : Hid (Below w3.heap.size w3 (w3.alloc (.cells #[.int .i64 k, .int .i64 a, .int .i64 s, .bool x, .int .i64 p, .int .i64 q, .int .i64 n, .int .i64 t, .int .i64 i, .int .i64 y, .int .i64 z, .int .i64 v] 30))) := (Below.refl _ _).alloc (Nat.le_refl _) _
  have D4 : Hid (Blk (w3.alloc (.cells #[.int .i64 k, .int .i64 a, .int .i64 s, .bool x, .int .i64 p, .int .i64 q, .int .i64 n, .int .i64 t, .int .i64 i, .int .i64 y, .int .i64 z, .int .i64 v] 30)) w3.heap.size 30 #[.int .i64 k, .int .i64 a, .int .i64 s, .bool x, .int .i64 p, .int .i64 q, .int .i64 n, .int .i64 t, .int .i64 i, .int .i64 y, .int .i64 z, .int .i64 v]) := Blk.fresh _ _ _
  have b4 : Hid (Below w2.heap.size w2 (w3.alloc (.cells #[.int .i64 k, .int .i64 a, .int .i64 s, .bool x, .int .i64 p, .int .i64 q, .int .i64 n, .int .i64 t, .int .i64 i, .int .i64 y, .int .i64 z, .int .i64 v] 30))) := below_step b3 U4.out
  have K4 : Hid (Blk (w3.alloc (.cells #[.int .i64 k, .int .i64 a, .int .i64 s, .bool x, .int .i64 p, .int .i64 q, .int .i64 n, .int .i64 t, .int .i64 i, .int .i64 y, .int .i64 z, .int .i64 v] 30)) gX 25 #[.int .i64 k, .int .i64 a, .int .i64 s, .bool x, .int .i64 p, .int .i64 q, .int .i64 n, .int .i64 t, .int .i64 i, .int .i64 y, .int .i64 z, .int .i64 v]) := Blk.below' K2.out b4.out
  have Y4 : Hid (By (w3.alloc (.cells #[.int .i64 k, .int .i64 a, .int .i64 s, .bool x, .int .i64 p, .int .i64 q, .int .i64 n, .int .i64 t, .int .i64 i, .int .i64 y, .int .i64 z, .int .i64 v] 30)) (w3.alloc (.cells #[.int .i64 k, .int .i64 a, .int .i64 s, .bool x, .int .i64 p, .int .i64 q, .int .i64 n, .int .i64 t, .int .i64 i, .int .i64 y, .int .i64 z, .int .i64 v] 30)).heap.size AB LB) := Rd.below' Y2.out b4.out b4.out.size
  have B4 : Hid (Below w.heap.size w (w3.alloc (.cells #[.int .i64 k, .int .i64 a, .int .i64 s, .bool x, .int .i64 p, .int .i64 q, .int .i64 n, .int .i64 t, .int .i64 i, .int .i64 y, .int .i64 z, .int .i64 v] 30))) := below_step B2.out b4.out
  clear U4 b4 b3 K2 Y2 B2
  go_upto_region 3 with fail
  generalize w3.alloc (.cells #[.int .i64 k, .int .i64 a, .int .i64 s, .bool x, .int .i64 p, .int .i64 q, .int .i64 n, .int .i64 t, .int .i64 i, .int .i64 y, .int .i64 z, .int .i64 v] 30) = w4 at D4 K4 Y4 B4 ⊢
  generalize w3.heap.size = gD at D4 ⊢
  have B5 : Hid (Below w4.heap.size w4 w4.drew) := (Below.refl _ _).drew
  have K5 : Hid (Blk w4.drew gX 25 #[.int .i64 k, .int .i64 a, .int .i64 s, .bool x, .int .i64 p, .int .i64 q, .int .i64 n, .int .i64 t, .int .i64 i, .int .i64 y, .int .i64 z, .int .i64 v]) := Blk.below' K4.out B5.out
  have D5 : Hid (Blk w4.drew gD 30 #[.int .i64 k, .int .i64 a, .int .i64 s, .bool x, .int .i64 p, .int .i64 q, .int .i64 n, .int .i64 t, .int .i64 i, .int .i64 y, .int .i64 z, .int .i64 v]) := Blk.below' D4.out B5.out
  have Y5 : Hid (By w4.drew w4.drew.heap.size AB LB) := Rd.below' Y4.out B5.out B5.out.size
  have W5 : Hid (Below w.heap.size w w4.drew) := below_step B4.out B5.out
  have q5 : w4.drew.cell? ⟨gX, 0, none⟩ = some (.int .i64 k) ∧ w4.drew.cell? ⟨gX, 1, none⟩ = some (.int .i64 a) ∧ w4.drew.cell? ⟨gX, 2, none⟩ = some (.int .i64 s) ∧ w4.drew.cell? ⟨gX, 3, none⟩ = some (.bool x) ∧ w4.drew.cell? ⟨gX, 4, none⟩ = some (.int .i64 p) ∧ w4.drew.cell? ⟨gX, 5, none⟩ = some (.int .i64 q) ∧ w4.drew.cell? ⟨gX, 6, none⟩ = some (.int .i64 n) ∧ w4.drew.cell? ⟨gX, 7, none⟩ = some (.int .i64 t) ∧ w4.drew.cell? ⟨gX, 8, none⟩ = some (.int .i64 i) ∧ w4.drew.cell? ⟨gX, 9, none⟩ = some (.int .i64 y) ∧ w4.drew.cell? ⟨gX, 10, none⟩ = some (.int .i64 z) ∧ w4.drew.cell? ⟨gX, 11, none⟩ = some (.int .i64 v) ∧ (convert 26 9 (.slice AB LB.length cB)).run Try.prog w4.drew = .ok (.string ⟨LB.toArray⟩) w4.drew := s13 K5.out Y5.out
  clear B5 K4 D4 Y4 B4
  have tE : decide ((0 : Int) < (LB.length : Int)) = true := by have := hlen.out.1; simp; omega
  have tZ : ((LB.length : Int) == 0) = false := beq_eq_false_iff_ne.2 (by have := hlen.out.1; omega)
  have tE2 : decide (0 < LB.length) = true := by have := hlen.out.1; simp; omega
  have hRb : rightM ⟨k, a, s, x, p, q, n, t, i, y, z, v⟩ = true := hR.out
  refine wp_region_held_drew (S := (fun w' => w'.cell? ⟨gX, 0, none⟩ = some (.int .i64 k) ∧ w'.cell? ⟨gX, 1, none⟩ = some (.int .i64 a) ∧ w'.cell? ⟨gX, 2, none⟩ = some (.int .i64 s) ∧ w'.cell? ⟨gX, 3, none⟩ = some (.bool x) ∧ w'.cell? ⟨gX, 4, none⟩ = some (.int .i64 p) ∧ w'.cell? ⟨gX, 5, none⟩ = some (.int .i64 q) ∧ w'.cell? ⟨gX, 6, none⟩ = some (.int .i64 n) ∧ w'.cell? ⟨gX, 7, none⟩ = some (.int .i64 t) ∧ w'.cell? ⟨gX, 8, none⟩ = some (.int .i64 i) ∧ w'.cell? ⟨gX, 9, none⟩ = some (.int .i64 y) ∧ w'.cell? ⟨gX, 10, none⟩ = some (.int .i64 z) ∧ w'.cell? ⟨gX, 11, none⟩ = some (.int .i64 v) ∧ (convert 26 9 (.slice AB LB.length cB)).run Try.prog w' = .ok (.string ⟨LB.toArray⟩) w')) (by kernel_rfl) q5 (fun hHeld => ?_)
  refine wpAnyH_ready (rs := [0]) (by kernel_rfl) (by simp) ?_
  refine AllReadyH.cons rfl (fun K' hK => ?_) AllReadyH.nil
  go_simp
  refine (told6_any _).mono ?_
  rintro e w6 ⟨rfl, hb⟩
  have K6 : Hid (Blk w6 gX 25 #[.int .i64 k, .int .i64 a, .int .i64 s, .bool x, .int .i64 p, .int .i64 q, .int .i64 n, .int .i64 t, .int .i64 i, .int .i64 y, .int .i64 z, .int .i64 v]) := Blk.below' K5.out hb
  have D6 : Hid (Blk w6 gD 30 #[.int .i64 k, .int .i64 a, .int .i64 s, .bool x, .int .i64 p, .int .i64 q, .int .i64 n, .int .i64 t, .int .i64 i, .int .i64 y, .int .i64 z, .int .i64 v]) := Blk.below' D5.out hb
  have Y6 : Hid (By w6 w6.heap.size AB LB) := Rd.below' Y5.out hb hb.size
  have W6 : Hid (Below w.heap.size w w6) := below_step W5.out hb
  have q6 : w6.cell? ⟨gX, 0, none⟩ = some (.int .i64 k) ∧ w6.cell? ⟨gX, 1, none⟩ = some (.int .i64 a) ∧ w6.cell? ⟨gX, 2, none⟩ = some (.int .i64 s) ∧ w6.cell? ⟨gX, 3, none⟩ = some (.bool x) ∧ w6.cell? ⟨gX, 4, none⟩ = some (.int .i64 p) ∧ w6.cell? ⟨gX, 5, none⟩ = some (.int .i64 q) ∧ w6.cell? ⟨gX, 6, none⟩ = some (.int .i64 n) ∧ w6.cell? ⟨gX, 7, none⟩ = some (.int .i64 t) ∧ w6.cell? ⟨gX, 8, none⟩ = some (.int .i64 i) ∧ w6.cell? ⟨gX, 9, none⟩ = some (.int .i64 y) ∧ w6.cell? ⟨gX, 10, none⟩ = some (.int .i64 z) ∧ w6.cell? ⟨gX, 11, none⟩ = some (.int .i64 v) ∧ (convert 26 9 (.slice AB LB.length cB)).run Try.prog w6 = .ok (.string ⟨LB.toArray⟩) w6 := s13 K6.out Y6.out
  clear hb K5 D5 Y5 W5 q5
  go_wp2_with fail
  refine hK.out _ _ q6 (fun hHeld => ?_)
  clear hK K'
  (try simp only [Act.put, List.getElem_toArray, List.getElem_cons_succ, List.getElem_cons_zero, List.setIfInBounds_toArray, List.set_cons_zero, List.set_cons_succ])
  refine wpAnyH_take (i := 1) (v := ?_) rfl (by kernel_rfl) (by kernel_rfl) (by kernel_rfl) (fun _ _ _ h => h) (Or.inl ⟨by rfl, ?_⟩) (by assumption) ?_
  rotate_left
  · intro w' hSw
    (try dsimp only at hSw)
    go_simp
    try with_reducible rfl
  (try simp only [Act.put, List.getElem_toArray, List.getElem_cons_succ, List.getElem_cons_zero, List.setIfInBounds_toArray, List.set_cons_zero, List.set_cons_succ])
  refine wpAnyH_take (i := 2) (v := ?_) rfl (by kernel_rfl) (by kernel_rfl) (by kernel_rfl) (fun _ _ _ h => h) (Or.inl ⟨by rfl, ?_⟩) (by assumption) ?_
  rotate_left
  · intro w' hSw
    (try dsimp only at hSw)
    go_simp
    try with_reducible rfl
  (try simp only [Act.put, List.getElem_toArray, List.getElem_cons_succ, List.getElem_cons_zero, List.setIfInBounds_toArray, List.set_cons_zero, List.set_cons_succ])
  refine wpAnyH_take (i := 3) (v := ?_) rfl (by kernel_rfl) (by kernel_rfl) (by kernel_rfl) (fun _ _ _ h => h) (Or.inl ⟨by rfl, ?_⟩) (by assumption) ?_
  rotate_left
  · intro w' hSw
    (try dsimp only at hSw)
    go_simp
    try with_reducible rfl
  (try simp only [Act.put, List.getElem_toArray, List.getElem_cons_succ, List.getElem_cons_zero, List.setIfInBounds_toArray, List.set_cons_zero, List.set_cons_succ])
  refine wpAnyH_take (i := 6) (v := ?_) rfl (by kernel_rfl) (by kernel_rfl) (by kernel_rfl) (fun _ _ _ h => h) (Or.inl ⟨by rfl, ?_⟩) (by assumption) ?_
  rotate_left
  · intro w' hSw
    (try dsimp only at hSw)
    go_simp
    try with_reducible rfl
  (try simp only [Act.put, List.getElem_toArray, List.getElem_cons_succ, List.getElem_cons_zero, List.setIfInBounds_toArray, List.set_cons_zero, List.set_cons_succ])
  refine wpAnyH_ready (rs := [4]) (by kernel_rfl) (by simp) ?_
  refine AllReadyH.cons rfl (fun K' hK => ?_) AllReadyH.nil
  go_simp
  refine (to_any ⟨k, a, s, x, p, q, n, t, i, y, z, v⟩ _).mono ?_
  rintro e w7 ⟨rfl, hb⟩
  have K7 : Hid (Blk w7 gX 25 #[.int .i64 k, .int .i64 a, .int .i64 s, .bool x, .int .i64 p, .int .i64 q, .int .i64 n, .int .i64 t, .int .i64 i, .int .i64 y, .int .i64 z, .int .i64 v]) := Blk.below' K6.out hb
  have D7 : Hid (Blk w7 gD 30 #[.int .i64 k, .int .i64 a, .int .i64 s, .bool x, .int .i64 p, .int .i64 q, .int .i64 n, .int .i64 t, .int .i64 i, .int .i64 y, .int .i64 z, .int .i64 v]) := Blk.below' D6.out hb
  have Y7 : Hid (By w7 w7.heap.size AB LB) := Rd.below' Y6.out hb hb.size
  have W7 : Hid (Below w.heap.size w w7) := below_step W6.out hb
  have q7 : w7.cell? ⟨gX, 0, none⟩ = some (.int .i64 k) ∧ w7.cell? ⟨gX, 1, none⟩ = some (.int .i64 a) ∧ w7.cell? ⟨gX, 2, none⟩ = some (.int .i64 s) ∧ w7.cell? ⟨gX, 3, none⟩ = some (.bool x) ∧ w7.cell? ⟨gX, 4, none⟩ = some (.int .i64 p) ∧ w7.cell? ⟨gX, 5, none⟩ = some (.int .i64 q) ∧ w7.cell? ⟨gX, 6, none⟩ = some (.int .i64 n) ∧ w7.cell? ⟨gX, 7, none⟩ = some (.int .i64 t) ∧ w7.cell? ⟨gX, 8, none⟩ = some (.int .i64 i) ∧ w7.cell? ⟨gX, 9, none⟩ = some (.int .i64 y) ∧ w7.cell? ⟨gX, 10, none⟩ = some (.int .i64 z) ∧ w7.cell? ⟨gX, 11, none⟩ = some (.int .i64 v) ∧ (convert 26 9 (.slice AB LB.length cB)).run Try.prog w7 = .ok (.string ⟨LB.toArray⟩) w7 := s13 K7.out Y7.out
  clear hb K6 D6 Y6 W6 q6
  rw [show mvl ⟨k, a, s, x, p, q, n, t, i, y, z, v⟩ = .agg #[.int .i64 k, .int .i64 a, .int .i64 s, .bool x, .int .i64 p, .int .i64 q, .int .i64 n, .int .i64 t, .int .i64 i, .int .i64 y, .int .i64 z, .int .i64 v] from rfl]
  go_wp2_with fail
  refine hK.out _ _ q7 (fun hHeld => ?_)
  clear hK K'
  (try simp only [Act.put, List.getElem_toArray, List.getElem_cons_succ, List.getElem_cons_zero, List.setIfInBounds_toArray, List.set_cons_zero, List.set_cons_succ])
  refine wpAnyH_ready (rs := [5]) (by kernel_rfl) (by simp) ?_
  refine AllReadyH.cons rfl (fun K' hK => ?_) AllReadyH.nil
  go_simp
  refine (right_any ⟨k, a, s, x, p, q, n, t, i, y, z, v⟩ _).mono ?_
  rintro e w8 ⟨rfl, hb⟩
  have K8 : Hid (Blk w8 gX 25 #[.int .i64 k, .int .i64 a, .int .i64 s, .bool x, .int .i64 p, .int .i64 q, .int .i64 n, .int .i64 t, .int .i64 i, .int .i64 y, .int .i64 z, .int .i64 v]) := Blk.below' K7.out hb
  have D8 : Hid (Blk w8 gD 30 #[.int .i64 k, .int .i64 a, .int .i64 s, .bool x, .int .i64 p, .int .i64 q, .int .i64 n, .int .i64 t, .int .i64 i, .int .i64 y, .int .i64 z, .int .i64 v]) := Blk.below' D7.out hb
  have Y8 : Hid (By w8 w8.heap.size AB LB) := Rd.below' Y7.out hb hb.size
  have W8 : Hid (Below w.heap.size w w8) := below_step W7.out hb
  have q8 : w8.cell? ⟨gX, 0, none⟩ = some (.int .i64 k) ∧ w8.cell? ⟨gX, 1, none⟩ = some (.int .i64 a) ∧ w8.cell? ⟨gX, 2, none⟩ = some (.int .i64 s) ∧ w8.cell? ⟨gX, 3, none⟩ = some (.bool x) ∧ w8.cell? ⟨gX, 4, none⟩ = some (.int .i64 p) ∧ w8.cell? ⟨gX, 5, none⟩ = some (.int .i64 q) ∧ w8.cell? ⟨gX, 6, none⟩ = some (.int .i64 n) ∧ w8.cell? ⟨gX, 7, none⟩ = some (.int .i64 t) ∧ w8.cell? ⟨gX, 8, none⟩ = some (.int .i64 i) ∧ w8.cell? ⟨gX, 9, none⟩ = some (.int .i64 y) ∧ w8.cell? ⟨gX, 10, none⟩ = some (.int .i64 z) ∧ w8.cell? ⟨gX, 11, none⟩ = some (.int .i64 v) ∧ (convert 26 9 (.slice AB LB.length cB)).run Try.prog w8 = .ok (.string ⟨LB.toArray⟩) w8 := s13 K8.out Y8.out
  clear hb K7 D7 Y7 W7 q7
  rw [hR.out]
  go_wp2_with fail
  refine hK.out _ _ q8 (fun hHeld => ?_)
  clear hK K'
  (try simp only [Act.put, List.getElem_toArray, List.getElem_cons_succ, List.getElem_cons_zero, List.setIfInBounds_toArray, List.set_cons_zero, List.set_cons_succ])
  refine wpAnyH_ready (rs := [7]) (by kernel_rfl) (by simp) ?_
  refine AllReadyH.cons rfl (fun K' hK => ?_) AllReadyH.nil
  go_simp
  refine (rright_any ⟨k, a, s, x, p, q, n, t, i, y, z, v⟩ _).mono ?_
  rintro e w9 ⟨rfl, hb⟩
  have K9 : Hid (Blk w9 gX 25 #[.int .i64 k, .int .i64 a, .int .i64 s, .bool x, .int .i64 p, .int .i64 q, .int .i64 n, .int .i64 t, .int .i64 i, .int .i64 y, .int .i64 z, .int .i64 v]) := Blk.below' K8.out hb
  have D9 : Hid (Blk w9 gD 30 #[.int .i64 k, .int .i64 a, .int .i64 s, .bool x, .int .i64 p, .int .i64 q, .int .i64 n, .int .i64 t, .int .i64 i, .int .i64 y, .int .i64 z, .int .i64 v]) := Blk.below' D8.out hb
  have Y9 : Hid (By w9 w9.heap.size AB LB) := Rd.below' Y8.out hb hb.size
  have W9 : Hid (Below w.heap.size w w9) := below_step W8.out hb
  have q9 : w9.cell? ⟨gX, 0, none⟩ = some (.int .i64 k) ∧ w9.cell? ⟨gX, 1, none⟩ = some (.int .i64 a) ∧ w9.cell? ⟨gX, 2, none⟩ = some (.int .i64 s) ∧ w9.cell? ⟨gX, 3, none⟩ = some (.bool x) ∧ w9.cell? ⟨gX, 4, none⟩ = some (.int .i64 p) ∧ w9.cell? ⟨gX, 5, none⟩ = some (.int .i64 q) ∧ w9.cell? ⟨gX, 6, none⟩ = some (.int .i64 n) ∧ w9.cell? ⟨gX, 7, none⟩ = some (.int .i64 t) ∧ w9.cell? ⟨gX, 8, none⟩ = some (.int .i64 i) ∧ w9.cell? ⟨gX, 9, none⟩ = some (.int .i64 y) ∧ w9.cell? ⟨gX, 10, none⟩ = some (.int .i64 z) ∧ w9.cell? ⟨gX, 11, none⟩ = some (.int .i64 v) ∧ (convert 26 9 (.slice AB LB.length cB)).run Try.prog w9 = .ok (.string ⟨LB.toArray⟩) w9 := s13 K9.out Y9.out
  clear hb K8 D8 Y8 W8 q8
  rw [hR.out]
  go_wp2_with fail
  refine hK.out _ _ q9 (fun hHeld => ?_)
  clear hK K'
  (try simp only [Act.put, List.getElem_toArray, List.getElem_cons_succ, List.getElem_cons_zero, List.setIfInBounds_toArray, List.set_cons_zero, List.set_cons_succ])
  refine wpAnyH_take (i := 8) (v := ?_) rfl (by kernel_rfl) (by kernel_rfl) (by kernel_rfl) (fun _ _ _ h => h) (Or.inl ⟨by rfl, ?_⟩) (by assumption) ?_
  rotate_left
  · intro w' hSw
    (try dsimp only at hSw)
    go_simp
    try with_reducible rfl
  (try simp only [Act.put, List.getElem_toArray, List.getElem_cons_succ, List.getElem_cons_zero, List.setIfInBounds_toArray, List.set_cons_zero, List.set_cons_succ])
  refine wpAnyH_take (i := 9) (v := ?_) rfl (by kernel_rfl) (by kernel_rfl) (by kernel_rfl) (fun _ _ _ h => h) (Or.inl ⟨by rfl, ?_⟩) (by assumption) ?_
  rotate_left
  · intro w' hSw
    (try dsimp only at hSw)
    go_simp
    try with_reducible rfl
  (try simp only [Act.put, List.getElem_toArray, List.getElem_cons_succ, List.getElem_cons_zero, List.setIfInBounds_toArray, List.set_cons_zero, List.set_cons_succ])
  refine wpAnyH_take (i := 10) (v := ?_) rfl (by kernel_rfl) (by kernel_rfl) (by kernel_rfl) (fun _ _ _ h => h) (Or.inl ⟨by rfl, ?_⟩) (by assumption) ?_
  rotate_left
  · intro w' hSw
    (try dsimp only at hSw)
    go_simp
    try with_reducible rfl
  (try simp only [Act.put, List.getElem_toArray, List.getElem_cons_succ, List.getElem_cons_zero, List.setIfInBounds_toArray, List.set_cons_zero, List.set_cons_succ])
  refine wpAnyH_take (i := 11) (v := ?_) rfl (by kernel_rfl) (by kernel_rfl) (by kernel_rfl) (fun _ _ _ h => h) (Or.inl ⟨by rfl, ?_⟩) (by assumption) ?_
  rotate_left
  · intro w' hSw
    (try dsimp only at hSw)
    go_simp
    try with_reducible rfl
  (try simp only [Act.put, List.getElem_toArray, List.getElem_cons_succ, List.getElem_cons_zero, List.setIfInBounds_toArray, List.set_cons_zero, List.set_cons_succ])
  refine wpAnyH_take (i := 12) (v := ?_) rfl (by kernel_rfl) (by kernel_rfl) (by kernel_rfl) (fun _ _ _ h => h) (Or.inl ⟨by rfl, ?_⟩) (by assumption) ?_
  rotate_left
  · intro w' hSw
    (try dsimp only at hSw)
    go_simp
    try with_reducible rfl
  (try simp only [Act.put, List.getElem_toArray, List.getElem_cons_succ, List.getElem_cons_zero, List.setIfInBounds_toArray, List.set_cons_zero, List.set_cons_succ])
  refine wpAnyH_take (i := 13) (v := ?_) rfl (by kernel_rfl) (by kernel_rfl) (by kernel_rfl) (fun _ _ _ h => h) (Or.inl ⟨by rfl, ?_⟩) (by assumption) ?_
  rotate_left
  · intro w' hSw
    (try dsimp only at hSw)
    go_simp
    try with_reducible rfl
  (try simp only [Act.put, List.getElem_toArray, List.getElem_cons_succ, List.getElem_cons_zero, List.setIfInBounds_toArray, List.set_cons_zero, List.set_cons_succ])
  refine wpAnyH_ready (rs := [14]) (by kernel_rfl) (by simp) ?_
  refine AllReadyH.cons rfl (fun K' hK => ?_) AllReadyH.nil
  go_simp
  refine (rencode_any ⟨k, a, s, x, p, q, n, t, i, y, z, v⟩ _ hwf.out).mono ?_
  rw [HLB.out]
  rintro e w10 ⟨AE, cE, rfl, yE, hb⟩
  have K10 : Hid (Blk w10 gX 25 #[.int .i64 k, .int .i64 a, .int .i64 s, .bool x, .int .i64 p, .int .i64 q, .int .i64 n, .int .i64 t, .int .i64 i, .int .i64 y, .int .i64 z, .int .i64 v]) := Blk.below' K9.out hb
  have D10 : Hid (Blk w10 gD 30 #[.int .i64 k, .int .i64 a, .int .i64 s, .bool x, .int .i64 p, .int .i64 q, .int .i64 n, .int .i64 t, .int .i64 i, .int .i64 y, .int .i64 z, .int .i64 v]) := Blk.below' D9.out hb
  have Y10 : Hid (By w10 w10.heap.size AB LB) := Rd.below' Y9.out hb hb.size
  have W10 : Hid (Below w.heap.size w w10) := below_step W9.out hb
  have q10 : w10.cell? ⟨gX, 0, none⟩ = some (.int .i64 k) ∧ w10.cell? ⟨gX, 1, none⟩ = some (.int .i64 a) ∧ w10.cell? ⟨gX, 2, none⟩ = some (.int .i64 s) ∧ w10.cell? ⟨gX, 3, none⟩ = some (.bool x) ∧ w10.cell? ⟨gX, 4, none⟩ = some (.int .i64 p) ∧ w10.cell? ⟨gX, 5, none⟩ = some (.int .i64 q) ∧ w10.cell? ⟨gX, 6, none⟩ = some (.int .i64 n) ∧ w10.cell? ⟨gX, 7, none⟩ = some (.int .i64 t) ∧ w10.cell? ⟨gX, 8, none⟩ = some (.int .i64 i) ∧ w10.cell? ⟨gX, 9, none⟩ = some (.int .i64 y) ∧ w10.cell? ⟨gX, 10, none⟩ = some (.int .i64 z) ∧ w10.cell? ⟨gX, 11, none⟩ = some (.int .i64 v) ∧ (convert 26 9 (.slice AB LB.length cB)).run Try.prog w10 = .ok (.string ⟨LB.toArray⟩) w10 := s13 K10.out Y10.out
  have tC : (convert 26 9 (.slice AE LB.length cE)).run Try.prog w10 = .ok (.string ⟨LB.toArray⟩) w10 := text_any yE
  clear hb K9 D9 Y9 W9 q9
  go_wp2_with fail
  refine hK.out _ _ q10 (fun hHeld => ?_)
  clear hK K'
  (try simp only [Act.put, List.getElem_toArray, List.getElem_cons_succ, List.getElem_cons_zero, List.setIfInBounds_toArray, List.set_cons_zero, List.set_cons_succ])
  refine wpAnyH_ready (rs := [15]) (by kernel_rfl) (by simp) ?_
  refine AllReadyH.cons rfl (fun K' hK => ?_) AllReadyH.nil
  go_simp
  refine hK.out _ _ q10 (fun hHeld => ?_)
  clear hK K'
  (try simp only [Act.put, List.getElem_toArray, List.getElem_cons_succ, List.getElem_cons_zero, List.setIfInBounds_toArray, List.set_cons_zero, List.set_cons_succ])
  refine wpAnyH_take (i := 16) (v := ?_) rfl (by kernel_rfl) (by kernel_rfl) (by kernel_rfl) (fun _ _ _ h => h) (Or.inl ⟨by rfl, ?_⟩) (by assumption) ?_
  rotate_left
  · intro w' hSw
    (try dsimp only at hSw)
    go_simp
    try with_reducible rfl
  (try simp only [Act.put, List.getElem_toArray, List.getElem_cons_succ, List.getElem_cons_zero, List.setIfInBounds_toArray, List.set_cons_zero, List.set_cons_succ])
  refine wpAnyH_take (i := 17) (v := ?_) rfl (by kernel_rfl) (by kernel_rfl) (by kernel_rfl) (fun _ _ _ h => h) (Or.inl ⟨by rfl, ?_⟩) (by assumption) ?_
  rotate_left
  · intro w' hSw
    (try dsimp only at hSw)
    go_simp
    try with_reducible rfl
  (try simp only [Act.put, List.getElem_toArray, List.getElem_cons_succ, List.getElem_cons_zero, List.setIfInBounds_toArray, List.set_cons_zero, List.set_cons_succ])
  refine wpAnyH_take (i := 18) (v := ?_) rfl (by kernel_rfl) (by kernel_rfl) (by kernel_rfl) (fun _ _ _ h => h) (Or.inl ⟨by rfl, ?_⟩) (by assumption) ?_
  rotate_left
  · intro w' hSw
    (try dsimp only at hSw)
    go_simp
    try with_reducible rfl
  (try simp only [Act.put, List.getElem_toArray, List.getElem_cons_succ, List.getElem_cons_zero, List.setIfInBounds_toArray, List.set_cons_zero, List.set_cons_succ])
  refine wpAnyH_take (i := 19) (v := ?_) rfl (by kernel_rfl) (by kernel_rfl) (by kernel_rfl) (fun _ _ _ h => h) (Or.inl ⟨by rfl, ?_⟩) (by assumption) ?_
  rotate_left
  · intro w' hSw
    (try dsimp only at hSw)
    go_simp
    try with_reducible rfl
  (try simp only [Act.put, List.getElem_toArray, List.getElem_cons_succ, List.getElem_cons_zero, List.setIfInBounds_toArray, List.set_cons_zero, List.set_cons_succ])
  refine wpAnyH_take (i := 20) (v := ?_) rfl (by kernel_rfl) (by kernel_rfl) (by kernel_rfl) (fun _ _ _ h => h) (Or.inl ⟨by rfl, ?_⟩) (by assumption) ?_
  rotate_left
  · intro w' hSw
    (try dsimp only at hSw)
    go_simp
    try with_reducible rfl
  (try simp only [Act.put, List.getElem_toArray, List.getElem_cons_succ, List.getElem_cons_zero, List.setIfInBounds_toArray, List.set_cons_zero, List.set_cons_succ])
  refine wpAnyH_take (i := 21) (v := ?_) rfl (by kernel_rfl) (by kernel_rfl) (by kernel_rfl) (fun _ _ _ h => h) (Or.inl ⟨by rfl, ?_⟩) (by assumption) ?_
  rotate_left
  · intro w' hSw
    (try dsimp only at hSw)
    go_simp
    try with_reducible rfl
  (try simp only [Act.put, List.getElem_toArray, List.getElem_cons_succ, List.getElem_cons_zero, List.setIfInBounds_toArray, List.set_cons_zero, List.set_cons_succ])
  refine wpAnyH_take (i := 22) (v := ?_) rfl (by kernel_rfl) (by kernel_rfl) (by kernel_rfl) (fun _ _ _ h => h) (Or.inl ⟨by rfl, ?_⟩) (by assumption) ?_
  rotate_left
  · intro w' hSw
    (try dsimp only at hSw)
    go_simp
    try with_reducible rfl
  (try simp only [Act.put, List.getElem_toArray, List.getElem_cons_succ, List.getElem_cons_zero, List.setIfInBounds_toArray, List.set_cons_zero, List.set_cons_succ])
  refine wpAnyH_ready (rs := [23]) (by kernel_rfl) (by simp) ?_
  refine AllReadyH.cons rfl (fun K' hK => ?_) AllReadyH.nil
  go_simp
  refine (rright_any ⟨k, a, s, x, p, q, n, t, i, y, z, v⟩ _).mono ?_
  rintro e w11 ⟨rfl, hb⟩
  have K11 : Hid (Blk w11 gX 25 #[.int .i64 k, .int .i64 a, .int .i64 s, .bool x, .int .i64 p, .int .i64 q, .int .i64 n, .int .i64 t, .int .i64 i, .int .i64 y, .int .i64 z, .int .i64 v]) := Blk.below' K10.out hb
  have D11 : Hid (Blk w11 gD 30 #[.int .i64 k, .int .i64 a, .int .i64 s, .bool x, .int .i64 p, .int .i64 q, .int .i64 n, .int .i64 t, .int .i64 i, .int .i64 y, .int .i64 z, .int .i64 v]) := Blk.below' D10.out hb
  have Y11 : Hid (By w11 w11.heap.size AB LB) := Rd.below' Y10.out hb hb.size
  have W11 : Hid (Below w.heap.size w w11) := below_step W10.out hb
  have q11 : w11.cell? ⟨gX, 0, none⟩ = some (.int .i64 k) ∧ w11.cell? ⟨gX, 1, none⟩ = some (.int .i64 a) ∧ w11.cell? ⟨gX, 2, none⟩ = some (.int .i64 s) ∧ w11.cell? ⟨gX, 3, none⟩ = some (.bool x) ∧ w11.cell? ⟨gX, 4, none⟩ = some (.int .i64 p) ∧ w11.cell? ⟨gX, 5, none⟩ = some (.int .i64 q) ∧ w11.cell? ⟨gX, 6, none⟩ = some (.int .i64 n) ∧ w11.cell? ⟨gX, 7, none⟩ = some (.int .i64 t) ∧ w11.cell? ⟨gX, 8, none⟩ = some (.int .i64 i) ∧ w11.cell? ⟨gX, 9, none⟩ = some (.int .i64 y) ∧ w11.cell? ⟨gX, 10, none⟩ = some (.int .i64 z) ∧ w11.cell? ⟨gX, 11, none⟩ = some (.int .i64 v) ∧ (convert 26 9 (.slice AB LB.length cB)).run Try.prog w11 = .ok (.string ⟨LB.toArray⟩) w11 := s13 K11.out Y11.out
  clear hb K10 D10 Y10 W10 q10
  rw [hR.out]
  go_wp2_with fail
  refine hK.out _ _ q11 (fun hHeld => ?_)
  clear hK K'
  (try simp only [Act.put, List.getElem_toArray, List.getElem_cons_succ, List.getElem_cons_zero, List.setIfInBounds_toArray, List.set_cons_zero, List.set_cons_succ])
  refine wpAnyH_take (i := 24) (v := ?_) rfl (by kernel_rfl) (by kernel_rfl) (by kernel_rfl) (fun _ _ _ h => h) (Or.inl ⟨by rfl, ?_⟩) (by assumption) ?_
  rotate_left
  · intro w' hSw
    (try dsimp only at hSw)
    go_simp
    try with_reducible rfl
  (try simp only [Act.put, List.getElem_toArray, List.getElem_cons_succ, List.getElem_cons_zero, List.setIfInBounds_toArray, List.set_cons_zero, List.set_cons_succ])
  refine wpAnyH_take (i := 25) (v := ?_) rfl (by kernel_rfl) (by kernel_rfl) (by kernel_rfl) (fun _ _ _ h => h) (Or.inl ⟨by rfl, ?_⟩) (by assumption) ?_
  rotate_left
  · intro w' hSw
    (try dsimp only at hSw)
    go_simp
    try with_reducible rfl
  (try simp only [Act.put, List.getElem_toArray, List.getElem_cons_succ, List.getElem_cons_zero, List.setIfInBounds_toArray, List.set_cons_zero, List.set_cons_succ])
  refine wpAnyH_done (by kernel_rfl) ?_ _
  go_upto_region 5 with fail
  have B9 : Hid (Below w11.heap.size w11 w11.drew) := (Below.refl _ _).drew
  have K9 : Hid (Blk w11.drew gX 25 #[.int .i64 k, .int .i64 a, .int .i64 s, .bool x, .int .i64 p, .int .i64 q, .int .i64 n, .int .i64 t, .int .i64 i, .int .i64 y, .int .i64 z, .int .i64 v]) := Blk.below' K11.out B9.out
  have D9 : Hid (Blk w11.drew gD 30 #[.int .i64 k, .int .i64 a, .int .i64 s, .bool x, .int .i64 p, .int .i64 q, .int .i64 n, .int .i64 t, .int .i64 i, .int .i64 y, .int .i64 z, .int .i64 v]) := Blk.below' D11.out B9.out
  have W9 : Hid (Below w.heap.size w w11.drew) := below_step W11.out B9.out
  clear B9 q11 hHeld
  have q9 : w11.drew.cell? ⟨gX, 0, none⟩ = some (.int .i64 k) ∧ w11.drew.cell? ⟨gX, 1, none⟩ = some (.int .i64 a) ∧ w11.drew.cell? ⟨gX, 2, none⟩ = some (.int .i64 s) ∧ w11.drew.cell? ⟨gX, 3, none⟩ = some (.bool x) ∧ w11.drew.cell? ⟨gX, 4, none⟩ = some (.int .i64 p) ∧ w11.drew.cell? ⟨gX, 5, none⟩ = some (.int .i64 q) ∧ w11.drew.cell? ⟨gX, 6, none⟩ = some (.int .i64 n) ∧ w11.drew.cell? ⟨gX, 7, none⟩ = some (.int .i64 t) ∧ w11.drew.cell? ⟨gX, 8, none⟩ = some (.int .i64 i) ∧ w11.drew.cell? ⟨gX, 9, none⟩ = some (.int .i64 y) ∧ w11.drew.cell? ⟨gX, 10, none⟩ = some (.int .i64 z) ∧ w11.drew.cell? ⟨gX, 11, none⟩ = some (.int .i64 v) ∧ w11.drew.cell? ⟨gD, 0, none⟩ = some (.int .i64 k) ∧ w11.drew.cell? ⟨gD, 1, none⟩ = some (.int .i64 a) ∧ w11.drew.cell? ⟨gD, 2, none⟩ = some (.int .i64 s) ∧ w11.drew.cell? ⟨gD, 3, none⟩ = some (.bool x) ∧ w11.drew.cell? ⟨gD, 4, none⟩ = some (.int .i64 p) ∧ w11.drew.cell? ⟨gD, 5, none⟩ = some (.int .i64 q) ∧ w11.drew.cell? ⟨gD, 6, none⟩ = some (.int .i64 n) ∧ w11.drew.cell? ⟨gD, 7, none⟩ = some (.int .i64 t) ∧ w11.drew.cell? ⟨gD, 8, none⟩ = some (.int .i64 i) ∧ w11.drew.cell? ⟨gD, 9, none⟩ = some (.int .i64 y) ∧ w11.drew.cell? ⟨gD, 10, none⟩ = some (.int .i64 z) ∧ w11.drew.cell? ⟨gD, 11, none⟩ = some (.int .i64 v) := s24b K9.out D9.out
  have eM : eqM ⟨k, a, s, x, p, q, n, t, i, y, z, v⟩ ⟨k, a, s, x, p, q, n, t, i, y, z, v⟩ = true := eqM_self _
  refine wp_region_held_drew (S := (fun w' => w'.cell? ⟨gX, 0, none⟩ = some (.int .i64 k) ∧ w'.cell? ⟨gX, 1, none⟩ = some (.int .i64 a) ∧ w'.cell? ⟨gX, 2, none⟩ = some (.int .i64 s) ∧ w'.cell? ⟨gX, 3, none⟩ = some (.bool x) ∧ w'.cell? ⟨gX, 4, none⟩ = some (.int .i64 p) ∧ w'.cell? ⟨gX, 5, none⟩ = some (.int .i64 q) ∧ w'.cell? ⟨gX, 6, none⟩ = some (.int .i64 n) ∧ w'.cell? ⟨gX, 7, none⟩ = some (.int .i64 t) ∧ w'.cell? ⟨gX, 8, none⟩ = some (.int .i64 i) ∧ w'.cell? ⟨gX, 9, none⟩ = some (.int .i64 y) ∧ w'.cell? ⟨gX, 10, none⟩ = some (.int .i64 z) ∧ w'.cell? ⟨gX, 11, none⟩ = some (.int .i64 v) ∧ w'.cell? ⟨gD, 0, none⟩ = some (.int .i64 k) ∧ w'.cell? ⟨gD, 1, none⟩ = some (.int .i64 a) ∧ w'.cell? ⟨gD, 2, none⟩ = some (.int .i64 s) ∧ w'.cell? ⟨gD, 3, none⟩ = some (.bool x) ∧ w'.cell? ⟨gD, 4, none⟩ = some (.int .i64 p) ∧ w'.cell? ⟨gD, 5, none⟩ = some (.int .i64 q) ∧ w'.cell? ⟨gD, 6, none⟩ = some (.int .i64 n) ∧ w'.cell? ⟨gD, 7, none⟩ = some (.int .i64 t) ∧ w'.cell? ⟨gD, 8, none⟩ = some (.int .i64 i) ∧ w'.cell? ⟨gD, 9, none⟩ = some (.int .i64 y) ∧ w'.cell? ⟨gD, 10, none⟩ = some (.int .i64 z) ∧ w'.cell? ⟨gD, 11, none⟩ = some (.int .i64 v))) (by kernel_rfl) q9 (fun hHeld => ?_)
  refine wpAnyH_take (i := 0) (v := ?_) rfl (by kernel_rfl) (by kernel_rfl) (by kernel_rfl) (fun _ _ _ h => h) (Or.inl ⟨by rfl, ?_⟩) (by assumption) ?_
  rotate_left
  · intro w' hSw
    (try dsimp only at hSw)
    go_simp
    try with_reducible rfl
  (try simp only [Act.put, List.getElem_toArray, List.getElem_cons_succ, List.getElem_cons_zero, List.setIfInBounds_toArray, List.set_cons_zero, List.set_cons_succ])
  refine wpAnyH_take (i := 1) (v := ?_) rfl (by kernel_rfl) (by kernel_rfl) (by kernel_rfl) (fun _ _ _ h => h) (Or.inl ⟨by rfl, ?_⟩) (by assumption) ?_
  rotate_left
  · intro w' hSw
    (try dsimp only at hSw)
    go_simp
    try with_reducible rfl
  (try simp only [Act.put, List.getElem_toArray, List.getElem_cons_succ, List.getElem_cons_zero, List.setIfInBounds_toArray, List.set_cons_zero, List.set_cons_succ])
  refine wpAnyH_take (i := 2) (v := ?_) rfl (by kernel_rfl) (by kernel_rfl) (by kernel_rfl) (fun _ _ _ h => h) (Or.inl ⟨by rfl, ?_⟩) (by assumption) ?_
  rotate_left
  · intro w' hSw
    (try dsimp only at hSw)
    go_simp
    try with_reducible rfl
  (try simp only [Act.put, List.getElem_toArray, List.getElem_cons_succ, List.getElem_cons_zero, List.setIfInBounds_toArray, List.set_cons_zero, List.set_cons_succ])
  refine wpAnyH_take (i := 3) (v := ?_) rfl (by kernel_rfl) (by kernel_rfl) (by kernel_rfl) (fun _ _ _ h => h) (Or.inl ⟨by rfl, ?_⟩) (by assumption) ?_
  rotate_left
  · intro w' hSw
    (try dsimp only at hSw)
    go_simp
    try with_reducible rfl
  (try simp only [Act.put, List.getElem_toArray, List.getElem_cons_succ, List.getElem_cons_zero, List.setIfInBounds_toArray, List.set_cons_zero, List.set_cons_succ])
  refine wpAnyH_take (i := 4) (v := ?_) rfl (by kernel_rfl) (by kernel_rfl) (by kernel_rfl) (fun _ _ _ h => h) (Or.inl ⟨by rfl, ?_⟩) (by assumption) ?_
  rotate_left
  · intro w' hSw
    (try dsimp only at hSw)
    go_simp
    try with_reducible rfl
  (try simp only [Act.put, List.getElem_toArray, List.getElem_cons_succ, List.getElem_cons_zero, List.setIfInBounds_toArray, List.set_cons_zero, List.set_cons_succ])
  refine wpAnyH_take (i := 5) (v := ?_) rfl (by kernel_rfl) (by kernel_rfl) (by kernel_rfl) (fun _ _ _ h => h) (Or.inl ⟨by rfl, ?_⟩) (by assumption) ?_
  rotate_left
  · intro w' hSw
    (try dsimp only at hSw)
    go_simp
    try with_reducible rfl
  (try simp only [Act.put, List.getElem_toArray, List.getElem_cons_succ, List.getElem_cons_zero, List.setIfInBounds_toArray, List.set_cons_zero, List.set_cons_succ])
  refine wpAnyH_take (i := 6) (v := ?_) rfl (by kernel_rfl) (by kernel_rfl) (by kernel_rfl) (fun _ _ _ h => h) (Or.inl ⟨by rfl, ?_⟩) (by assumption) ?_
  rotate_left
  · intro w' hSw
    (try dsimp only at hSw)
    go_simp
    try with_reducible rfl
  (try simp only [Act.put, List.getElem_toArray, List.getElem_cons_succ, List.getElem_cons_zero, List.setIfInBounds_toArray, List.set_cons_zero, List.set_cons_succ])
  refine wpAnyH_take (i := 7) (v := ?_) rfl (by kernel_rfl) (by kernel_rfl) (by kernel_rfl) (fun _ _ _ h => h) (Or.inl ⟨by rfl, ?_⟩) (by assumption) ?_
  rotate_left
  · intro w' hSw
    (try dsimp only at hSw)
    go_simp
    try with_reducible rfl
  (try simp only [Act.put, List.getElem_toArray, List.getElem_cons_succ, List.getElem_cons_zero, List.setIfInBounds_toArray, List.set_cons_zero, List.set_cons_succ])
  refine wpAnyH_take (i := 8) (v := ?_) rfl (by kernel_rfl) (by kernel_rfl) (by kernel_rfl) (fun _ _ _ h => h) (Or.inl ⟨by rfl, ?_⟩) (by assumption) ?_
  rotate_left
  · intro w' hSw
    (try dsimp only at hSw)
    go_simp
    try with_reducible rfl
  (try simp only [Act.put, List.getElem_toArray, List.getElem_cons_succ, List.getElem_cons_zero, List.setIfInBounds_toArray, List.set_cons_zero, List.set_cons_succ])
  refine wpAnyH_ready (rs := [9]) (by kernel_rfl) (by simp) ?_
  refine AllReadyH.cons rfl (fun K' hK => ?_) AllReadyH.nil
  go_simp
  refine (to_any ⟨k, a, s, x, p, q, n, t, i, y, z, v⟩ _).mono ?_
  rintro e wZ ⟨rfl, hb⟩
  rw [show mvl ⟨k, a, s, x, p, q, n, t, i, y, z, v⟩ = .agg #[.int .i64 k, .int .i64 a, .int .i64 s, .bool x, .int .i64 p, .int .i64 q, .int .i64 n, .int .i64 t, .int .i64 i, .int .i64 y, .int .i64 z, .int .i64 v] from rfl]
  have WZ : Hid (Below w.heap.size w wZ) := below_step W9.out hb
  have qZ : wZ.cell? ⟨gX, 0, none⟩ = some (.int .i64 k) ∧ wZ.cell? ⟨gX, 1, none⟩ = some (.int .i64 a) ∧ wZ.cell? ⟨gX, 2, none⟩ = some (.int .i64 s) ∧ wZ.cell? ⟨gX, 3, none⟩ = some (.bool x) ∧ wZ.cell? ⟨gX, 4, none⟩ = some (.int .i64 p) ∧ wZ.cell? ⟨gX, 5, none⟩ = some (.int .i64 q) ∧ wZ.cell? ⟨gX, 6, none⟩ = some (.int .i64 n) ∧ wZ.cell? ⟨gX, 7, none⟩ = some (.int .i64 t) ∧ wZ.cell? ⟨gX, 8, none⟩ = some (.int .i64 i) ∧ wZ.cell? ⟨gX, 9, none⟩ = some (.int .i64 y) ∧ wZ.cell? ⟨gX, 10, none⟩ = some (.int .i64 z) ∧ wZ.cell? ⟨gX, 11, none⟩ = some (.int .i64 v) ∧ wZ.cell? ⟨gD, 0, none⟩ = some (.int .i64 k) ∧ wZ.cell? ⟨gD, 1, none⟩ = some (.int .i64 a) ∧ wZ.cell? ⟨gD, 2, none⟩ = some (.int .i64 s) ∧ wZ.cell? ⟨gD, 3, none⟩ = some (.bool x) ∧ wZ.cell? ⟨gD, 4, none⟩ = some (.int .i64 p) ∧ wZ.cell? ⟨gD, 5, none⟩ = some (.int .i64 q) ∧ wZ.cell? ⟨gD, 6, none⟩ = some (.int .i64 n) ∧ wZ.cell? ⟨gD, 7, none⟩ = some (.int .i64 t) ∧ wZ.cell? ⟨gD, 8, none⟩ = some (.int .i64 i) ∧ wZ.cell? ⟨gD, 9, none⟩ = some (.int .i64 y) ∧ wZ.cell? ⟨gD, 10, none⟩ = some (.int .i64 z) ∧ wZ.cell? ⟨gD, 11, none⟩ = some (.int .i64 v) := s24b (Blk.below' K9.out hb) (Blk.below' D9.out hb)
  go_wp2_with fail
  refine hK.out _ _ qZ (fun hHeld => ?_)
  clear hK K'
  (try simp only [Act.put, List.getElem_toArray, List.getElem_cons_succ, List.getElem_cons_zero, List.setIfInBounds_toArray, List.set_cons_zero, List.set_cons_succ])
  refine wpAnyH_take (i := 10) (v := ?_) rfl (by kernel_rfl) (by kernel_rfl) (by kernel_rfl) (fun _ _ _ h => h) (Or.inl ⟨by rfl, ?_⟩) (by assumption) ?_
  rotate_left
  · intro w' hSw
    (try dsimp only at hSw)
    go_simp
    try with_reducible rfl
  (try simp only [Act.put, List.getElem_toArray, List.getElem_cons_succ, List.getElem_cons_zero, List.setIfInBounds_toArray, List.set_cons_zero, List.set_cons_succ])
  refine wpAnyH_take (i := 11) (v := ?_) rfl (by kernel_rfl) (by kernel_rfl) (by kernel_rfl) (fun _ _ _ h => h) (Or.inl ⟨by rfl, ?_⟩) (by assumption) ?_
  rotate_left
  · intro w' hSw
    (try dsimp only at hSw)
    go_simp
    try with_reducible rfl
  (try simp only [Act.put, List.getElem_toArray, List.getElem_cons_succ, List.getElem_cons_zero, List.setIfInBounds_toArray, List.set_cons_zero, List.set_cons_succ])
  refine wpAnyH_take (i := 12) (v := ?_) rfl (by kernel_rfl) (by kernel_rfl) (by kernel_rfl) (fun _ _ _ h => h) (Or.inl ⟨by rfl, ?_⟩) (by assumption) ?_
  rotate_left
  · intro w' hSw
    (try dsimp only at hSw)
    go_simp
    try with_reducible rfl
  (try simp only [Act.put, List.getElem_toArray, List.getElem_cons_succ, List.getElem_cons_zero, List.setIfInBounds_toArray, List.set_cons_zero, List.set_cons_succ])
  refine wpAnyH_take (i := 13) (v := ?_) rfl (by kernel_rfl) (by kernel_rfl) (by kernel_rfl) (fun _ _ _ h => h) (Or.inl ⟨by rfl, ?_⟩) (by assumption) ?_
  rotate_left
  · intro w' hSw
    (try dsimp only at hSw)
    go_simp
    try with_reducible rfl
  (try simp only [Act.put, List.getElem_toArray, List.getElem_cons_succ, List.getElem_cons_zero, List.setIfInBounds_toArray, List.set_cons_zero, List.set_cons_succ])
  refine wpAnyH_take (i := 14) (v := ?_) rfl (by kernel_rfl) (by kernel_rfl) (by kernel_rfl) (fun _ _ _ h => h) (Or.inl ⟨by rfl, ?_⟩) (by assumption) ?_
  rotate_left
  · intro w' hSw
    (try dsimp only at hSw)
    go_simp
    try with_reducible rfl
  (try simp only [Act.put, List.getElem_toArray, List.getElem_cons_succ, List.getElem_cons_zero, List.setIfInBounds_toArray, List.set_cons_zero, List.set_cons_succ])
  refine wpAnyH_take (i := 15) (v := ?_) rfl (by kernel_rfl) (by kernel_rfl) (by kernel_rfl) (fun _ _ _ h => h) (Or.inl ⟨by rfl, ?_⟩) (by assumption) ?_
  rotate_left
  · intro w' hSw
    (try dsimp only at hSw)
    go_simp
    try with_reducible rfl
  (try simp only [Act.put, List.getElem_toArray, List.getElem_cons_succ, List.getElem_cons_zero, List.setIfInBounds_toArray, List.set_cons_zero, List.set_cons_succ])
  refine wpAnyH_take (i := 16) (v := ?_) rfl (by kernel_rfl) (by kernel_rfl) (by kernel_rfl) (fun _ _ _ h => h) (Or.inl ⟨by rfl, ?_⟩) (by assumption) ?_
  rotate_left
  · intro w' hSw
    (try dsimp only at hSw)
    go_simp
    try with_reducible rfl
  (try simp only [Act.put, List.getElem_toArray, List.getElem_cons_succ, List.getElem_cons_zero, List.setIfInBounds_toArray, List.set_cons_zero, List.set_cons_succ])
  refine wpAnyH_take (i := 17) (v := ?_) rfl (by kernel_rfl) (by kernel_rfl) (by kernel_rfl) (fun _ _ _ h => h) (Or.inl ⟨by rfl, ?_⟩) (by assumption) ?_
  rotate_left
  · intro w' hSw
    (try dsimp only at hSw)
    go_simp
    try with_reducible rfl
  (try simp only [Act.put, List.getElem_toArray, List.getElem_cons_succ, List.getElem_cons_zero, List.setIfInBounds_toArray, List.set_cons_zero, List.set_cons_succ])
  refine wpAnyH_take (i := 18) (v := ?_) rfl (by kernel_rfl) (by kernel_rfl) (by kernel_rfl) (fun _ _ _ h => h) (Or.inl ⟨by rfl, ?_⟩) (by assumption) ?_
  rotate_left
  · intro w' hSw
    (try dsimp only at hSw)
    go_simp
    try with_reducible rfl
  (try simp only [Act.put, List.getElem_toArray, List.getElem_cons_succ, List.getElem_cons_zero, List.setIfInBounds_toArray, List.set_cons_zero, List.set_cons_succ])
  refine wpAnyH_done (by kernel_rfl) ?_ _
  go_wp2_with fail
  go_ret
  exact madeB_mk rfl WZ.out
set_option maxHeartbeats 16000000 in
theorem inner_f (k a s p q n t i y z v : Int) (x : Bool) (w : World) (hwf : Hid (WfM ⟨k, a, s, x, p, q, n, t, i, y, z, v⟩)) (hR : Hid (rightM ⟨k, a, s, x, p, q, n, t, i, y, z, v⟩ = false)) :
    Calls Try.prog 3 #[.agg #[.int .i64 k, .int .i64 a, .int .i64 s, .bool x, .int .i64 p, .int .i64 q, .int .i64 n, .int .i64 t, .int .i64 i, .int .i64 y, .int .i64 z, .int .i64 v]] w (MadeB true w) := by
  have b0 : Hid (Below w.heap.size w (w.alloc (.cells #[.int .i64 k, .int .i64 a, .int .i64 s, .bool x, .int .i64 p, .int .i64 q, .int .i64 n, .int .i64 t, .int .i64 i, .int .i64 y, .int .i64 z, .int .i64 v] 25))) := (Below.refl _ _).alloc (Nat.le_refl _) _
  have K0 : Hid (Blk (w.alloc (.cells #[.int .i64 k, .int .i64 a, .int .i64 s, .bool x, .int .i64 p, .int .i64 q, .int .i64 n, .int .i64 t, .int .i64 i, .int .i64 y, .int .i64 z, .int .i64 v] 25)) w.heap.size 25 #[.int .i64 k, .int .i64 a, .int .i64 s, .bool x, .int .i64 p, .int .i64 q, .int .i64 n, .int .i64 t, .int .i64 i, .int .i64 y, .int .i64 z, .int .i64 v]) := Blk.fresh _ _ _
  obtain ⟨LB, hLB⟩ : ∃ L, encB ⟨k, a, s, x, p, q, n, t, i, y, z, v⟩ = L := ⟨_, rfl⟩
  have HLB := Lib.hid hLB
  have hE : Hid (LB = []) := by show _ = _; rw [← hLB]; unfold encB; rw [if_neg (by rw [hR.out]; decide)]
  have hlen : Hid (LB.length ≤ 100) := by show _ ≤ _; rw [hE.out]; decide
  clear hLB
  go_enter Try.func3, Try.ntmps3
  go_upto_region 1 with fail
  generalize w.alloc (.cells #[.int .i64 k, .int .i64 a, .int .i64 s, .bool x, .int .i64 p, .int .i64 q, .int .i64 n, .int .i64 t, .int .i64 i, .int .i64 y, .int .i64 z, .int .i64 v] 25) = wA at b0 K0 ⊢
  obtain ⟨gX, hgX⟩ : ∃ g, g = w.heap.size := ⟨_, rfl⟩
  have K1 : Hid (Blk wA gX 25 #[.int .i64 k, .int .i64 a, .int .i64 s, .bool x, .int .i64 p, .int .i64 q, .int .i64 n, .int .i64 t, .int .i64 i, .int .i64 y, .int .i64 z, .int .i64 v]) := by rw [hgX]; exact K0.out
  simp only [← hgX]
  have HG := Lib.hid hgX
  clear hgX K0
  obtain ⟨j0, j1, j2, j3, j4, j5, j6, j7, j8, j9, j10, j11⟩ := c12_of K1.out
  go_wp2_with fail
  refine (to_any ⟨k, a, s, x, p, q, n, t, i, y, z, v⟩ _).mono ?_
  rintro e w1 ⟨rfl, hb1⟩
  rw [show mvl ⟨k, a, s, x, p, q, n, t, i, y, z, v⟩ = .agg #[.int .i64 k, .int .i64 a, .int .i64 s, .bool x, .int .i64 p, .int .i64 q, .int .i64 n, .int .i64 t, .int .i64 i, .int .i64 y, .int .i64 z, .int .i64 v] from rfl]
  go_wp2_with fail
  refine (encode_any ⟨k, a, s, x, p, q, n, t, i, y, z, v⟩ _ hwf.out).mono ?_
  rw [HLB.out]
  rintro e w2 ⟨AB, cB, rfl, ro, hb2, _⟩
  have hcap := Lib.hid (own_caps ro.out)
  have b2 : Hid (Below wA.heap.size wA w2) := below_step hb1 hb2
  have Y2 : Hid (By w2 w2.heap.size AB LB) := Rd.of_own ro.out
  have K2 : Hid (Blk w2 gX 25 #[.int .i64 k, .int .i64 a, .int .i64 s, .bool x, .int .i64 p, .int .i64 q, .int .i64 n, .int .i64 t, .int .i64 i, .int .i64 y, .int .i64 z, .int .i64 v]) := Blk.below' K1.out b2.out
  have B2 : Hid (Below w.heap.size w w2) := below_step b0.out b2.out
  clear hb1 hb2 ro b0 b2 K1 j0 j1 j2 j3 j4 j5 j6 j7 j8 j9 j10 j11
  go_wp2_with fail
  refine (decode_any AB cB LB w2 (by have := hlen.out; omega) hcap.out.1 hcap.out.2 Y2).mono ?_
  rintro e w3 (⟨hok, _⟩ | ⟨_, rfl, b3⟩)
  case inl => exact absurd hok.1 (by rw [hE.out]; decide)
  rw [show mvl m0 = .agg #[.int .i64 0, .int .i64 0, .int .i64 0, .bool false, .int .i64 0, .int .i64 0, .int .i64 0, .int .i64 0, .int .i64 0, .int .i64 0, .int .i64 0, .int .i64 0] from rfl]
  have U4 : Hid (Below w3.heap.size w3 (w3.alloc (.cells #[.int .i64 0, .int .i64 0, .int .i64 0, .bool false, .int .i64 0, .int .i64 0, .int .i64 0, .int .i64 0, .int .i64 0, .int .i64 0, .int .i64 0, .int .i64 0] 30))) := (Below.refl _ _).alloc (Nat.le_refl _) _
  have D4 : Hid (Blk (w3.alloc (.cells #[.int .i64 0, .int .i64 0, .int .i64 0, .bool false, .int .i64 0, .int .i64 0, .int .i64 0, .int .i64 0, .int .i64 0, .int .i64 0, .int .i64 0, .int .i64 0] 30)) w3.heap.size 30 #[.int .i64 0, .int .i64 0, .int .i64 0, .bool false, .int .i64 0, .int .i64 0, .int .i64 0, .int .i64 0, .int .i64 0, .int .i64 0, .int .i64 0, .int .i64 0]) := Blk.fresh _ _ _
  have b4 : Hid (Below w2.heap.size w2 (w3.alloc (.cells #[.int .i64 0, .int .i64 0, .int .i64 0, .bool false, .int .i64 0, .int .i64 0, .int .i64 0, .int .i64 0, .int .i64 0, .int .i64 0, .int .i64 0, .int .i64 0] 30))) := below_step b3 U4.out
  have K4 : Hid (Blk (w3.alloc (.cells #[.int .i64 0, .int .i64 0, .int .i64 0, .bool false, .int .i64 0, .int .i64 0, .int .i64 0, .int .i64 0, .int .i64 0, .int .i64 0, .int .i64 0, .int .i64 0] 30)) gX 25 #[.int .i64 k, .int .i64 a, .int .i64 s, .bool x, .int .i64 p, .int .i64 q, .int .i64 n, .int .i64 t, .int .i64 i, .int .i64 y, .int .i64 z, .int .i64 v]) := Blk.below' K2.out b4.out
  have Y4 : Hid (By (w3.alloc (.cells #[.int .i64 0, .int .i64 0, .int .i64 0, .bool false, .int .i64 0, .int .i64 0, .int .i64 0, .int .i64 0, .int .i64 0, .int .i64 0, .int .i64 0, .int .i64 0] 30)) (w3.alloc (.cells #[.int .i64 0, .int .i64 0, .int .i64 0, .bool false, .int .i64 0, .int .i64 0, .int .i64 0, .int .i64 0, .int .i64 0, .int .i64 0, .int .i64 0, .int .i64 0] 30)).heap.size AB LB) := Rd.below' Y2.out b4.out b4.out.size
  have B4 : Hid (Below w.heap.size w (w3.alloc (.cells #[.int .i64 0, .int .i64 0, .int .i64 0, .bool false, .int .i64 0, .int .i64 0, .int .i64 0, .int .i64 0, .int .i64 0, .int .i64 0, .int .i64 0, .int .i64 0] 30))) := below_step B2.out b4.out
  clear U4 b4 b3 K2 Y2 B2
  go_upto_region 3 with fail
  generalize w3.alloc (.cells #[.int .i64 0, .int .i64 0, .int .i64 0, .bool false, .int .i64 0, .int .i64 0, .int .i64 0, .int .i64 0, .int .i64 0, .int .i64 0, .int .i64 0, .int .i64 0] 30) = w4 at D4 K4 Y4 B4 ⊢
  generalize w3.heap.size = gD at D4 ⊢
  have B5 : Hid (Below w4.heap.size w4 w4.drew) := (Below.refl _ _).drew
  have K5 : Hid (Blk w4.drew gX 25 #[.int .i64 k, .int .i64 a, .int .i64 s, .bool x, .int .i64 p, .int .i64 q, .int .i64 n, .int .i64 t, .int .i64 i, .int .i64 y, .int .i64 z, .int .i64 v]) := Blk.below' K4.out B5.out
  have D5 : Hid (Blk w4.drew gD 30 #[.int .i64 0, .int .i64 0, .int .i64 0, .bool false, .int .i64 0, .int .i64 0, .int .i64 0, .int .i64 0, .int .i64 0, .int .i64 0, .int .i64 0, .int .i64 0]) := Blk.below' D4.out B5.out
  have Y5 : Hid (By w4.drew w4.drew.heap.size AB LB) := Rd.below' Y4.out B5.out B5.out.size
  have W5 : Hid (Below w.heap.size w w4.drew) := below_step B4.out B5.out
  have q5 : w4.drew.cell? ⟨gX, 0, none⟩ = some (.int .i64 k) ∧ w4.drew.cell? ⟨gX, 1, none⟩ = some (.int .i64 a) ∧ w4.drew.cell? ⟨gX, 2, none⟩ = some (.int .i64 s) ∧ w4.drew.cell? ⟨gX, 3, none⟩ = some (.bool x) ∧ w4.drew.cell? ⟨gX, 4, none⟩ = some (.int .i64 p) ∧ w4.drew.cell? ⟨gX, 5, none⟩ = some (.int .i64 q) ∧ w4.drew.cell? ⟨gX, 6, none⟩ = some (.int .i64 n) ∧ w4.drew.cell? ⟨gX, 7, none⟩ = some (.int .i64 t) ∧ w4.drew.cell? ⟨gX, 8, none⟩ = some (.int .i64 i) ∧ w4.drew.cell? ⟨gX, 9, none⟩ = some (.int .i64 y) ∧ w4.drew.cell? ⟨gX, 10, none⟩ = some (.int .i64 z) ∧ w4.drew.cell? ⟨gX, 11, none⟩ = some (.int .i64 v) ∧ (convert 26 9 (.slice AB LB.length cB)).run Try.prog w4.drew = .ok (.string ⟨LB.toArray⟩) w4.drew := s13 K5.out Y5.out
  clear B5 K4 D4 Y4 B4
  have tE : decide ((0 : Int) < (LB.length : Int)) = false := by rw [hE.out]; decide
  have tZ : ((LB.length : Int) == 0) = true := by rw [hE.out]; decide
  have tE2 : decide (0 < LB.length) = false := by rw [hE.out]; decide
  have hRb : rightM ⟨k, a, s, x, p, q, n, t, i, y, z, v⟩ = false := hR.out
  refine wp_region_held_drew (S := (fun w' => w'.cell? ⟨gX, 0, none⟩ = some (.int .i64 k) ∧ w'.cell? ⟨gX, 1, none⟩ = some (.int .i64 a) ∧ w'.cell? ⟨gX, 2, none⟩ = some (.int .i64 s) ∧ w'.cell? ⟨gX, 3, none⟩ = some (.bool x) ∧ w'.cell? ⟨gX, 4, none⟩ = some (.int .i64 p) ∧ w'.cell? ⟨gX, 5, none⟩ = some (.int .i64 q) ∧ w'.cell? ⟨gX, 6, none⟩ = some (.int .i64 n) ∧ w'.cell? ⟨gX, 7, none⟩ = some (.int .i64 t) ∧ w'.cell? ⟨gX, 8, none⟩ = some (.int .i64 i) ∧ w'.cell? ⟨gX, 9, none⟩ = some (.int .i64 y) ∧ w'.cell? ⟨gX, 10, none⟩ = some (.int .i64 z) ∧ w'.cell? ⟨gX, 11, none⟩ = some (.int .i64 v) ∧ (convert 26 9 (.slice AB LB.length cB)).run Try.prog w' = .ok (.string ⟨LB.toArray⟩) w')) (by kernel_rfl) q5 (fun hHeld => ?_)
  refine wpAnyH_ready (rs := [0]) (by kernel_rfl) (by simp) ?_
  refine AllReadyH.cons rfl (fun K' hK => ?_) AllReadyH.nil
  go_simp
  refine (told6_any _).mono ?_
  rintro e w6 ⟨rfl, hb⟩
  have K6 : Hid (Blk w6 gX 25 #[.int .i64 k, .int .i64 a, .int .i64 s, .bool x, .int .i64 p, .int .i64 q, .int .i64 n, .int .i64 t, .int .i64 i, .int .i64 y, .int .i64 z, .int .i64 v]) := Blk.below' K5.out hb
  have D6 : Hid (Blk w6 gD 30 #[.int .i64 0, .int .i64 0, .int .i64 0, .bool false, .int .i64 0, .int .i64 0, .int .i64 0, .int .i64 0, .int .i64 0, .int .i64 0, .int .i64 0, .int .i64 0]) := Blk.below' D5.out hb
  have Y6 : Hid (By w6 w6.heap.size AB LB) := Rd.below' Y5.out hb hb.size
  have W6 : Hid (Below w.heap.size w w6) := below_step W5.out hb
  have q6 : w6.cell? ⟨gX, 0, none⟩ = some (.int .i64 k) ∧ w6.cell? ⟨gX, 1, none⟩ = some (.int .i64 a) ∧ w6.cell? ⟨gX, 2, none⟩ = some (.int .i64 s) ∧ w6.cell? ⟨gX, 3, none⟩ = some (.bool x) ∧ w6.cell? ⟨gX, 4, none⟩ = some (.int .i64 p) ∧ w6.cell? ⟨gX, 5, none⟩ = some (.int .i64 q) ∧ w6.cell? ⟨gX, 6, none⟩ = some (.int .i64 n) ∧ w6.cell? ⟨gX, 7, none⟩ = some (.int .i64 t) ∧ w6.cell? ⟨gX, 8, none⟩ = some (.int .i64 i) ∧ w6.cell? ⟨gX, 9, none⟩ = some (.int .i64 y) ∧ w6.cell? ⟨gX, 10, none⟩ = some (.int .i64 z) ∧ w6.cell? ⟨gX, 11, none⟩ = some (.int .i64 v) ∧ (convert 26 9 (.slice AB LB.length cB)).run Try.prog w6 = .ok (.string ⟨LB.toArray⟩) w6 := s13 K6.out Y6.out
  clear hb K5 D5 Y5 W5 q5
  go_wp2_with fail
  refine hK.out _ _ q6 (fun hHeld => ?_)
  clear hK K'
  (try simp only [Act.put, List.getElem_toArray, List.getElem_cons_succ, List.getElem_cons_zero, List.setIfInBounds_toArray, List.set_cons_zero, List.set_cons_succ])
  refine wpAnyH_take (i := 1) (v := ?_) rfl (by kernel_rfl) (by kernel_rfl) (by kernel_rfl) (fun _ _ _ h => h) (Or.inl ⟨by rfl, ?_⟩) (by assumption) ?_
  rotate_left
  · intro w' hSw
    (try dsimp only at hSw)
    go_simp
    try with_reducible rfl
  (try simp only [Act.put, List.getElem_toArray, List.getElem_cons_succ, List.getElem_cons_zero, List.setIfInBounds_toArray, List.set_cons_zero, List.set_cons_succ])
  refine wpAnyH_take (i := 2) (v := ?_) rfl (by kernel_rfl) (by kernel_rfl) (by kernel_rfl) (fun _ _ _ h => h) (Or.inl ⟨by rfl, ?_⟩) (by assumption) ?_
  rotate_left
  · intro w' hSw
    (try dsimp only at hSw)
    go_simp
    try with_reducible rfl
  (try simp only [Act.put, List.getElem_toArray, List.getElem_cons_succ, List.getElem_cons_zero, List.setIfInBounds_toArray, List.set_cons_zero, List.set_cons_succ])
  refine wpAnyH_take (i := 3) (v := ?_) rfl (by kernel_rfl) (by kernel_rfl) (by kernel_rfl) (fun _ _ _ h => h) (Or.inl ⟨by rfl, ?_⟩) (by assumption) ?_
  rotate_left
  · intro w' hSw
    (try dsimp only at hSw)
    go_simp
    try with_reducible rfl
  (try simp only [Act.put, List.getElem_toArray, List.getElem_cons_succ, List.getElem_cons_zero, List.setIfInBounds_toArray, List.set_cons_zero, List.set_cons_succ])
  refine wpAnyH_take (i := 6) (v := ?_) rfl (by kernel_rfl) (by kernel_rfl) (by kernel_rfl) (fun _ _ _ h => h) (Or.inl ⟨by rfl, ?_⟩) (by assumption) ?_
  rotate_left
  · intro w' hSw
    (try dsimp only at hSw)
    go_simp
    try with_reducible rfl
  (try simp only [Act.put, List.getElem_toArray, List.getElem_cons_succ, List.getElem_cons_zero, List.setIfInBounds_toArray, List.set_cons_zero, List.set_cons_succ])
  refine wpAnyH_ready (rs := [4]) (by kernel_rfl) (by simp) ?_
  refine AllReadyH.cons rfl (fun K' hK => ?_) AllReadyH.nil
  go_simp
  refine (to_any ⟨k, a, s, x, p, q, n, t, i, y, z, v⟩ _).mono ?_
  rintro e w7 ⟨rfl, hb⟩
  have K7 : Hid (Blk w7 gX 25 #[.int .i64 k, .int .i64 a, .int .i64 s, .bool x, .int .i64 p, .int .i64 q, .int .i64 n, .int .i64 t, .int .i64 i, .int .i64 y, .int .i64 z, .int .i64 v]) := Blk.below' K6.out hb
  have D7 : Hid (Blk w7 gD 30 #[.int .i64 0, .int .i64 0, .int .i64 0, .bool false, .int .i64 0, .int .i64 0, .int .i64 0, .int .i64 0, .int .i64 0, .int .i64 0, .int .i64 0, .int .i64 0]) := Blk.below' D6.out hb
  have Y7 : Hid (By w7 w7.heap.size AB LB) := Rd.below' Y6.out hb hb.size
  have W7 : Hid (Below w.heap.size w w7) := below_step W6.out hb
  have q7 : w7.cell? ⟨gX, 0, none⟩ = some (.int .i64 k) ∧ w7.cell? ⟨gX, 1, none⟩ = some (.int .i64 a) ∧ w7.cell? ⟨gX, 2, none⟩ = some (.int .i64 s) ∧ w7.cell? ⟨gX, 3, none⟩ = some (.bool x) ∧ w7.cell? ⟨gX, 4, none⟩ = some (.int .i64 p) ∧ w7.cell? ⟨gX, 5, none⟩ = some (.int .i64 q) ∧ w7.cell? ⟨gX, 6, none⟩ = some (.int .i64 n) ∧ w7.cell? ⟨gX, 7, none⟩ = some (.int .i64 t) ∧ w7.cell? ⟨gX, 8, none⟩ = some (.int .i64 i) ∧ w7.cell? ⟨gX, 9, none⟩ = some (.int .i64 y) ∧ w7.cell? ⟨gX, 10, none⟩ = some (.int .i64 z) ∧ w7.cell? ⟨gX, 11, none⟩ = some (.int .i64 v) ∧ (convert 26 9 (.slice AB LB.length cB)).run Try.prog w7 = .ok (.string ⟨LB.toArray⟩) w7 := s13 K7.out Y7.out
  clear hb K6 D6 Y6 W6 q6
  rw [show mvl ⟨k, a, s, x, p, q, n, t, i, y, z, v⟩ = .agg #[.int .i64 k, .int .i64 a, .int .i64 s, .bool x, .int .i64 p, .int .i64 q, .int .i64 n, .int .i64 t, .int .i64 i, .int .i64 y, .int .i64 z, .int .i64 v] from rfl]
  go_wp2_with fail
  refine hK.out _ _ q7 (fun hHeld => ?_)
  clear hK K'
  (try simp only [Act.put, List.getElem_toArray, List.getElem_cons_succ, List.getElem_cons_zero, List.setIfInBounds_toArray, List.set_cons_zero, List.set_cons_succ])
  refine wpAnyH_ready (rs := [5]) (by kernel_rfl) (by simp) ?_
  refine AllReadyH.cons rfl (fun K' hK => ?_) AllReadyH.nil
  go_simp
  refine (right_any ⟨k, a, s, x, p, q, n, t, i, y, z, v⟩ _).mono ?_
  rintro e w8 ⟨rfl, hb⟩
  have K8 : Hid (Blk w8 gX 25 #[.int .i64 k, .int .i64 a, .int .i64 s, .bool x, .int .i64 p, .int .i64 q, .int .i64 n, .int .i64 t, .int .i64 i, .int .i64 y, .int .i64 z, .int .i64 v]) := Blk.below' K7.out hb
  have D8 : Hid (Blk w8 gD 30 #[.int .i64 0, .int .i64 0, .int .i64 0, .bool false, .int .i64 0, .int .i64 0, .int .i64 0, .int .i64 0, .int .i64 0, .int .i64 0, .int .i64 0, .int .i64 0]) := Blk.below' D7.out hb
  have Y8 : Hid (By w8 w8.heap.size AB LB) := Rd.below' Y7.out hb hb.size
  have W8 : Hid (Below w.heap.size w w8) := below_step W7.out hb
  have q8 : w8.cell? ⟨gX, 0, none⟩ = some (.int .i64 k) ∧ w8.cell? ⟨gX, 1, none⟩ = some (.int .i64 a) ∧ w8.cell? ⟨gX, 2, none⟩ = some (.int .i64 s) ∧ w8.cell? ⟨gX, 3, none⟩ = some (.bool x) ∧ w8.cell? ⟨gX, 4, none⟩ = some (.int .i64 p) ∧ w8.cell? ⟨gX, 5, none⟩ = some (.int .i64 q) ∧ w8.cell? ⟨gX, 6, none⟩ = some (.int .i64 n) ∧ w8.cell? ⟨gX, 7, none⟩ = some (.int .i64 t) ∧ w8.cell? ⟨gX, 8, none⟩ = some (.int .i64 i) ∧ w8.cell? ⟨gX, 9, none⟩ = some (.int .i64 y) ∧ w8.cell? ⟨gX, 10, none⟩ = some (.int .i64 z) ∧ w8.cell? ⟨gX, 11, none⟩ = some (.int .i64 v) ∧ (convert 26 9 (.slice AB LB.length cB)).run Try.prog w8 = .ok (.string ⟨LB.toArray⟩) w8 := s13 K8.out Y8.out
  clear hb K7 D7 Y7 W7 q7
  rw [hR.out]
  go_wp2_with fail
  refine hK.out _ _ q8 (fun hHeld => ?_)
  clear hK K'
  (try simp only [Act.put, List.getElem_toArray, List.getElem_cons_succ, List.getElem_cons_zero, List.setIfInBounds_toArray, List.set_cons_zero, List.set_cons_succ])
  refine wpAnyH_ready (rs := [7]) (by kernel_rfl) (by simp) ?_
  refine AllReadyH.cons rfl (fun K' hK => ?_) AllReadyH.nil
  go_simp
  refine (rright_any ⟨k, a, s, x, p, q, n, t, i, y, z, v⟩ _).mono ?_
  rintro e w9 ⟨rfl, hb⟩
  have K9 : Hid (Blk w9 gX 25 #[.int .i64 k, .int .i64 a, .int .i64 s, .bool x, .int .i64 p, .int .i64 q, .int .i64 n, .int .i64 t, .int .i64 i, .int .i64 y, .int .i64 z, .int .i64 v]) := Blk.below' K8.out hb
  have D9 : Hid (Blk w9 gD 30 #[.int .i64 0, .int .i64 0, .int .i64 0, .bool false, .int .i64 0, .int .i64 0, .int .i64 0, .int .i64 0, .int .i64 0, .int .i64 0, .int .i64 0, .int .i64 0]) := Blk.below' D8.out hb
  have Y9 : Hid (By w9 w9.heap.size AB LB) := Rd.below' Y8.out hb hb.size
  have W9 : Hid (Below w.heap.size w w9) := below_step W8.out hb
  have q9 : w9.cell? ⟨gX, 0, none⟩ = some (.int .i64 k) ∧ w9.cell? ⟨gX, 1, none⟩ = some (.int .i64 a) ∧ w9.cell? ⟨gX, 2, none⟩ = some (.int .i64 s) ∧ w9.cell? ⟨gX, 3, none⟩ = some (.bool x) ∧ w9.cell? ⟨gX, 4, none⟩ = some (.int .i64 p) ∧ w9.cell? ⟨gX, 5, none⟩ = some (.int .i64 q) ∧ w9.cell? ⟨gX, 6, none⟩ = some (.int .i64 n) ∧ w9.cell? ⟨gX, 7, none⟩ = some (.int .i64 t) ∧ w9.cell? ⟨gX, 8, none⟩ = some (.int .i64 i) ∧ w9.cell? ⟨gX, 9, none⟩ = some (.int .i64 y) ∧ w9.cell? ⟨gX, 10, none⟩ = some (.int .i64 z) ∧ w9.cell? ⟨gX, 11, none⟩ = some (.int .i64 v) ∧ (convert 26 9 (.slice AB LB.length cB)).run Try.prog w9 = .ok (.string ⟨LB.toArray⟩) w9 := s13 K9.out Y9.out
  clear hb K8 D8 Y8 W8 q8
  rw [hR.out]
  go_wp2_with fail
  refine hK.out _ _ q9 (fun hHeld => ?_)
  clear hK K'
  (try simp only [Act.put, List.getElem_toArray, List.getElem_cons_succ, List.getElem_cons_zero, List.setIfInBounds_toArray, List.set_cons_zero, List.set_cons_succ])
  refine wpAnyH_take (i := 8) (v := ?_) rfl (by kernel_rfl) (by kernel_rfl) (by kernel_rfl) (fun _ _ _ h => h) (Or.inl ⟨by rfl, ?_⟩) (by assumption) ?_
  rotate_left
  · intro w' hSw
    (try dsimp only at hSw)
    go_simp
    try with_reducible rfl
  (try simp only [Act.put, List.getElem_toArray, List.getElem_cons_succ, List.getElem_cons_zero, List.setIfInBounds_toArray, List.set_cons_zero, List.set_cons_succ])
  refine wpAnyH_take (i := 9) (v := ?_) rfl (by kernel_rfl) (by kernel_rfl) (by kernel_rfl) (fun _ _ _ h => h) (Or.inl ⟨by rfl, ?_⟩) (by assumption) ?_
  rotate_left
  · intro w' hSw
    (try dsimp only at hSw)
    go_simp
    try with_reducible rfl
  (try simp only [Act.put, List.getElem_toArray, List.getElem_cons_succ, List.getElem_cons_zero, List.setIfInBounds_toArray, List.set_cons_zero, List.set_cons_succ])
  refine wpAnyH_take (i := 10) (v := ?_) rfl (by kernel_rfl) (by kernel_rfl) (by kernel_rfl) (fun _ _ _ h => h) (Or.inl ⟨by rfl, ?_⟩) (by assumption) ?_
  rotate_left
  · intro w' hSw
    (try dsimp only at hSw)
    go_simp
    try with_reducible rfl
  (try simp only [Act.put, List.getElem_toArray, List.getElem_cons_succ, List.getElem_cons_zero, List.setIfInBounds_toArray, List.set_cons_zero, List.set_cons_succ])
  refine wpAnyH_take (i := 11) (v := ?_) rfl (by kernel_rfl) (by kernel_rfl) (by kernel_rfl) (fun _ _ _ h => h) (Or.inl ⟨by rfl, ?_⟩) (by assumption) ?_
  rotate_left
  · intro w' hSw
    (try dsimp only at hSw)
    go_simp
    try with_reducible rfl
  (try simp only [Act.put, List.getElem_toArray, List.getElem_cons_succ, List.getElem_cons_zero, List.setIfInBounds_toArray, List.set_cons_zero, List.set_cons_succ])
  refine wpAnyH_take (i := 12) (v := ?_) rfl (by kernel_rfl) (by kernel_rfl) (by kernel_rfl) (fun _ _ _ h => h) (Or.inl ⟨by rfl, ?_⟩) (by assumption) ?_
  rotate_left
  · intro w' hSw
    (try dsimp only at hSw)
    go_simp
    try with_reducible rfl
  (try simp only [Act.put, List.getElem_toArray, List.getElem_cons_succ, List.getElem_cons_zero, List.setIfInBounds_toArray, List.set_cons_zero, List.set_cons_succ])
  refine wpAnyH_take (i := 13) (v := ?_) rfl (by kernel_rfl) (by kernel_rfl) (by kernel_rfl) (fun _ _ _ h => h) (Or.inl ⟨by rfl, ?_⟩) (by assumption) ?_
  rotate_left
  · intro w' hSw
    (try dsimp only at hSw)
    go_simp
    try with_reducible rfl
  (try simp only [Act.put, List.getElem_toArray, List.getElem_cons_succ, List.getElem_cons_zero, List.setIfInBounds_toArray, List.set_cons_zero, List.set_cons_succ])
  refine wpAnyH_ready (rs := [14]) (by kernel_rfl) (by simp) ?_
  refine AllReadyH.cons rfl (fun K' hK => ?_) AllReadyH.nil
  go_simp
  refine (rencode_any ⟨k, a, s, x, p, q, n, t, i, y, z, v⟩ _ hwf.out).mono ?_
  rw [HLB.out]
  rintro e w10 ⟨AE, cE, rfl, yE, hb⟩
  have K10 : Hid (Blk w10 gX 25 #[.int .i64 k, .int .i64 a, .int .i64 s, .bool x, .int .i64 p, .int .i64 q, .int .i64 n, .int .i64 t, .int .i64 i, .int .i64 y, .int .i64 z, .int .i64 v]) := Blk.below' K9.out hb
  have D10 : Hid (Blk w10 gD 30 #[.int .i64 0, .int .i64 0, .int .i64 0, .bool false, .int .i64 0, .int .i64 0, .int .i64 0, .int .i64 0, .int .i64 0, .int .i64 0, .int .i64 0, .int .i64 0]) := Blk.below' D9.out hb
  have Y10 : Hid (By w10 w10.heap.size AB LB) := Rd.below' Y9.out hb hb.size
  have W10 : Hid (Below w.heap.size w w10) := below_step W9.out hb
  have q10 : w10.cell? ⟨gX, 0, none⟩ = some (.int .i64 k) ∧ w10.cell? ⟨gX, 1, none⟩ = some (.int .i64 a) ∧ w10.cell? ⟨gX, 2, none⟩ = some (.int .i64 s) ∧ w10.cell? ⟨gX, 3, none⟩ = some (.bool x) ∧ w10.cell? ⟨gX, 4, none⟩ = some (.int .i64 p) ∧ w10.cell? ⟨gX, 5, none⟩ = some (.int .i64 q) ∧ w10.cell? ⟨gX, 6, none⟩ = some (.int .i64 n) ∧ w10.cell? ⟨gX, 7, none⟩ = some (.int .i64 t) ∧ w10.cell? ⟨gX, 8, none⟩ = some (.int .i64 i) ∧ w10.cell? ⟨gX, 9, none⟩ = some (.int .i64 y) ∧ w10.cell? ⟨gX, 10, none⟩ = some (.int .i64 z) ∧ w10.cell? ⟨gX, 11, none⟩ = some (.int .i64 v) ∧ (convert 26 9 (.slice AB LB.length cB)).run Try.prog w10 = .ok (.string ⟨LB.toArray⟩) w10 := s13 K10.out Y10.out
  have tC : (convert 26 9 (.slice AE LB.length cE)).run Try.prog w10 = .ok (.string ⟨LB.toArray⟩) w10 := text_any yE
  clear hb K9 D9 Y9 W9 q9
  go_wp2_with fail
  refine hK.out _ _ q10 (fun hHeld => ?_)
  clear hK K'
  (try simp only [Act.put, List.getElem_toArray, List.getElem_cons_succ, List.getElem_cons_zero, List.setIfInBounds_toArray, List.set_cons_zero, List.set_cons_succ])
  refine wpAnyH_ready (rs := [15]) (by kernel_rfl) (by simp) ?_
  refine AllReadyH.cons rfl (fun K' hK => ?_) AllReadyH.nil
  go_simp
  refine hK.out _ _ q10 (fun hHeld => ?_)
  clear hK K'
  (try simp only [Act.put, List.getElem_toArray, List.getElem_cons_succ, List.getElem_cons_zero, List.setIfInBounds_toArray, List.set_cons_zero, List.set_cons_succ])
  refine wpAnyH_take (i := 16) (v := ?_) rfl (by kernel_rfl) (by kernel_rfl) (by kernel_rfl) (fun _ _ _ h => h) (Or.inl ⟨by rfl, ?_⟩) (by assumption) ?_
  rotate_left
  · intro w' hSw
    (try dsimp only at hSw)
    go_simp
    try with_reducible rfl
  (try simp only [Act.put, List.getElem_toArray, List.getElem_cons_succ, List.getElem_cons_zero, List.setIfInBounds_toArray, List.set_cons_zero, List.set_cons_succ])
  refine wpAnyH_take (i := 17) (v := ?_) rfl (by kernel_rfl) (by kernel_rfl) (by kernel_rfl) (fun _ _ _ h => h) (Or.inl ⟨by rfl, ?_⟩) (by assumption) ?_
  rotate_left
  · intro w' hSw
    (try dsimp only at hSw)
    go_simp
    try with_reducible rfl
  (try simp only [Act.put, List.getElem_toArray, List.getElem_cons_succ, List.getElem_cons_zero, List.setIfInBounds_toArray, List.set_cons_zero, List.set_cons_succ])
  refine wpAnyH_take (i := 18) (v := ?_) rfl (by kernel_rfl) (by kernel_rfl) (by kernel_rfl) (fun _ _ _ h => h) (Or.inl ⟨by rfl, ?_⟩) (by assumption) ?_
  rotate_left
  · intro w' hSw
    (try dsimp only at hSw)
    go_simp
    try with_reducible rfl
  (try simp only [Act.put, List.getElem_toArray, List.getElem_cons_succ, List.getElem_cons_zero, List.setIfInBounds_toArray, List.set_cons_zero, List.set_cons_succ])
  refine wpAnyH_take (i := 19) (v := ?_) rfl (by kernel_rfl) (by kernel_rfl) (by kernel_rfl) (fun _ _ _ h => h) (Or.inl ⟨by rfl, ?_⟩) (by assumption) ?_
  rotate_left
  · intro w' hSw
    (try dsimp only at hSw)
    go_simp
    try with_reducible rfl
  (try simp only [Act.put, List.getElem_toArray, List.getElem_cons_succ, List.getElem_cons_zero, List.setIfInBounds_toArray, List.set_cons_zero, List.set_cons_succ])
  refine wpAnyH_take (i := 20) (v := ?_) rfl (by kernel_rfl) (by kernel_rfl) (by kernel_rfl) (fun _ _ _ h => h) (Or.inl ⟨by rfl, ?_⟩) (by assumption) ?_
  rotate_left
  · intro w' hSw
    (try dsimp only at hSw)
    go_simp
    try with_reducible rfl
  (try simp only [Act.put, List.getElem_toArray, List.getElem_cons_succ, List.getElem_cons_zero, List.setIfInBounds_toArray, List.set_cons_zero, List.set_cons_succ])
  refine wpAnyH_take (i := 21) (v := ?_) rfl (by kernel_rfl) (by kernel_rfl) (by kernel_rfl) (fun _ _ _ h => h) (Or.inl ⟨by rfl, ?_⟩) (by assumption) ?_
  rotate_left
  · intro w' hSw
    (try dsimp only at hSw)
    go_simp
    try with_reducible rfl
  (try simp only [Act.put, List.getElem_toArray, List.getElem_cons_succ, List.getElem_cons_zero, List.setIfInBounds_toArray, List.set_cons_zero, List.set_cons_succ])
  refine wpAnyH_take (i := 22) (v := ?_) rfl (by kernel_rfl) (by kernel_rfl) (by kernel_rfl) (fun _ _ _ h => h) (Or.inl ⟨by rfl, ?_⟩) (by assumption) ?_
  rotate_left
  · intro w' hSw
    (try dsimp only at hSw)
    go_simp
    try with_reducible rfl
  (try simp only [Act.put, List.getElem_toArray, List.getElem_cons_succ, List.getElem_cons_zero, List.setIfInBounds_toArray, List.set_cons_zero, List.set_cons_succ])
  refine wpAnyH_ready (rs := [23]) (by kernel_rfl) (by simp) ?_
  refine AllReadyH.cons rfl (fun K' hK => ?_) AllReadyH.nil
  go_simp
  refine (rright_any ⟨k, a, s, x, p, q, n, t, i, y, z, v⟩ _).mono ?_
  rintro e w11 ⟨rfl, hb⟩
  have K11 : Hid (Blk w11 gX 25 #[.int .i64 k, .int .i64 a, .int .i64 s, .bool x, .int .i64 p, .int .i64 q, .int .i64 n, .int .i64 t, .int .i64 i, .int .i64 y, .int .i64 z, .int .i64 v]) := Blk.below' K10.out hb
  have D11 : Hid (Blk w11 gD 30 #[.int .i64 0, .int .i64 0, .int .i64 0, .bool false, .int .i64 0, .int .i64 0, .int .i64 0, .int .i64 0, .int .i64 0, .int .i64 0, .int .i64 0, .int .i64 0]) := Blk.below' D10.out hb
  have Y11 : Hid (By w11 w11.heap.size AB LB) := Rd.below' Y10.out hb hb.size
  have W11 : Hid (Below w.heap.size w w11) := below_step W10.out hb
  have q11 : w11.cell? ⟨gX, 0, none⟩ = some (.int .i64 k) ∧ w11.cell? ⟨gX, 1, none⟩ = some (.int .i64 a) ∧ w11.cell? ⟨gX, 2, none⟩ = some (.int .i64 s) ∧ w11.cell? ⟨gX, 3, none⟩ = some (.bool x) ∧ w11.cell? ⟨gX, 4, none⟩ = some (.int .i64 p) ∧ w11.cell? ⟨gX, 5, none⟩ = some (.int .i64 q) ∧ w11.cell? ⟨gX, 6, none⟩ = some (.int .i64 n) ∧ w11.cell? ⟨gX, 7, none⟩ = some (.int .i64 t) ∧ w11.cell? ⟨gX, 8, none⟩ = some (.int .i64 i) ∧ w11.cell? ⟨gX, 9, none⟩ = some (.int .i64 y) ∧ w11.cell? ⟨gX, 10, none⟩ = some (.int .i64 z) ∧ w11.cell? ⟨gX, 11, none⟩ = some (.int .i64 v) ∧ (convert 26 9 (.slice AB LB.length cB)).run Try.prog w11 = .ok (.string ⟨LB.toArray⟩) w11 := s13 K11.out Y11.out
  clear hb K10 D10 Y10 W10 q10
  rw [hR.out]
  go_wp2_with fail
  refine hK.out _ _ q11 (fun hHeld => ?_)
  clear hK K'
  (try simp only [Act.put, List.getElem_toArray, List.getElem_cons_succ, List.getElem_cons_zero, List.setIfInBounds_toArray, List.set_cons_zero, List.set_cons_succ])
  refine wpAnyH_take (i := 24) (v := ?_) rfl (by kernel_rfl) (by kernel_rfl) (by kernel_rfl) (fun _ _ _ h => h) (Or.inl ⟨by rfl, ?_⟩) (by assumption) ?_
  rotate_left
  · intro w' hSw
    (try dsimp only at hSw)
    go_simp
    try with_reducible rfl
  (try simp only [Act.put, List.getElem_toArray, List.getElem_cons_succ, List.getElem_cons_zero, List.setIfInBounds_toArray, List.set_cons_zero, List.set_cons_succ])
  refine wpAnyH_take (i := 25) (v := ?_) rfl (by kernel_rfl) (by kernel_rfl) (by kernel_rfl) (fun _ _ _ h => h) (Or.inl ⟨by rfl, ?_⟩) (by assumption) ?_
  rotate_left
  · intro w' hSw
    (try dsimp only at hSw)
    go_simp
    try with_reducible rfl
  (try simp only [Act.put, List.getElem_toArray, List.getElem_cons_succ, List.getElem_cons_zero, List.setIfInBounds_toArray, List.set_cons_zero, List.set_cons_succ])
  refine wpAnyH_done (by kernel_rfl) ?_ _
  go_upto_region 5 with fail
  have B9 : Hid (Below w11.heap.size w11 w11.drew) := (Below.refl _ _).drew
  have K9 : Hid (Blk w11.drew gX 25 #[.int .i64 k, .int .i64 a, .int .i64 s, .bool x, .int .i64 p, .int .i64 q, .int .i64 n, .int .i64 t, .int .i64 i, .int .i64 y, .int .i64 z, .int .i64 v]) := Blk.below' K11.out B9.out
  have D9 : Hid (Blk w11.drew gD 30 #[.int .i64 0, .int .i64 0, .int .i64 0, .bool false, .int .i64 0, .int .i64 0, .int .i64 0, .int .i64 0, .int .i64 0, .int .i64 0, .int .i64 0, .int .i64 0]) := Blk.below' D11.out B9.out
  have W9 : Hid (Below w.heap.size w w11.drew) := below_step W11.out B9.out
  clear B9 q11 hHeld
  refine wp_region_held_drew (S := (fun _ => True)) (by kernel_rfl) trivial (fun hHeld => ?_)
  refine wpAnyH_take (i := 0) (v := ?_) rfl (by kernel_rfl) (by kernel_rfl) (by kernel_rfl) (fun _ _ _ h => h) (Or.inl ⟨by rfl, ?_⟩) (by assumption) ?_
  rotate_left
  · intro w' hSw
    (try dsimp only at hSw)
    go_simp
    try with_reducible rfl
  (try simp only [Act.put, List.getElem_toArray, List.getElem_cons_succ, List.getElem_cons_zero, List.setIfInBounds_toArray, List.set_cons_zero, List.set_cons_succ])
  refine wpAnyH_take (i := 1) (v := ?_) rfl (by kernel_rfl) (by kernel_rfl) (by kernel_rfl) (fun _ _ _ h => h) (Or.inl ⟨by rfl, ?_⟩) (by assumption) ?_
  rotate_left
  · intro w' hSw
    (try dsimp only at hSw)
    go_simp
    try with_reducible rfl
  (try simp only [Act.put, List.getElem_toArray, List.getElem_cons_succ, List.getElem_cons_zero, List.setIfInBounds_toArray, List.set_cons_zero, List.set_cons_succ])
  refine wpAnyH_take (i := 2) (v := ?_) rfl (by kernel_rfl) (by kernel_rfl) (by kernel_rfl) (fun _ _ _ h => h) (Or.inl ⟨by rfl, ?_⟩) (by assumption) ?_
  rotate_left
  · intro w' hSw
    (try dsimp only at hSw)
    go_simp
    try with_reducible rfl
  (try simp only [Act.put, List.getElem_toArray, List.getElem_cons_succ, List.getElem_cons_zero, List.setIfInBounds_toArray, List.set_cons_zero, List.set_cons_succ])
  refine wpAnyH_take (i := 3) (v := ?_) rfl (by kernel_rfl) (by kernel_rfl) (by kernel_rfl) (fun _ _ _ h => h) (Or.inl ⟨by rfl, ?_⟩) (by assumption) ?_
  rotate_left
  · intro w' hSw
    (try dsimp only at hSw)
    go_simp
    try with_reducible rfl
  (try simp only [Act.put, List.getElem_toArray, List.getElem_cons_succ, List.getElem_cons_zero, List.setIfInBounds_toArray, List.set_cons_zero, List.set_cons_succ])
  refine wpAnyH_take (i := 4) (v := undef) rfl (by kernel_rfl) (by kernel_rfl) (by kernel_rfl) (fun _ _ _ h => h) (Or.inr ⟨by rfl, rfl⟩) (by assumption) ?_
  (try simp only [Act.put, List.getElem_toArray, List.getElem_cons_succ, List.getElem_cons_zero, List.setIfInBounds_toArray, List.set_cons_zero, List.set_cons_succ])
  refine wpAnyH_take (i := 5) (v := undef) rfl (by kernel_rfl) (by kernel_rfl) (by kernel_rfl) (fun _ _ _ h => h) (Or.inr ⟨by rfl, rfl⟩) (by assumption) ?_
  (try simp only [Act.put, List.getElem_toArray, List.getElem_cons_succ, List.getElem_cons_zero, List.setIfInBounds_toArray, List.set_cons_zero, List.set_cons_succ])
  refine wpAnyH_take (i := 6) (v := undef) rfl (by kernel_rfl) (by kernel_rfl) (by kernel_rfl) (fun _ _ _ h => h) (Or.inr ⟨by rfl, rfl⟩) (by assumption) ?_
  (try simp only [Act.put, List.getElem_toArray, List.getElem_cons_succ, List.getElem_cons_zero, List.setIfInBounds_toArray, List.set_cons_zero, List.set_cons_succ])
  refine wpAnyH_take (i := 7) (v := undef) rfl (by kernel_rfl) (by kernel_rfl) (by kernel_rfl) (fun _ _ _ h => h) (Or.inr ⟨by rfl, rfl⟩) (by assumption) ?_
  (try simp only [Act.put, List.getElem_toArray, List.getElem_cons_succ, List.getElem_cons_zero, List.setIfInBounds_toArray, List.set_cons_zero, List.set_cons_succ])
  refine wpAnyH_take (i := 8) (v := undef) rfl (by kernel_rfl) (by kernel_rfl) (by kernel_rfl) (fun _ _ _ h => h) (Or.inr ⟨by rfl, rfl⟩) (by assumption) ?_
  (try simp only [Act.put, List.getElem_toArray, List.getElem_cons_succ, List.getElem_cons_zero, List.setIfInBounds_toArray, List.set_cons_zero, List.set_cons_succ])
  refine wpAnyH_take (i := 9) (v := undef) rfl (by kernel_rfl) (by kernel_rfl) (by kernel_rfl) (fun _ _ _ h => h) (Or.inr ⟨by rfl, rfl⟩) (by assumption) ?_
  (try simp only [Act.put, List.getElem_toArray, List.getElem_cons_succ, List.getElem_cons_zero, List.setIfInBounds_toArray, List.set_cons_zero, List.set_cons_succ])
  refine wpAnyH_take (i := 10) (v := undef) rfl (by kernel_rfl) (by kernel_rfl) (by kernel_rfl) (fun _ _ _ h => h) (Or.inr ⟨by rfl, rfl⟩) (by assumption) ?_
  (try simp only [Act.put, List.getElem_toArray, List.getElem_cons_succ, List.getElem_cons_zero, List.setIfInBounds_toArray, List.set_cons_zero, List.set_cons_succ])
  refine wpAnyH_take (i := 11) (v := undef) rfl (by kernel_rfl) (by kernel_rfl) (by kernel_rfl) (fun _ _ _ h => h) (Or.inr ⟨by rfl, rfl⟩) (by assumption) ?_
  (try simp only [Act.put, List.getElem_toArray, List.getElem_cons_succ, List.getElem_cons_zero, List.setIfInBounds_toArray, List.set_cons_zero, List.set_cons_succ])
  refine wpAnyH_take (i := 12) (v := undef) rfl (by kernel_rfl) (by kernel_rfl) (by kernel_rfl) (fun _ _ _ h => h) (Or.inr ⟨by rfl, rfl⟩) (by assumption) ?_
  (try simp only [Act.put, List.getElem_toArray, List.getElem_cons_succ, List.getElem_cons_zero, List.setIfInBounds_toArray, List.set_cons_zero, List.set_cons_succ])
  refine wpAnyH_take (i := 13) (v := undef) rfl (by kernel_rfl) (by kernel_rfl) (by kernel_rfl) (fun _ _ _ h => h) (Or.inr ⟨by rfl, rfl⟩) (by assumption) ?_
  (try simp only [Act.put, List.getElem_toArray, List.getElem_cons_succ, List.getElem_cons_zero, List.setIfInBounds_toArray, List.set_cons_zero, List.set_cons_succ])
  refine wpAnyH_take (i := 14) (v := undef) rfl (by kernel_rfl) (by kernel_rfl) (by kernel_rfl) (fun _ _ _ h => h) (Or.inr ⟨by rfl, rfl⟩) (by assumption) ?_
  (try simp only [Act.put, List.getElem_toArray, List.getElem_cons_succ, List.getElem_cons_zero, List.setIfInBounds_toArray, List.set_cons_zero, List.set_cons_succ])
  refine wpAnyH_take (i := 15) (v := undef) rfl (by kernel_rfl) (by kernel_rfl) (by kernel_rfl) (fun _ _ _ h => h) (Or.inr ⟨by rfl, rfl⟩) (by assumption) ?_
  (try simp only [Act.put, List.getElem_toArray, List.getElem_cons_succ, List.getElem_cons_zero, List.setIfInBounds_toArray, List.set_cons_zero, List.set_cons_succ])
  refine wpAnyH_take (i := 16) (v := undef) rfl (by kernel_rfl) (by kernel_rfl) (by kernel_rfl) (fun _ _ _ h => h) (Or.inr ⟨by rfl, rfl⟩) (by assumption) ?_
  (try simp only [Act.put, List.getElem_toArray, List.getElem_cons_succ, List.getElem_cons_zero, List.setIfInBounds_toArray, List.set_cons_zero, List.set_cons_succ])
  refine wpAnyH_take (i := 17) (v := ?_) rfl (by kernel_rfl) (by kernel_rfl) (by kernel_rfl) (fun _ _ _ h => h) (Or.inl ⟨by rfl, ?_⟩) (by assumption) ?_
  rotate_left
  · intro w' hSw
    (try dsimp only at hSw)
    go_simp
    try with_reducible rfl
  (try simp only [Act.put, List.getElem_toArray, List.getElem_cons_succ, List.getElem_cons_zero, List.setIfInBounds_toArray, List.set_cons_zero, List.set_cons_succ])
  refine wpAnyH_take (i := 18) (v := ?_) rfl (by kernel_rfl) (by kernel_rfl) (by kernel_rfl) (fun _ _ _ h => h) (Or.inl ⟨by rfl, ?_⟩) (by assumption) ?_
  rotate_left
  · intro w' hSw
    (try dsimp only at hSw)
    go_simp
    try with_reducible rfl
  (try simp only [Act.put, List.getElem_toArray, List.getElem_cons_succ, List.getElem_cons_zero, List.setIfInBounds_toArray, List.set_cons_zero, List.set_cons_succ])
  refine wpAnyH_done (by kernel_rfl) ?_ _
  go_wp2_with fail
  go_ret
  exact madeB_mk rfl W9.out
theorem inner (k a s p q n t i y z v : Int) (x : Bool) (w : World) (hwf : WfM ⟨k, a, s, x, p, q, n, t, i, y, z, v⟩) : Calls Try.prog 3 #[.agg #[.int .i64 k, .int .i64 a, .int .i64 s, .bool x, .int .i64 p, .int .i64 q, .int .i64 n, .int .i64 t, .int .i64 i, .int .i64 y, .int .i64 z, .int .i64 v]] w (MadeB true w) := by
  cases hR : rightM ⟨k, a, s, x, p, q, n, t, i, y, z, v⟩ with
  | true => exact inner_t k a s p q n t i y z v x w hwf hR
  | false => exact inner_f k a s p q n t i y z v x w hwf hR

set_option maxRecDepth 100000 in
theorem lifted (os : Os) (started : os.Started) (H : Type) (enc : TypeId × Value → H) :
    ReturnsInHanded {} Try.checked os 3 .any (Rows.wireEncodesSpec.pre6 enc Try.prog Try.f3 Rows.wireEncodesRow.domain false) (Rows.wireEncodesSpec.post enc Try.prog Try.f3 false true false false) := by
  refine returnsInHanded_of_change (C := Try.checked) own started (by kernel_rfl) Try.func3
    (ChangeSpec.witness6 (enc := enc) (C := Try.checked) false ⟨#[], #[.agg #[.int .i64 0, .int .i64 0, .int .i64 0, .bool false, .int .i64 0, .int .i64 0, .int .i64 0, .int .i64 0, .int .i64 0, .int .i64 0, .int .i64 0, .int .i64 0]], []⟩ 8 (by kernel_rfl) (by kernel_rfl) (by kernel_rfl) (by kernel_rfl)) ?_
  intro W base args ds gs before hval0 hW hcnd _
  have hval : ∀ (j : Nat) t v, Try.f3.params[j]? = some t → args[j]? = some v → Value.okWide Try.prog W .any base t v := hval0
  have hW' := hW
  obtain ⟨p, q, hA0, hV, rfl, hfz, hnd⟩ := hW
  have hA : DataW.TrodAll enc Try.prog W 0 (fun _ => true) true Try.f3.params.toList args.toList ds p := hA0
  rw [Try.params3] at hA hval
  obtain ⟨v0, d0, rfl, rfl, h0⟩ := trodAll_one hA
  obtain ⟨m, rfl, hwf⟩ := open_msg (hval 0 _ v0 rfl rfl) h0
  obtain ⟨k, a, s, x, p, q, n, t, i, y, z, v⟩ := m
  refine (inner k a s p q n t i y z v x W hwf).mono fun e W' ⟨he, hb⟩ => ?_
  subst he
  exact ⟨_, rfl, law_post hW' rfl rfl rfl rfl (by kernel_rfl) Try.underlying4 (by rw [Try.params3]; simp only [List.mem_cons, List.not_mem_nil, or_false, forall_eq]; exact ⟨by kernel_rfl, of_decide_eq_true (by kernel_rfl)⟩) laidOut hb⟩

theorem over : Rows.wireEncodesRow.holds Try.pinned (OpenSpec.ofChange Rows.wireEncodesSpec) :=
  OpenClaim.holds_of_wide 3 Try.f3 rfl rfl rfl rfl rfl rfl rfl ⟨rfl, rfl, rfl, rfl, rfl⟩ rfl rfl rfl rfl rfl (by kernel_rfl) Try.func3 (by kernel_rfl)
    (of_decide_eq_true (by kernel_rfl)) (by unfold Func.isWrapper; first | (rw [if_pos (by decide +kernel)]; kernel_rfl) | (rw [if_neg (by decide +kernel)]; exact ⟨rfl, rfl⟩))
    (fun os started H enc _ => lifted os started H enc)

theorem proved : Rows.WireEncodesSaid := over
#print axioms proved
end Go.Proofs.Ytebnjhfmlihjcaa.wireEncodes
