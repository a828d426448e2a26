/- Contract: wire's Decode. Condition: the bytes lie in memory. -/
import Derived.Test.YtkobldddiedmdaaWdp
namespace Go.Proofs.Ytkobldddiedmdaa.Wde
set_option maxRecDepth 100000
open Go.ChangeShapes Go.WideShapes Go.ChangeAt Go.RowKit Mem Tre Ref3 Law3 Fix3 CrdB CrdC Rr4 Wpl Wmr Wrt St7 Rul6 Wen Wtk Wrd Wfi Wdp
set_option linter.unusedVariables false
set_option linter.unusedSimpArgs false

theorem not_u8 {W : World} {g j : Nat} {te : TypeId} {y : Int} (h : Blk W g te #[.int .i64 0, .int .i64 0, .int .i64 0, .bool false, .int .i64 0, .int .i64 0, .int .i64 0, .int .i64 0, .int .i64 0, .int .i64 0, .int .i64 0, .int .i64 0]) (hc : W.cell? ⟨g, j, none⟩ = some (.int .u8 y)) : False := by
  rw [h.cell] at hc
  match j, hc with
  | 0, hc | 1, hc | 2, hc | 3, hc | 4, hc | 5, hc | 6, hc | 7, hc | 8, hc | 9, hc | 10, hc | 11, hc => simp at hc
  | j + 12, hc => simp at hc
theorem st12_heap {W : World} {g : Nat} {q0 q1 q2 q3 q4 q5 q6 q7 q8 q9 q10 q11 : Value} {k : Nat} (hne : k ≠ g) : (st12 W g q0 q1 q2 q3 q4 q5 q6 q7 q8 q9 q10 q11).heap[k]? = W.heap[k]? := by
  unfold st12
  iterate 12 rw [Below.heap_setCell _ _ _ k (by exact hne)]
theorem st12_cell {W : World} {g : Nat} {q0 q1 q2 q3 q4 q5 q6 q7 q8 q9 q10 q11 : Value} {q : Addr} (hne : q.block ≠ g) : (st12 W g q0 q1 q2 q3 q4 q5 q6 q7 q8 q9 q10 q11).cell? q = W.cell? q := World.cell?_of_block (st12_heap hne)
theorem st12_own {W : World} {g base : Nat} {e : TypeId} {size n : Nat} {v : Value} {xs : List Value} {q0 q1 q2 q3 q4 q5 q6 q7 q8 q9 q10 q11 : Value} (h : W.ownsRow base e size v n xs) (hg : g < base) : (st12 W g q0 q1 q2 q3 q4 q5 q6 q7 q8 q9 q10 q11).ownsRow base e size v n xs := by
  unfold st12
  iterate 12 refine ownsRow_setCell_below ?_ (by exact hg) _
  exact h
def MadeDe (l : List UInt8) (w : World) (e : Ending) (w' : World) : Prop :=
  (okD l ∧ ∃ A c, e = .returned (.tuple #[mvl (msgD l), .slice A (l.drop (lenK (fld l 0 1))).length c, .int .i64 0]) ∧ By w' w'.heap.size A (l.drop (lenK (fld l 0 1))) ∧ Below w.heap.size w w') ∨
  (¬ okD l ∧ e = .returned (.tuple #[mvl m0, .slice none 0 0, .int .i64 1]) ∧ Below w.heap.size w w')
theorem de_fin {w W : World} {l l1 : List UInt8} {m : M} {A5 : Option Addr} {c5 base : Nat} (hok : okD l ∧ m = msgD l ∧ l1 = l.drop (lenK (fld l 0 1))) (ho : W.ownsRow base 5 1 (.slice A5 l1.length c5) l1.length ([] ++ bts l1)) (hb : Below w.heap.size w W) :
    MadeDe l w (.returned (.tuple #[mvl m, .slice A5 l1.length c5, .int .i64 0])) W := by
  obtain ⟨h1, h2, h3⟩ := hok
  subst h2
  subst h3
  exact .inl ⟨h1, A5, c5, rfl, Rd.of_own ho, hb⟩
set_option maxHeartbeats 8000000 in
theorem decode_any (A : Option Addr) (c : Nat) (l : List UInt8) (w : World) (hl : l.length ≤ 1000000) (hlc : l.length ≤ c) (hc : (c : Int) ≤ 9223372036854775807) (hr : Hid (By w w.heap.size A l)) :
    Calls Try.prog 16 #[.slice A l.length c] w (MadeDe l w) := by
  obtain ⟨i0, hi, hz0, hz1, hz2⟩ := info_parts u8_info
  have b0 : Hid (Below w.heap.size w (w.alloc (.cells #[.int .i64 0, .int .i64 0, .int .i64 0, .bool false, .int .i64 0, .int .i64 0, .int .i64 0, .int .i64 0, .int .i64 0, .int .i64 0, .int .i64 0, .int .i64 0] 28))) := (Below.refl _ _).alloc (Nat.le_refl _) _
  have k0 : Hid (Blk (w.alloc (.cells #[.int .i64 0, .int .i64 0, .int .i64 0, .bool false, .int .i64 0, .int .i64 0, .int .i64 0, .int .i64 0, .int .i64 0, .int .i64 0, .int .i64 0, .int .i64 0] 28)) w.heap.size 28 #[.int .i64 0, .int .i64 0, .int .i64 0, .bool false, .int .i64 0, .int .i64 0, .int .i64 0, .int .i64 0, .int .i64 0, .int .i64 0, .int .i64 0, .int .i64 0]) := Blk.fresh _ _ _
  have r0 : Hid (By (w.alloc (.cells #[.int .i64 0, .int .i64 0, .int .i64 0, .bool false, .int .i64 0, .int .i64 0, .int .i64 0, .int .i64 0, .int .i64 0, .int .i64 0, .int .i64 0, .int .i64 0] 28)) (w.alloc (.cells #[.int .i64 0, .int .i64 0, .int .i64 0, .bool false, .int .i64 0, .int .i64 0, .int .i64 0, .int .i64 0, .int .i64 0, .int .i64 0, .int .i64 0, .int .i64 0] 28)).heap.size A l) := Rd.below' hr.out ((Below.refl _ _).alloc (Nat.le_refl _) _) (by simp)
  go_enter Try.func16, Try.ntmps16
  go_wp2_with fail
  refine (first_any _ A c l _ hl hlc hc (Nat.le_refl _) r0).mono ?_
  rintro e w1 ⟨m, l1, bad, A1, c1, hF, rfl, hby, h1, h2, h3, hb1⟩
  have hd := Lib.hid (fir_dec hF)
  have b1 : Hid (Below w.heap.size w w1) := below_step b0.out hb1
  have k1 : Hid (Blk w1 w.heap.size 28 #[.int .i64 0, .int .i64 0, .int .i64 0, .bool false, .int .i64 0, .int .i64 0, .int .i64 0, .int .i64 0, .int .i64 0, .int .i64 0, .int .i64 0, .int .i64 0]) := Blk.below' k0.out hb1
  have q1 : Hid (By w1 w1.heap.size A1 l1) := Rd.more hby (by have := hb1.size; omega)
  clear b0 k0 r0 hb1 hF hby
  obtain ⟨k, a, s, x, p, q, n, t, i, y, z, v⟩ := m
  rw [show mvl ⟨k, a, s, x, p, q, n, t, i, y, z, v⟩ = .agg #[.int .i64 k, .int .i64 a, .int .i64 s, .bool x, .int .i64 p, .int .i64 q, .int .i64 n, .int .i64 t, .int .i64 i, .int .i64 y, .int .i64 z, .int .i64 v] from rfl]
  have M2 : Hid (Blk (w1.alloc (.cells #[.int .i64 k, .int .i64 a, .int .i64 s, .bool x, .int .i64 p, .int .i64 q, .int .i64 n, .int .i64 t, .int .i64 i, .int .i64 y, .int .i64 z, .int .i64 v] 28)) w1.heap.size 28 #[.int .i64 k, .int .i64 a, .int .i64 s, .bool x, .int .i64 p, .int .i64 q, .int .i64 n, .int .i64 t, .int .i64 i, .int .i64 y, .int .i64 z, .int .i64 v]) := Blk.fresh _ _ _
  have K2 : Hid (Blk (w1.alloc (.cells #[.int .i64 k, .int .i64 a, .int .i64 s, .bool x, .int .i64 p, .int .i64 q, .int .i64 n, .int .i64 t, .int .i64 i, .int .i64 y, .int .i64 z, .int .i64 v] 28)) w.heap.size 28 #[.int .i64 0, .int .i64 0, .int .i64 0, .bool false, .int .i64 0, .int .i64 0, .int .i64 0, .int .i64 0, .int .i64 0, .int .i64 0, .int .i64 0, .int .i64 0]) := k1.out.alloc _
  have B2 : Hid (Below w.heap.size w (w1.alloc (.cells #[.int .i64 k, .int .i64 a, .int .i64 s, .bool x, .int .i64 p, .int .i64 q, .int .i64 n, .int .i64 t, .int .i64 i, .int .i64 y, .int .i64 z, .int .i64 v] 28))) := b1.out.alloc b1.out.size _
  have Q2 : Hid (By (w1.alloc (.cells #[.int .i64 k, .int .i64 a, .int .i64 s, .bool x, .int .i64 p, .int .i64 q, .int .i64 n, .int .i64 t, .int .i64 i, .int .i64 y, .int .i64 z, .int .i64 v] 28)) w1.heap.size A1 l1) := Rd.keep q1.out (fun p hp => World.cell?_alloc_lt _ _ _ hp)
  have hgM : Hid (w.heap.size < w1.heap.size) := k1.out.lt
  have hs2 : Hid ((w1.alloc (.cells #[.int .i64 k, .int .i64 a, .int .i64 s, .bool x, .int .i64 p, .int .i64 q, .int .i64 n, .int .i64 t, .int .i64 i, .int .i64 y, .int .i64 z, .int .i64 v] 28)).heap.size = w1.heap.size + 1) := by show _ = _; simp
  clear b1 k1 q1
  go_upto_region 2 with fail
  generalize w1.alloc (.cells #[.int .i64 k, .int .i64 a, .int .i64 s, .bool x, .int .i64 p, .int .i64 q, .int .i64 n, .int .i64 t, .int .i64 i, .int .i64 y, .int .i64 z, .int .i64 v] 28) = w2 at M2 K2 B2 Q2 hs2 ⊢
  generalize w1.heap.size = gM at M2 Q2 hgM hs2 ⊢
  have hgb : Hid (w.heap.size ≤ gM) := by show _ ≤ _; have := hgM.out; omega
  have n1 : w.heap.size ≠ gM := by have := hgM.out; omega
  have n2 : gM ≠ w.heap.size := by have := hgM.out; omega
  generalize hgR : w.heap.size = gR at K2 n1 n2 ⊢
  have HG := Lib.hid hgR
  clear hgR
  obtain ⟨i0, i1, i2, i3, i4, i5, i6, i7, i8, i9, i10, i11⟩ := c12_of M2.out
  obtain ⟨z0, z1, z2, z3, z4, z5, z6, z7, z8, z9, z10, z11, y0, y1, y2, y3, y4, y5, y6, y7, y8, y9, y10, y11⟩ := z12_of K2.out
  cases bad with
  | true =>
    have hno : Hid (¬ okD l) := fun h => absurd (hd.out.2 h) (by decide)
    have f3 : Blk (st12 w2 gR (.int .i64 0) (.int .i64 0) (.int .i64 0) (.bool false) (.int .i64 0) (.int .i64 0) (.int .i64 0) (.int .i64 0) (.int .i64 0) (.int .i64 0) (.int .i64 0) (.int .i64 0)) gR 28 #[.int .i64 0, .int .i64 0, .int .i64 0, .bool false, .int .i64 0, .int .i64 0, .int .i64 0, .int .i64 0, .int .i64 0, .int .i64 0, .int .i64 0, .int .i64 0] := st12_blk K2.out
    have f2 : Below w.heap.size w (st12 w2 gR (.int .i64 0) (.int .i64 0) (.int .i64 0) (.bool false) (.int .i64 0) (.int .i64 0) (.int .i64 0) (.int .i64 0) (.int .i64 0) (.int .i64 0) (.int .i64 0) (.int .i64 0)) := st12_below B2.out (by rw [HG.out]; omega)
    have hfin : MadeDe l w (.returned (.tuple #[.agg #[.int .i64 0, .int .i64 0, .int .i64 0, .bool false, .int .i64 0, .int .i64 0, .int .i64 0, .int .i64 0, .int .i64 0, .int .i64 0, .int .i64 0, .int .i64 0], .slice none 0 0, .int .i64 1])) (st12 w2 gR (.int .i64 0) (.int .i64 0) (.int .i64 0) (.bool false) (.int .i64 0) (.int .i64 0) (.int .i64 0) (.int .i64 0) (.int .i64 0) (.int .i64 0) (.int .i64 0) (.int .i64 0)) := .inr ⟨hno.out, rfl, f2⟩
    clear f2
    go_wp2_with fail
    obtain ⟨d0, d1, d2, d3, d4, d5, d6, d7, d8, d9, d10, d11⟩ := c12_of f3
    unfold st12 at d0 d1 d2 d3 d4 d5 d6 d7 d8 d9 d10 d11 hfin
    exact bodyPost_ret (v := .tuple #[.agg #[.int .i64 0, .int .i64 0, .int .i64 0, .bool false, .int .i64 0, .int .i64 0, .int .i64 0, .int .i64 0, .int .i64 0, .int .i64 0, .int .i64 0, .int .i64 0], .slice none 0 0, .int .i64 1]) (by simp [results, Try.results16, go_sem, d0, d1, d2, d3, d4, d5, d6, d7, d8, d9, d10, d11]) rfl hfin
  | false =>
    have hok := Lib.hid (hd.out.1 rfl)
    clear hd
    go_upto_region 4 with fail
    have hsz : gM + 1 ≤ w2.drew.heap.size := by show _ ≤ w2.heap.size; rw [hs2.out]; omega
    have howa : Hid (w2.drew.ownsRow (gM + 1) 5 1 (.slice none 0 0) 0 []) := World.ownsRow_nil _ _ _ _
    have howb : Hid ((st12 w2.drew gR (.int .i64 k) (.int .i64 a) (.int .i64 s) (.bool x) (.int .i64 p) (.int .i64 q) (.int .i64 n) (.int .i64 t) (.int .i64 i) (.int .i64 y) (.int .i64 z) (.int .i64 v)).ownsRow (gM + 1) 5 1 (.slice none 0 0) 0 []) := World.ownsRow_nil _ _ _ _
    have hrda : Hid (Rd w2.drew gM A1 (bts l1)) := Q2
    have hrdb : Hid (Rd (st12 w2.drew gR (.int .i64 k) (.int .i64 a) (.int .i64 s) (.bool x) (.int .i64 p) (.int .i64 q) (.int .i64 n) (.int .i64 t) (.int .i64 i) (.int .i64 y) (.int .i64 z) (.int .i64 v)) gM A1 (bts l1)) := by
      rcases Q2.out with h | ⟨b, o, hA, hb, hcc⟩
      · exact .inl h
      · refine .inr ⟨b, o, hA, hb, fun j u hu => ?_⟩
        have hk := hcc j u hu
        have hne : b ≠ gR := by
          rintro rfl
          have hbt : ∃ y : UInt8, u = .int .u8 (y.toNat : Int) := by
            have hm := List.mem_of_getElem? hu
            simp only [bts, List.mem_map] at hm
            obtain ⟨y, _, rfl⟩ := hm
            exact ⟨y, rfl⟩
          obtain ⟨y, rfl⟩ := hbt
          exact not_u8 K2.out hk
        exact (st12_cell (q := ⟨b, o + j, none⟩) hne).trans hk
    have fB : Hid (Blk (st12 w2.drew gR (.int .i64 k) (.int .i64 a) (.int .i64 s) (.bool x) (.int .i64 p) (.int .i64 q) (.int .i64 n) (.int .i64 t) (.int .i64 i) (.int .i64 y) (.int .i64 z) (.int .i64 v)) gR 28 #[.int .i64 k, .int .i64 a, .int .i64 s, .bool x, .int .i64 p, .int .i64 q, .int .i64 n, .int .i64 t, .int .i64 i, .int .i64 y, .int .i64 z, .int .i64 v]) := st12_blk (show Blk w2.drew gR 28 #[.int .i64 0, .int .i64 0, .int .i64 0, .bool false, .int .i64 0, .int .i64 0, .int .i64 0, .int .i64 0, .int .i64 0, .int .i64 0, .int .i64 0, .int .i64 0] from K2.out)
    have fM : Hid (Blk (st12 w2.drew gR (.int .i64 k) (.int .i64 a) (.int .i64 s) (.bool x) (.int .i64 p) (.int .i64 q) (.int .i64 n) (.int .i64 t) (.int .i64 i) (.int .i64 y) (.int .i64 z) (.int .i64 v)) gM 28 #[.int .i64 k, .int .i64 a, .int .i64 s, .bool x, .int .i64 p, .int .i64 q, .int .i64 n, .int .i64 t, .int .i64 i, .int .i64 y, .int .i64 z, .int .i64 v]) := st12_far (show Blk w2.drew gM 28 #[.int .i64 k, .int .i64 a, .int .i64 s, .bool x, .int .i64 p, .int .i64 q, .int .i64 n, .int .i64 t, .int .i64 i, .int .i64 y, .int .i64 z, .int .i64 v] from M2.out) n2
    have fL : Hid (Below w.heap.size w (st12 w2.drew gR (.int .i64 k) (.int .i64 a) (.int .i64 s) (.bool x) (.int .i64 p) (.int .i64 q) (.int .i64 n) (.int .i64 t) (.int .i64 i) (.int .i64 y) (.int .i64 z) (.int .i64 v))) := st12_below B2.out.drew (by rw [HG.out]; omega)
    have hsb : gM + 1 ≤ (st12 w2.drew gR (.int .i64 k) (.int .i64 a) (.int .i64 s) (.bool x) (.int .i64 p) (.int .i64 q) (.int .i64 n) (.int .i64 t) (.int .i64 i) (.int .i64 y) (.int .i64 z) (.int .i64 v)).heap.size := by rw [st12_size]; exact hsz
    unfold st12 at howb hrdb fB fM fL hsb
    have sM : w2.cell? ⟨gM, 0, none⟩ = some (.int .i64 k) ∧ w2.cell? ⟨gM, 1, none⟩ = some (.int .i64 a) ∧ w2.cell? ⟨gM, 2, none⟩ = some (.int .i64 s) ∧ w2.cell? ⟨gM, 3, none⟩ = some (.bool x) ∧ w2.cell? ⟨gM, 4, none⟩ = some (.int .i64 p) ∧ w2.cell? ⟨gM, 5, none⟩ = some (.int .i64 q) ∧ w2.cell? ⟨gM, 6, none⟩ = some (.int .i64 n) ∧ w2.cell? ⟨gM, 7, none⟩ = some (.int .i64 t) ∧ w2.cell? ⟨gM, 8, none⟩ = some (.int .i64 i) ∧ w2.cell? ⟨gM, 9, none⟩ = some (.int .i64 y) ∧ w2.cell? ⟨gM, 10, none⟩ = some (.int .i64 z) ∧ w2.cell? ⟨gM, 11, none⟩ = some (.int .i64 v) := c12_of M2.out
    clear i0 i1 i2 i3 i4 i5 i6 i7 i8 i9 i10 i11
    go_region_held3 (fun w' => w'.cell? ⟨gM, 0, none⟩ = some (.int .i64 k) ∧ w'.cell? ⟨gM, 1, none⟩ = some (.int .i64 a) ∧ w'.cell? ⟨gM, 2, none⟩ = some (.int .i64 s) ∧ w'.cell? ⟨gM, 3, none⟩ = some (.bool x) ∧ w'.cell? ⟨gM, 4, none⟩ = some (.int .i64 p) ∧ w'.cell? ⟨gM, 5, none⟩ = some (.int .i64 q) ∧ w'.cell? ⟨gM, 6, none⟩ = some (.int .i64 n) ∧ w'.cell? ⟨gM, 7, none⟩ = some (.int .i64 t) ∧ w'.cell? ⟨gM, 8, none⟩ = some (.int .i64 i) ∧ w'.cell? ⟨gM, 9, none⟩ = some (.int .i64 y) ∧ w'.cell? ⟨gM, 10, none⟩ = some (.int .i64 z) ∧ w'.cell? ⟨gM, 11, none⟩ = some (.int .i64 v))
      (first | go_keep | (with_reducible assumption) | (exact q5))
      (first
        | (refine step_appG (nm := l1.length) howa hrda (by simp) rfl _ _ _ rfl i0 (.int .u8 0) 1 Try.underlying23 hi hz0 hz1 hz2 rfl (by decide) rfl rfl (by rw [bts_len]; simp) (bts_one l1) (by unfold maxLen; omega) (by omega) hsz ?_; intro A5 c5 w5 hown5 hgr5; have K5 : Hid (Blk w5 gR 28 #[.int .i64 0, .int .i64 0, .int .i64 0, .bool false, .int .i64 0, .int .i64 0, .int .i64 0, .int .i64 0, .int .i64 0, .int .i64 0, .int .i64 0, .int .i64 0]) := Blk_grown (show Blk w2.drew gR 28 #[.int .i64 0, .int .i64 0, .int .i64 0, .bool false, .int .i64 0, .int .i64 0, .int .i64 0, .int .i64 0, .int .i64 0, .int .i64 0, .int .i64 0, .int .i64 0] from K2.out) hgr5 (by simp [Value.ownBlock]); have B5 : Hid (Below w.heap.size w w5) := Below.grown B2.out.drew hgr5 B2.out.drew.size (by simp [Value.ownBlock]); have q5 : w5.cell? ⟨gM, 0, none⟩ = some (.int .i64 k) ∧ w5.cell? ⟨gM, 1, none⟩ = some (.int .i64 a) ∧ w5.cell? ⟨gM, 2, none⟩ = some (.int .i64 s) ∧ w5.cell? ⟨gM, 3, none⟩ = some (.bool x) ∧ w5.cell? ⟨gM, 4, none⟩ = some (.int .i64 p) ∧ w5.cell? ⟨gM, 5, none⟩ = some (.int .i64 q) ∧ w5.cell? ⟨gM, 6, none⟩ = some (.int .i64 n) ∧ w5.cell? ⟨gM, 7, none⟩ = some (.int .i64 t) ∧ w5.cell? ⟨gM, 8, none⟩ = some (.int .i64 i) ∧ w5.cell? ⟨gM, 9, none⟩ = some (.int .i64 y) ∧ w5.cell? ⟨gM, 10, none⟩ = some (.int .i64 z) ∧ w5.cell? ⟨gM, 11, none⟩ = some (.int .i64 v) := c12_of (Blk_grown (show Blk w2.drew gM 28 #[.int .i64 k, .int .i64 a, .int .i64 s, .bool x, .int .i64 p, .int .i64 q, .int .i64 n, .int .i64 t, .int .i64 i, .int .i64 y, .int .i64 z, .int .i64 v] from M2.out) hgr5 (by simp [Value.ownBlock])); have ⟨z0, z1, z2, z3, z4, z5, z6, z7, z8, z9, z10, z11, y0, y1, y2, y3, y4, y5, y6, y7, y8, y9, y10, y11⟩ := z12_of K5.out)
        | (refine step_appG (nm := l1.length) howb hrdb (by simp) rfl _ _ _ rfl i0 (.int .u8 0) 1 Try.underlying23 hi hz0 hz1 hz2 rfl (by decide) rfl rfl (by rw [bts_len]; simp) (bts_one l1) (by unfold maxLen; omega) (by omega) hsb ?_; intro A5 c5 w5 hown5 hgr5; have F5 : Hid (Blk w5 gR 28 #[.int .i64 k, .int .i64 a, .int .i64 s, .bool x, .int .i64 p, .int .i64 q, .int .i64 n, .int .i64 t, .int .i64 i, .int .i64 y, .int .i64 z, .int .i64 v]) := Blk_grown fB.out hgr5 (by simp [Value.ownBlock]); have L5 : Hid (Below w.heap.size w w5) := Below.grown fL.out hgr5 fL.out.size (by simp [Value.ownBlock]); have q5 : w5.cell? ⟨gM, 0, none⟩ = some (.int .i64 k) ∧ w5.cell? ⟨gM, 1, none⟩ = some (.int .i64 a) ∧ w5.cell? ⟨gM, 2, none⟩ = some (.int .i64 s) ∧ w5.cell? ⟨gM, 3, none⟩ = some (.bool x) ∧ w5.cell? ⟨gM, 4, none⟩ = some (.int .i64 p) ∧ w5.cell? ⟨gM, 5, none⟩ = some (.int .i64 q) ∧ w5.cell? ⟨gM, 6, none⟩ = some (.int .i64 n) ∧ w5.cell? ⟨gM, 7, none⟩ = some (.int .i64 t) ∧ w5.cell? ⟨gM, 8, none⟩ = some (.int .i64 i) ∧ w5.cell? ⟨gM, 9, none⟩ = some (.int .i64 y) ∧ w5.cell? ⟨gM, 10, none⟩ = some (.int .i64 z) ∧ w5.cell? ⟨gM, 11, none⟩ = some (.int .i64 v) := c12_of (Blk_grown fM.out hgr5 (by simp [Value.ownBlock]))))
    · have fA : Blk (st12 w5 gR (.int .i64 k) (.int .i64 a) (.int .i64 s) (.bool x) (.int .i64 p) (.int .i64 q) (.int .i64 n) (.int .i64 t) (.int .i64 i) (.int .i64 y) (.int .i64 z) (.int .i64 v)) gR 28 #[.int .i64 k, .int .i64 a, .int .i64 s, .bool x, .int .i64 p, .int .i64 q, .int .i64 n, .int .i64 t, .int .i64 i, .int .i64 y, .int .i64 z, .int .i64 v] := st12_blk K5.out
      have hfin : MadeDe l w (.returned (.tuple #[.agg #[.int .i64 k, .int .i64 a, .int .i64 s, .bool x, .int .i64 p, .int .i64 q, .int .i64 n, .int .i64 t, .int .i64 i, .int .i64 y, .int .i64 z, .int .i64 v], .slice A5 l1.length c5, .int .i64 0])) (st12 w5 gR (.int .i64 k) (.int .i64 a) (.int .i64 s) (.bool x) (.int .i64 p) (.int .i64 q) (.int .i64 n) (.int .i64 t) (.int .i64 i) (.int .i64 y) (.int .i64 z) (.int .i64 v)) := de_fin hok.out (st12_own hown5.out (by rw [← HG.out]; have := hgM.out; omega)) (st12_below B5.out (by rw [HG.out]; omega))
      go_wp2_with fail
      obtain ⟨d0, d1, d2, d3, d4, d5, d6, d7, d8, d9, d10, d11⟩ := c12_of fA
      unfold st12 at d0 d1 d2 d3 d4 d5 d6 d7 d8 d9 d10 d11 hfin
      exact bodyPost_ret (v := .tuple #[.agg #[.int .i64 k, .int .i64 a, .int .i64 s, .bool x, .int .i64 p, .int .i64 q, .int .i64 n, .int .i64 t, .int .i64 i, .int .i64 y, .int .i64 z, .int .i64 v], .slice A5 l1.length c5, .int .i64 0]) (by simp [results, Try.results16, go_sem, d0, d1, d2, d3, d4, d5, d6, d7, d8, d9, d10, d11]) rfl hfin
end Go.Proofs.Ytkobldddiedmdaa.Wde
