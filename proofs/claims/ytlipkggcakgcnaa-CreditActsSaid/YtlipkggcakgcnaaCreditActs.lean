/- For every list of nodes and every list of acts the law CreditActs returns true, and changes nothing: whatever is done, one thing behind the other, is answered as the reference says. No condition. -/
import Derived.Test.YtlipkggcakgcnaaEpl
import Derived.Test.YtlipkggcakgcnaaFr4
import Derived.Test.YtlipkggcakgcnaaEdw
import Derived.Test.YtlipkggcakgcnaaRl4
import Derived.Test.YtlipkggcakgcnaaRm4
import Derived.Deep.DeepCutAuto
import Derived.Deep.CutBlock
namespace Go.Proofs.Ytlipkggcakgcnaa.creditActs
set_option maxRecDepth 100000
open Go.ChangeShapes Go.WideShapes Go.ChangeAt Go.RowKit Mem Tre Ref3 Law3 Fix3 Crd CrdB CrdC Cpl Own Res Rel Lim Rr4 Rl4 Rm4 Sm4 Told4 To4 Fr4 Opn Opt Edw Epl Go.Joins Go.Deep
set_option linter.unusedVariables false

theorem own : ownKnob Try.prog.godebug = none := by kernel_rfl
theorem laidOut : laidOutB Try.prog = true := by kernel_rfl

theorem good_rel {l : List (Int × Int)} {u : List Int} (h : GoodSt l u) (n x : Int) : GoodSt l (relU l u n x) :=
  ⟨h.okt, h.one, h.few, (uok_rel h.uok n x).2.trans h.len, (uok_rel h.uok n x).1⟩
theorem good_lim {l : List (Int × Int)} {u : List Int} (h : GoodSt l u) (n x : Int) : GoodSt (limL l n x) u :=
  ⟨(okt_lim h.okt n x).1, by rw [(okt_lim h.okt n x).2]; exact h.one, by rw [(okt_lim h.okt n x).2]; exact h.few, by rw [(okt_lim h.okt n x).2]; exact h.len, h.uok⟩
theorem blk_new3 {w : World} {te : TypeId} {cs : Array Value} (o1 o2 : Obj) : Blk (((w.alloc o1).alloc o2).alloc (.cells cs te)) (w.heap.size + 2) te cs := by
  have h := Blk.fresh ((w.alloc o1).alloc o2) te cs
  have e : ((w.alloc o1).alloc o2).heap.size = w.heap.size + 2 := by simp
  rwa [e] at h
theorem drewC (w : World) (a : Addr) : w.drew.cell? a = w.cell? a := rfl
theorem zero_cells {W : World} {g : Nat} {te : TypeId} (h : Blk W g te #[.slice none 0 0, .slice none 0 0]) :
    W.cell? ⟨g, 0, none⟩ = some (.slice none 0 0) ∧ W.cell? ⟨g, 1, none⟩ = some (.slice none 0 0) ∧ W.frozen? ⟨g, 0, none⟩ = false ∧ W.frozen? ⟨g, 1, none⟩ = false :=
  ⟨h.cell 0, h.cell 1, h.thaw 0, h.thaw 1⟩
theorem far_two' {W : World} {g b i : Nat} (hne : b ≠ g) (x y : Value) : ((W.setCell ⟨g, 0, none⟩ x).setCell ⟨g, 1, none⟩ y).cell? ⟨b, i, none⟩ = W.cell? ⟨b, i, none⟩ :=
  (World.cell?_setCell_other _ _ _ _ (by simp [hne])).trans (World.cell?_setCell_other _ _ _ _ (by simp [hne]))
theorem far_two {W : World} {g b i : Nat} {te : TypeId} {cs : Array Value} (_h : Blk W g te cs) (hne : b ≠ g) (x y : Value) : ((W.setCell ⟨g, 0, none⟩ x).setCell ⟨g, 1, none⟩ y).cell? ⟨b, i, none⟩ = W.cell? ⟨b, i, none⟩ := far_two' hne x y
theorem put2 {W : World} {gT gX gU gY n n' m m' a a' b b' c1 c2 c3 c4 d1 d2 d3 d4 : Nat} {te1 te2 : TypeId} {B1 B2 B3 B4 P1 P2 P3 P4 : Option Addr} {l l2 : List (Int × Int)} {u u2 : List Int}
    (kT : Blk W gT te1 #[.slice P1 a c1, .slice P2 a' c2]) (kX : Blk W gX te2 #[.slice P3 b c3, .slice P4 b' c4]) (vU : StV W gU te1 B1 B2 n n' d1 d2 l u) (vY : StV W gY te2 B3 B4 m m' d3 d4 l2 u2) (ne : gT ≠ gX) :
    StV ((((W.setCell ⟨gT, 0, none⟩ (.slice B1 n d1)).setCell ⟨gT, 1, none⟩ (.slice B2 n' d2)).setCell ⟨gX, 0, none⟩ (.slice B3 m d3)).setCell ⟨gX, 1, none⟩ (.slice B4 m' d4)) gT te1 B1 B2 n n' d1 d2 l u ∧
    StV ((((W.setCell ⟨gT, 0, none⟩ (.slice B1 n d1)).setCell ⟨gT, 1, none⟩ (.slice B2 n' d2)).setCell ⟨gX, 0, none⟩ (.slice B3 m d3)).setCell ⟨gX, 1, none⟩ (.slice B4 m' d4)) gX te2 B3 B4 m m' d3 d4 l2 u2 ∧
    (∀ {g e e' : Nat} {te : TypeId} {E E' : Option Addr} {f f' : Nat} {l3 : List (Int × Int)} {u3 : List Int}, StV W g te E E' e e' f f' l3 u3 → g ≠ gT → g ≠ gX → StV ((((W.setCell ⟨gT, 0, none⟩ (.slice B1 n d1)).setCell ⟨gT, 1, none⟩ (.slice B2 n' d2)).setCell ⟨gX, 0, none⟩ (.slice B3 m d3)).setCell ⟨gX, 1, none⟩ (.slice B4 m' d4)) g te E E' e e' f f' l3 u3) ∧
    (∀ {B : Nat} {w : World}, Below B w W → B ≤ gT → B ≤ gX → Below B w ((((W.setCell ⟨gT, 0, none⟩ (.slice B1 n d1)).setCell ⟨gT, 1, none⟩ (.slice B2 n' d2)).setCell ⟨gX, 0, none⟩ (.slice B3 m d3)).setCell ⟨gX, 1, none⟩ (.slice B4 m' d4))) := by
  have ne' : gX ≠ gT := Ne.symm ne
  have kX1 : Blk ((W.setCell ⟨gT, 0, none⟩ (.slice B1 n d1)).setCell ⟨gT, 1, none⟩ (.slice B2 n' d2)) gX te2 #[.slice P3 b c3, .slice P4 b' c4] := blk_far (blk_far kX (by simpa using ne') _) (by simpa using ne') _
  have v1 := stv_store (m := n) (m' := n') (d := d1) (d' := d2) kT vU.nds vU.ris
  have y1n := rd_setBlk (rd_setBlk vY.nds kT (allInt_nds l2) (j := 0) (.slice B1 n d1)) (blk_set kT 0 (.slice B1 n d1)) (allInt_nds l2) (j := 1) (.slice B2 n' d2)
  have y1r := rd_setBlk (rd_setBlk vY.ris kT (allInt_ints u2) (j := 0) (.slice B1 n d1)) (blk_set kT 0 (.slice B1 n d1)) (allInt_ints u2) (j := 1) (.slice B2 n' d2)
  exact ⟨stv_far kX1 v1 ne, stv_store kX1 y1n y1r, fun h h1 h2 => stv_far kX1 (stv_far kT h h1) h2,
    fun h h1 h2 => (((h.setCell (p := ⟨gT, 0, none⟩) h1 _).setCell (p := ⟨gT, 1, none⟩) h1 _).setCell (p := ⟨gX, 0, none⟩) h2 _).setCell (p := ⟨gX, 1, none⟩) h2 _⟩
theorem kind_cases (k : Int) : wrap64 ((IntKind.u64.wrap k).tmod 4) = 0 ∨ wrap64 ((IntKind.u64.wrap k).tmod 4) = 1 ∨ wrap64 ((IntKind.u64.wrap k).tmod 4) = 2 ∨ wrap64 ((IntKind.u64.wrap k).tmod 4) = 3 := by
  rw [wrap_u64, Int.tmod_eq_emod_of_nonneg (Int.emod_nonneg _ (by decide))]
  have a := Int.emod_nonneg (k % 18446744073709551616) (b := 4) (by omega)
  have b := Int.emod_lt_of_pos (k % 18446744073709551616) (b := 4) (by omega)
  generalize k % 18446744073709551616 % 4 = r at *
  unfold wrap64
  omega

set_option maxRecDepth 100000 in
set_option maxHeartbeats 4000000 in
theorem inner (A A' : Option Addr) (c c' : Nat) (l : List (Int × Int)) (ops : List (Int × Int × Int)) (w : World) (hl : Hid (Nds w w.heap.size A l)) (hw : Hid (WfN l)) (ho : Hid (Tds w w.heap.size A' ops)) (hwo : Hid (WfT ops)) (hmax : (l.length : Int) ≤ 9223372036854775807) (hmay : (ops.length : Int) ≤ 9223372036854775807) :
    Calls Try.prog 3 #[.slice A l.length c, .slice A' ops.length c'] w (MadeB true w) := by
  obtain ⟨F, hF⟩ : ∃ F, F = fixF l := ⟨_, rfl⟩
  have HF := Lib.hid hF
  have o1 : Hid (Okt F) := by rw [hF]; exact okt_fixF l
  have o2 : F.length ≤ 10 := by rw [hF]; exact (fixF_len l).2
  have o3 : 1 ≤ F.length := by rw [hF]; exact (fixF_len l).1
  have o4 : Hid (WfN F) := okt_wf o1.out (by omega)
  clear hF
  go_enter Try.func3, Try.ntmps3
  go_wp2_with fail
  refine (fix_any A c l w hl hw hmax).mono ?_
  rintro e w1 ⟨A1, c1, rfl, hr1, hb1⟩
  rw [← HF.out] at hr1 ⊢
  have r1 : Hid (Nds w1 w1.heap.size A1 F) := hr1
  clear hr1
  go_wp2_with fail
  refine (rbegin_any A1 c1 F w1 r1 (by omega)).mono ?_
  rintro e w2 ⟨A2, c2, A3, c3, rfl, hn2, hu2, hb2⟩
  have b2 := below_step hb1 hb2
  obtain ⟨u0, hu0⟩ : ∃ u, u = zeros F.length := ⟨_, rfl⟩
  have HU0 := Lib.hid hu0
  rw [← hu0] at hu2 ⊢
  have hg0 : Hid (GoodSt F u0) := by rw [hu0]; exact good_begin o1.out o3 (by omega)
  clear hu0
  have vW : Hid (StV (w2.alloc (.cells #[.slice A2 F.length c2, .slice A3 u0.length c3] 26)) w2.heap.size 26 A2 A3 F.length u0.length c2 c3 F u0) := StV.new hn2 hu2
  have b2' : Below w.heap.size w (w2.alloc (.cells #[.slice A2 F.length c2, .slice A3 u0.length c3] 26)) := b2.alloc b2.size _
  have hgw : w.heap.size ≤ w2.heap.size := b2.size
  clear hn2 hu2 hb2 hb1 r1 b2
  go_wp2_with fail
  generalize w2.alloc (.cells #[.slice A2 F.length c2, .slice A3 u0.length c3] 26) = w3 at vW b2' ⊢
  generalize w2.heap.size = gW at vW hgw ⊢
  refine (to_any A2 c2 F w3 (Lib.hid vW.out.nds) o4 (by omega)).mono ?_
  rintro e w4 ⟨A4, c4, rfl, hn4, hb4⟩
  have v4 := Lib.hid (vW.out.below hb4)
  have b4 := below_step b2' hb4
  have n4 : Hid (Nds w4 w4.heap.size A4 F) := hn4
  clear vW b2' hb4 hn4
  go_wp2_with fail
  refine (begin_any A4 c4 F w4 n4 (by omega)).mono ?_
  rintro e w5 ⟨A5, c5, A6, c6, rfl, hn5, hu5, hb5⟩
  rw [← HU0.out] at hu5 ⊢
  have b5 := below_step b4 hb5
  have vW5 := Lib.hid ((v4.out.below hb5).alloc (.cells #[.slice A5 F.length c5, .slice A6 u0.length c6] 31))
  have vS5 : Hid (StV (w5.alloc (.cells #[.slice A5 F.length c5, .slice A6 u0.length c6] 31)) w5.heap.size 31 A5 A6 F.length u0.length c5 c6 F u0) := StV.new hn5 hu5
  have b5' : Below w.heap.size w (w5.alloc (.cells #[.slice A5 F.length c5, .slice A6 u0.length c6] 31)) := b5.alloc b5.size _
  have hgs : w.heap.size ≤ w5.heap.size := b5.size
  have hlt : gW < w5.heap.size := by have := v4.out.blk.lt; have := hb5.size; omega
  clear hn5 hu5 hb5 v4 b4 n4 b5
  go_wp2_with fail
  generalize w5.alloc (.cells #[.slice A5 F.length c5, .slice A6 u0.length c6] 31) = w6 at vW5 vS5 b5' ⊢
  generalize w5.heap.size = gS at vS5 hgs hlt ⊢
  have m1 : (F.length : Int) ≤ 1000000 := by omega
  have m2 : (u0.length : Int) ≤ 1000000 := by rw [hg0.out.len]; omega
  have hs0 : w6.cell? ⟨gS, 0, none⟩ = some (.slice A5 F.length c5) := vS5.out.c0
  have hs1 : w6.cell? ⟨gS, 1, none⟩ = some (.slice A6 u0.length c6) := vS5.out.c1
  have hw0 : w6.cell? ⟨gW, 0, none⟩ = some (.slice A2 F.length c2) := vW5.out.c0
  have hw1 : w6.cell? ⟨gW, 1, none⟩ = some (.slice A3 u0.length c3) := vW5.out.c1
  have B6 : Hid (Below w.heap.size w w6) := b5'
  have D6 : Hid (Below w6.heap.size w6 w6.drew) := (Below.refl _ _).drew
  go_region_held3 (fun w' => w'.cell? ⟨gS, 0, none⟩ = some (.slice A5 F.length c5) ∧ w'.cell? ⟨gS, 1, none⟩ = some (.slice A6 u0.length c6) ∧ w'.cell? ⟨gW, 0, none⟩ = some (.slice A2 F.length c2) ∧ w'.cell? ⟨gW, 1, none⟩ = some (.slice A3 u0.length c3))
    (first | go_keep | (exact ⟨p1, p2, p3, p4⟩) | (exact ⟨q1, q2, q3, q4⟩) | (exact ⟨r1, r2, r3, r4⟩))
    (first
      | (go_at_call 16; (with_reducible refine (told4_any _).mono ?_); rintro e w7 ⟨rfl, hb7⟩; have D7 := Lib.hid (below_step D6.out hb7); have vS7 := Lib.hid (vS5.out.below D7.out); have vW7 := Lib.hid (vW5.out.below D7.out); have p1 : w7.cell? ⟨gS, 0, none⟩ = some (.slice A5 F.length c5) := vS7.out.c0; have p2 : w7.cell? ⟨gS, 1, none⟩ = some (.slice A6 u0.length c6) := vS7.out.c1; have p3 : w7.cell? ⟨gW, 0, none⟩ = some (.slice A2 F.length c2) := vW7.out.c0; have p4 : w7.cell? ⟨gW, 1, none⟩ = some (.slice A3 u0.length c3) := vW7.out.c1)
      | (go_at_call 18; (with_reducible refine (from_any A5 A6 c5 c6 F u0 _ (Lib.hid vS7.out.nds) (Lib.hid vS7.out.ris) m1 m2).mono ?_); rintro e w8 ⟨B1, d1, B2, d2, rfl, hn8, hu8, hb8⟩; have D8 := Lib.hid (below_step D7.out hb8); have vW8 := Lib.hid (vW7.out.below hb8); have vS8 := Lib.hid (vS7.out.below hb8); have HN8 := Lib.hid hn8; have HU8 := Lib.hid hu8; clear hn8 hu8; have q1 : w8.cell? ⟨gS, 0, none⟩ = some (.slice A5 F.length c5) := vS8.out.c0; have q2 : w8.cell? ⟨gS, 1, none⟩ = some (.slice A6 u0.length c6) := vS8.out.c1; have q3 : w8.cell? ⟨gW, 0, none⟩ = some (.slice A2 F.length c2) := vW8.out.c0; have q4 : w8.cell? ⟨gW, 1, none⟩ = some (.slice A3 u0.length c3) := vW8.out.c1)
      | (go_at_call 17; (with_reducible refine (same_any B1 B2 A2 A3 d1 d2 c2 c3 F u0 _ HN8 HU8 (Lib.hid vW8.out.nds) (Lib.hid vW8.out.ris) m1 m2).mono ?_); rintro e w9 ⟨rfl, hb9⟩; have D9 := Lib.hid (below_step D8.out hb9); have vW9 := Lib.hid (vW8.out.below hb9); have vS9 := Lib.hid (vS8.out.below hb9); have r1 : w9.cell? ⟨gS, 0, none⟩ = some (.slice A5 F.length c5) := vS9.out.c0; have r2 : w9.cell? ⟨gS, 1, none⟩ = some (.slice A6 u0.length c6) := vS9.out.c1; have r3 : w9.cell? ⟨gW, 0, none⟩ = some (.slice A2 F.length c2) := vW9.out.c0; have r4 : w9.cell? ⟨gW, 1, none⟩ = some (.slice A3 u0.length c3) := vW9.out.c1))
  have b9 : Below w.heap.size w w9 := below_step B6.out D9.out
  clear p1 p2 p3 p4 q1 q2 q3 q4 r1 r2 r3 r4 hs0 hs1 hw0 hw1 hb7 hb8 hb9
  go_wp2_with fail
  generalize w9 = w10 at b9 vW9 vS9 ⊢
  clear D6 D7 D8 D9 vS7 vS8 vW7 vW8 HN8 HU8 vW5 vS5 b5' B6
  go_loopg [7] (min ops.length 60) (fun g s7 w' => ∃ (i : Nat) (L : List (Int × Int)) (u : List Int) (A7 A8 A9 A10 : Option Addr) (c7 c8 c9 c10 : Nat), i + g = min ops.length 60 ∧ s7 = .int .i64 i ∧ Hid (GoodSt L u) ∧ Hid (StV w' gS 31 A7 A8 L.length u.length c7 c8 L u) ∧ Hid (StV w' gW 26 A9 A10 L.length u.length c9 c10 L u) ∧ Below w.heap.size w w')
  case atStart => exact ⟨0, F, u0, A5, A6, A2, A3, c5, c6, c2, c3, by omega, rfl, hg0, vS9, vW9, b9⟩
  case round =>
    obtain ⟨i, L, u, A7, A8, A9, A10, c7, c8, c9, c10, hi, rfl, hg, vS, vW, bl⟩ := hrel
    have n1 : (L.length : Int) ≤ 1000000 := by have := hg.out.few; omega
    have n2 : (u.length : Int) ≤ 1000000 := by have := hg.out.few; rw [hg.out.len]; omega
    have hgSl : gS < wr.heap.size := vS.out.blk.lt
    have hgWl : gW < wr.heap.size := vW.out.blk.lt
    by_cases hlt' : i < ops.length ∧ i < 60
    · obtain ⟨g, rfl⟩ : ∃ g, gk = g + 1 := ⟨gk - 1, by omega⟩
      obtain ⟨hlt1, hlt2⟩ := hlt'
      obtain ⟨b, o, rfl, hb, hcc⟩ := Tds.at ho.out hlt1
      have bl0 : wr.cell? ⟨b, o + i * 3, none⟩ = some (.int .i64 (tK ops i)) := (bl.cell (p := ⟨b, o + i * 3, none⟩) hb).trans (hcc i hlt1).1
      have bl1 : wr.cell? ⟨b, o + i * 3 + 1, none⟩ = some (.int .i64 (tN ops i)) := (bl.cell (p := ⟨b, o + i * 3 + 1, none⟩) hb).trans (hcc i hlt1).2.1
      have bl2 : wr.cell? ⟨b, o + i * 3 + 2, none⟩ = some (.int .i64 (tA ops i)) := (bl.cell (p := ⟨b, o + i * 3 + 2, none⟩) hb).trans (hcc i hlt1).2.2
      have t1 : decide ((i : Int) < 60) = true := by simp; omega
      have t2 : decide ((i : Int) < (ops.length : Int)) = true := by simp; omega
      have HI := Lib.hid hi
      obtain ⟨hK, hN, hA⟩ := hwo.out i hlt1
      have hk := kind_cases (tK ops i)
      generalize tK ops i = K at *
      generalize tN ops i = N at *
      generalize tA ops i = M at *
      clear hcc hi
      have s0 : wr.cell? ⟨gS, 0, none⟩ = some (.slice A7 L.length c7) := vS.out.c0
      have s1 : wr.cell? ⟨gS, 1, none⟩ = some (.slice A8 u.length c8) := vS.out.c1
      go_wp2_with fail
      have k1 : Hid (Blk (wr.alloc (.cells #[.int .i64 K, .int .i64 N, .int .i64 M] 38)) wr.heap.size 38 #[.int .i64 K, .int .i64 N, .int .i64 M]) := Blk.fresh _ _ _
      have vS1 := Lib.hid (vS.out.alloc (.cells #[.int .i64 K, .int .i64 N, .int .i64 M] 38))
      have vW1 := Lib.hid (vW.out.alloc (.cells #[.int .i64 K, .int .i64 N, .int .i64 M] 38))
      have d1 : Below wr.heap.size wr (wr.alloc (.cells #[.int .i64 K, .int .i64 N, .int .i64 M] 38)) := (Below.refl _ _).alloc (Nat.le_refl _) _
      have hO : wr.heap.size < (wr.alloc (.cells #[.int .i64 K, .int .i64 N, .int .i64 M] 38)).heap.size := k1.out.lt
      refine (from_any A7 A8 c7 c8 L u _ (Lib.hid vS1.out.nds) (Lib.hid vS1.out.ris) n1 n2).mono ?_
      rintro e w11 ⟨A11, c11, A12, c12, rfl, hn11, hu11, hb11⟩
      have d2 := below_step d1 hb11
      have k2 := Lib.hid (Blk.below' k1.out hb11)
      have vS2 := Lib.hid (vS1.out.below hb11)
      have vW2 := Lib.hid (vW1.out.below hb11)
      have vH2 : Hid (StV (w11.alloc (.cells #[.slice A11 L.length c11, .slice A12 u.length c12] 26)) w11.heap.size 26 A11 A12 L.length u.length c11 c12 L u) := StV.new hn11 hu11
      have hz : wr.heap.size < w11.heap.size := Nat.lt_of_lt_of_le hO hb11.size
      have bl' : Hid (Below w.heap.size w wr) := bl
      clear hn11 hu11 hb11 k1 vS1 vW1 d1 s0 s1 bl0 bl1 bl2 hO bl
      go_upto_region 13 with fail
      have k3 : Hid (Blk (((w11.alloc (.cells #[.slice A11 L.length c11, .slice A12 u.length c12] 26)).alloc (.cells #[.slice none 0 0, .slice none 0 0] 31)).alloc (.cells #[.slice none 0 0, .slice none 0 0] 26)) wr.heap.size 38 #[.int .i64 K, .int .i64 N, .int .i64 M]) := ((k2.out.alloc _).alloc _).alloc _
      have vS3 : Hid (StV (((w11.alloc (.cells #[.slice A11 L.length c11, .slice A12 u.length c12] 26)).alloc (.cells #[.slice none 0 0, .slice none 0 0] 31)).alloc (.cells #[.slice none 0 0, .slice none 0 0] 26)) gS 31 A7 A8 L.length u.length c7 c8 L u) := ((vS2.out.alloc _).alloc _).alloc _
      have vW3 : Hid (StV (((w11.alloc (.cells #[.slice A11 L.length c11, .slice A12 u.length c12] 26)).alloc (.cells #[.slice none 0 0, .slice none 0 0] 31)).alloc (.cells #[.slice none 0 0, .slice none 0 0] 26)) gW 26 A9 A10 L.length u.length c9 c10 L u) := ((vW2.out.alloc _).alloc _).alloc _
      have vH3 : Hid (StV (((w11.alloc (.cells #[.slice A11 L.length c11, .slice A12 u.length c12] 26)).alloc (.cells #[.slice none 0 0, .slice none 0 0] 31)).alloc (.cells #[.slice none 0 0, .slice none 0 0] 26)) w11.heap.size 26 A11 A12 L.length u.length c11 c12 L u) := (vH2.out.alloc _).alloc _
      have kT3 : Hid (Blk (((w11.alloc (.cells #[.slice A11 L.length c11, .slice A12 u.length c12] 26)).alloc (.cells #[.slice none 0 0, .slice none 0 0] 31)).alloc (.cells #[.slice none 0 0, .slice none 0 0] 26)) (w11.heap.size + 1) 31 #[.slice none 0 0, .slice none 0 0]) := Blk.alloc (by have := Blk.fresh (w11.alloc (.cells #[.slice A11 L.length c11, .slice A12 u.length c12] 26)) 31 #[.slice none 0 0, .slice none 0 0]; simpa using this) _
      have kX3 : Hid (Blk (((w11.alloc (.cells #[.slice A11 L.length c11, .slice A12 u.length c12] 26)).alloc (.cells #[.slice none 0 0, .slice none 0 0] 31)).alloc (.cells #[.slice none 0 0, .slice none 0 0] 26)) (w11.heap.size + 1 + 1) 26 #[.slice none 0 0, .slice none 0 0]) := blk_new3 _ _
      have d3 : Hid (Below wr.heap.size wr (((w11.alloc (.cells #[.slice A11 L.length c11, .slice A12 u.length c12] 26)).alloc (.cells #[.slice none 0 0, .slice none 0 0] 31)).alloc (.cells #[.slice none 0 0, .slice none 0 0] 26))) := (((d2.alloc d2.size _).alloc (d2.alloc d2.size _).size _).alloc ((d2.alloc d2.size _).alloc (d2.alloc d2.size _).size _).size _)
      clear d2 k2 vS2 vW2 vH2
      generalize (((w11.alloc (.cells #[.slice A11 L.length c11, .slice A12 u.length c12] 26)).alloc (.cells #[.slice none 0 0, .slice none 0 0] 31)).alloc (.cells #[.slice none 0 0, .slice none 0 0] 26)) = w12 at k3 vS3 vW3 vH3 kT3 kX3 d3 ⊢
      generalize w11.heap.size = gH at hz vH3 kT3 kX3 ⊢
      have hHT : gH < gH + 1 := by omega
      have hTX : gH + 1 < gH + 1 + 1 := by omega
      have e0 : w12.cell? ⟨wr.heap.size, 0, none⟩ = some (.int .i64 K) := k3.out.cell 0
      go_upto_block 2 with fail
      have hXl : gH + 1 + 1 < w12.heap.size := kX3.out.lt
      generalize gH + 1 + 1 = gX at hTX kX3 hXl ⊢
      generalize gH + 1 = gT at hHT hTX kT3 ⊢
      generalize hm : wrap64 ((IntKind.u64.wrap K).tmod 4) = m at hk ⊢
      clear hm
      go_cut [12] (fun s12 wx => ∃ (L' : List (Int × Int)) (u' : List Int) (B1 B2 B3 B4 : Option Addr) (d1 d2 d3 d4 : Nat), s12 = .bool true ∧ Hid (GoodSt L' u') ∧ Hid (StV wx gT 31 B1 B2 L'.length u'.length d1 d2 L' u') ∧ Hid (StV wx gX 26 B3 B4 L'.length u'.length d3 d4 L' u') ∧ Hid (StV wx gS 31 A7 A8 L.length u.length c7 c8 L u) ∧ Hid (StV wx gW 26 A9 A10 L.length u.length c9 c10 L u) ∧ Hid (StV wx gH 26 A11 A12 L.length u.length c11 c12 L u) ∧ Below wr.heap.size wr wx)
      case first =>
        have d3' : Hid (Below wr.heap.size wr w12) := d3
        have e0 : w12.cell? ⟨wr.heap.size, 1, none⟩ = some (.int .i64 N) := k3.out.cell 1
        have e9 : w12.cell? ⟨wr.heap.size, 2, none⟩ = some (.int .i64 M) := k3.out.cell 2
        rcases hk with rfl | rfl | rfl | rfl
        · have s0 : w12.cell? ⟨gS, 0, none⟩ = some (.slice A7 L.length c7) := vS3.out.c0
          have s1 : w12.cell? ⟨gS, 1, none⟩ = some (.slice A8 u.length c8) := vS3.out.c1
          go_wp2_with fail
          refine (reserve_any A7 A8 c7 c8 L u N M w12 (Lib.hid vS3.out.nds) (Lib.hid vS3.out.ris) hg.out hN hA.1 hA.2).mono ?_
          rintro e w13 ⟨B1, d1, B2, d2, rfl, hn13, hu13, hb13⟩
          generalize hcode : resF L u N M = p at *
          obtain ⟨p1, p2⟩ := p
          have HC := Lib.hid hcode
          clear hcode
          have hgN : Hid (GoodSt L (resU L u N M)) := good_res hg.out N M
          have vU : Hid (StV (w13.alloc (.cells #[.slice B1 L.length d1, .slice B2 (resU L u N M).length d2] 31)) w13.heap.size 31 B1 B2 L.length (resU L u N M).length d1 d2 L (resU L u N M)) := StV.new hn13 hu13
          have vS4 := Lib.hid ((vS3.out.below hb13).alloc (.cells #[.slice B1 L.length d1, .slice B2 (resU L u N M).length d2] 31))
          have vW4 := Lib.hid ((vW3.out.below hb13).alloc (.cells #[.slice B1 L.length d1, .slice B2 (resU L u N M).length d2] 31))
          have vH4 := Lib.hid ((vH3.out.below hb13).alloc (.cells #[.slice B1 L.length d1, .slice B2 (resU L u N M).length d2] 31))
          have k4 := Lib.hid ((Blk.below' k3.out hb13).alloc (.cells #[.slice B1 L.length d1, .slice B2 (resU L u N M).length d2] 31))
          have kT4 := Lib.hid ((Blk.below' kT3.out hb13).alloc (.cells #[.slice B1 L.length d1, .slice B2 (resU L u N M).length d2] 31))
          have kX4 := Lib.hid ((Blk.below' kX3.out hb13).alloc (.cells #[.slice B1 L.length d1, .slice B2 (resU L u N M).length d2] 31))
          have D4 : Hid (Below w12.heap.size w12 (w13.alloc (.cells #[.slice B1 L.length d1, .slice B2 (resU L u N M).length d2] 31))) := hb13.alloc hb13.size _
          have hUz : w12.heap.size ≤ w13.heap.size := hb13.size
          clear hn13 hu13 hb13 s0 s1
          go_upto_region 17 with fail
          generalize w13.alloc (.cells #[.slice B1 L.length d1, .slice B2 (resU L u N M).length d2] 31) = w14 at vU vS4 vW4 vH4 k4 kT4 kX4 D4 ⊢
          generalize w13.heap.size = gU at vU hUz ⊢
          have hUl : gU < w14.heap.size := vU.out.blk.lt
          have f0 : w14.cell? ⟨gW, 0, none⟩ = some (.slice A9 L.length c9) := vW4.out.c0
          have f1 : w14.cell? ⟨gW, 1, none⟩ = some (.slice A10 u.length c10) := vW4.out.c1
          have e1 : w14.cell? ⟨wr.heap.size, 1, none⟩ = some (.int .i64 N) := k4.out.cell 1
          have e2 : w14.cell? ⟨wr.heap.size, 2, none⟩ = some (.int .i64 M) := k4.out.cell 2
          go_wp2_with fail
          refine (rreserve_any A9 A10 c9 c10 L u N M w14 (Lib.hid vW4.out.nds) (Lib.hid vW4.out.ris) hg.out hN hA.1 hA.2).mono ?_
          rintro e w15 ⟨B3, d3, B4, d4, rfl, hn15, hu15, hb15⟩
          rw [HC.out]
          have j1 : (p1 == p1) = true := by simp
          have j2 : (p2 == p2) = true := by simp
          have vY : Hid (StV (w15.alloc (.cells #[.slice B3 L.length d3, .slice B4 (resU L u N M).length d4] 26)) w15.heap.size 26 B3 B4 L.length (resU L u N M).length d3 d4 L (resU L u N M)) := StV.new hn15 hu15
          have vU5 := Lib.hid ((vU.out.below hb15).alloc (.cells #[.slice B3 L.length d3, .slice B4 (resU L u N M).length d4] 26))
          have vS5 := Lib.hid ((vS4.out.below hb15).alloc (.cells #[.slice B3 L.length d3, .slice B4 (resU L u N M).length d4] 26))
          have vW5 := Lib.hid ((vW4.out.below hb15).alloc (.cells #[.slice B3 L.length d3, .slice B4 (resU L u N M).length d4] 26))
          have vH5 := Lib.hid ((vH4.out.below hb15).alloc (.cells #[.slice B3 L.length d3, .slice B4 (resU L u N M).length d4] 26))
          have kT5 := Lib.hid ((Blk.below' kT4.out hb15).alloc (.cells #[.slice B3 L.length d3, .slice B4 (resU L u N M).length d4] 26))
          have kX5 := Lib.hid ((Blk.below' kX4.out hb15).alloc (.cells #[.slice B3 L.length d3, .slice B4 (resU L u N M).length d4] 26))
          have D5 : Hid (Below w12.heap.size w12 (w15.alloc (.cells #[.slice B3 L.length d3, .slice B4 (resU L u N M).length d4] 26))) := (below_step D4.out hb15).alloc (below_step D4.out hb15).size _
          have hYz : gU < w15.heap.size := Nat.lt_of_lt_of_le hUl hb15.size
          clear hn15 hu15 hb15 e1 e2 f0 f1 vU vS4 vW4 vH4 kT4 kX4 D4 k4
          go_upto_region 18 with fail
          generalize w15.alloc (.cells #[.slice B3 L.length d3, .slice B4 (resU L u N M).length d4] 26) = w16 at vY vU5 vS5 vW5 vH5 kT5 kX5 D5 ⊢
          generalize w15.heap.size = gY at vY hYz ⊢
          have f0 : w16.cell? ⟨gU, 0, none⟩ = some (.slice B1 L.length d1) := vU5.out.c0
          have f1 : w16.cell? ⟨gU, 1, none⟩ = some (.slice B2 (resU L u N M).length d2) := vU5.out.c1
          have f2 : w16.cell? ⟨gY, 0, none⟩ = some (.slice B3 L.length d3) := vY.out.c0
          have f3 : w16.cell? ⟨gY, 1, none⟩ = some (.slice B4 (resU L u N M).length d4) := vY.out.c1
          obtain ⟨T0, T1, T2, T3⟩ := zero_cells kT5.out
          obtain ⟨X0, X1, X2, X3⟩ := zero_cells kX5.out
          have z1 : gU ≠ gT := by omega
          have z2 : gY ≠ gT := by omega
          have z3 : gU ≠ gX := by omega
          have z4 : gY ≠ gX := by omega
          go_region_held3 (fun w' => w'.cell? ⟨gU, 0, none⟩ = some (.slice B1 L.length d1) ∧ w'.cell? ⟨gU, 1, none⟩ = some (.slice B2 (resU L u N M).length d2) ∧ w'.cell? ⟨gY, 0, none⟩ = some (.slice B3 L.length d3) ∧ w'.cell? ⟨gY, 1, none⟩ = some (.slice B4 (resU L u N M).length d4)) (simp only [drewC, far_two' z1, far_two' z2, far_two' z3, far_two' z4, f0, f1, f2, f3, and_self]) (fail)
          go_wp2_with fail
          go_meet
          obtain ⟨q1, q2, q3, q4⟩ := put2 kT5.out kX5.out vU5.out vY.out (by omega)
          exact ⟨L, (resU L u N M), B1, B2, B3, B4, d1, d2, d3, d4, rfl, hgN, stv_drew q1, stv_drew q2, stv_drew (q3 vS5.out (by omega) (by omega)), stv_drew (q3 vW5.out (by omega) (by omega)), stv_drew (q3 vH5.out (by omega) (by omega)), (q4 (below_step d3'.out D5.out) (by omega) (by omega)).drew⟩
        · have s0 : w12.cell? ⟨gS, 0, none⟩ = some (.slice A7 L.length c7) := vS3.out.c0
          have s1 : w12.cell? ⟨gS, 1, none⟩ = some (.slice A8 u.length c8) := vS3.out.c1
          go_wp2_with fail
          refine (reserve_any A7 A8 c7 c8 L u N M w12 (Lib.hid vS3.out.nds) (Lib.hid vS3.out.ris) hg.out hN hA.1 hA.2).mono ?_
          rintro e w13 ⟨B1, d1, B2, d2, rfl, hn13, hu13, hb13⟩
          generalize hcode : resF L u N M = p at *
          obtain ⟨p1, p2⟩ := p
          have HC := Lib.hid hcode
          clear hcode
          have hgN : Hid (GoodSt L (resU L u N M)) := good_res hg.out N M
          have vU : Hid (StV (w13.alloc (.cells #[.slice B1 L.length d1, .slice B2 (resU L u N M).length d2] 31)) w13.heap.size 31 B1 B2 L.length (resU L u N M).length d1 d2 L (resU L u N M)) := StV.new hn13 hu13
          have vS4 := Lib.hid ((vS3.out.below hb13).alloc (.cells #[.slice B1 L.length d1, .slice B2 (resU L u N M).length d2] 31))
          have vW4 := Lib.hid ((vW3.out.below hb13).alloc (.cells #[.slice B1 L.length d1, .slice B2 (resU L u N M).length d2] 31))
          have vH4 := Lib.hid ((vH3.out.below hb13).alloc (.cells #[.slice B1 L.length d1, .slice B2 (resU L u N M).length d2] 31))
          have k4 := Lib.hid ((Blk.below' k3.out hb13).alloc (.cells #[.slice B1 L.length d1, .slice B2 (resU L u N M).length d2] 31))
          have kT4 := Lib.hid ((Blk.below' kT3.out hb13).alloc (.cells #[.slice B1 L.length d1, .slice B2 (resU L u N M).length d2] 31))
          have kX4 := Lib.hid ((Blk.below' kX3.out hb13).alloc (.cells #[.slice B1 L.length d1, .slice B2 (resU L u N M).length d2] 31))
          have D4 : Hid (Below w12.heap.size w12 (w13.alloc (.cells #[.slice B1 L.length d1, .slice B2 (resU L u N M).length d2] 31))) := hb13.alloc hb13.size _
          have hUz : w12.heap.size ≤ w13.heap.size := hb13.size
          clear hn13 hu13 hb13 s0 s1
          go_upto_region 17 with fail
          generalize w13.alloc (.cells #[.slice B1 L.length d1, .slice B2 (resU L u N M).length d2] 31) = w14 at vU vS4 vW4 vH4 k4 kT4 kX4 D4 ⊢
          generalize w13.heap.size = gU at vU hUz ⊢
          have hUl : gU < w14.heap.size := vU.out.blk.lt
          have f0 : w14.cell? ⟨gW, 0, none⟩ = some (.slice A9 L.length c9) := vW4.out.c0
          have f1 : w14.cell? ⟨gW, 1, none⟩ = some (.slice A10 u.length c10) := vW4.out.c1
          have e1 : w14.cell? ⟨wr.heap.size, 1, none⟩ = some (.int .i64 N) := k4.out.cell 1
          have e2 : w14.cell? ⟨wr.heap.size, 2, none⟩ = some (.int .i64 M) := k4.out.cell 2
          go_wp2_with fail
          refine (rreserve_any A9 A10 c9 c10 L u N M w14 (Lib.hid vW4.out.nds) (Lib.hid vW4.out.ris) hg.out hN hA.1 hA.2).mono ?_
          rintro e w15 ⟨B3, d3, B4, d4, rfl, hn15, hu15, hb15⟩
          rw [HC.out]
          have j1 : (p1 == p1) = true := by simp
          have j2 : (p2 == p2) = true := by simp
          have vY : Hid (StV (w15.alloc (.cells #[.slice B3 L.length d3, .slice B4 (resU L u N M).length d4] 26)) w15.heap.size 26 B3 B4 L.length (resU L u N M).length d3 d4 L (resU L u N M)) := StV.new hn15 hu15
          have vU5 := Lib.hid ((vU.out.below hb15).alloc (.cells #[.slice B3 L.length d3, .slice B4 (resU L u N M).length d4] 26))
          have vS5 := Lib.hid ((vS4.out.below hb15).alloc (.cells #[.slice B3 L.length d3, .slice B4 (resU L u N M).length d4] 26))
          have vW5 := Lib.hid ((vW4.out.below hb15).alloc (.cells #[.slice B3 L.length d3, .slice B4 (resU L u N M).length d4] 26))
          have vH5 := Lib.hid ((vH4.out.below hb15).alloc (.cells #[.slice B3 L.length d3, .slice B4 (resU L u N M).length d4] 26))
          have kT5 := Lib.hid ((Blk.below' kT4.out hb15).alloc (.cells #[.slice B3 L.length d3, .slice B4 (resU L u N M).length d4] 26))
          have kX5 := Lib.hid ((Blk.below' kX4.out hb15).alloc (.cells #[.slice B3 L.length d3, .slice B4 (resU L u N M).length d4] 26))
          have D5 : Hid (Below w12.heap.size w12 (w15.alloc (.cells #[.slice B3 L.length d3, .slice B4 (resU L u N M).length d4] 26))) := (below_step D4.out hb15).alloc (below_step D4.out hb15).size _
          have hYz : gU < w15.heap.size := Nat.lt_of_lt_of_le hUl hb15.size
          clear hn15 hu15 hb15 e1 e2 f0 f1 vU vS4 vW4 vH4 kT4 kX4 D4 k4
          go_upto_region 18 with fail
          generalize w15.alloc (.cells #[.slice B3 L.length d3, .slice B4 (resU L u N M).length d4] 26) = w16 at vY vU5 vS5 vW5 vH5 kT5 kX5 D5 ⊢
          generalize w15.heap.size = gY at vY hYz ⊢
          have f0 : w16.cell? ⟨gU, 0, none⟩ = some (.slice B1 L.length d1) := vU5.out.c0
          have f1 : w16.cell? ⟨gU, 1, none⟩ = some (.slice B2 (resU L u N M).length d2) := vU5.out.c1
          have f2 : w16.cell? ⟨gY, 0, none⟩ = some (.slice B3 L.length d3) := vY.out.c0
          have f3 : w16.cell? ⟨gY, 1, none⟩ = some (.slice B4 (resU L u N M).length d4) := vY.out.c1
          obtain ⟨T0, T1, T2, T3⟩ := zero_cells kT5.out
          obtain ⟨X0, X1, X2, X3⟩ := zero_cells kX5.out
          have z1 : gU ≠ gT := by omega
          have z2 : gY ≠ gT := by omega
          have z3 : gU ≠ gX := by omega
          have z4 : gY ≠ gX := by omega
          go_region_held3 (fun w' => w'.cell? ⟨gU, 0, none⟩ = some (.slice B1 L.length d1) ∧ w'.cell? ⟨gU, 1, none⟩ = some (.slice B2 (resU L u N M).length d2) ∧ w'.cell? ⟨gY, 0, none⟩ = some (.slice B3 L.length d3) ∧ w'.cell? ⟨gY, 1, none⟩ = some (.slice B4 (resU L u N M).length d4)) (simp only [drewC, far_two' z1, far_two' z2, far_two' z3, far_two' z4, f0, f1, f2, f3, and_self]) (fail)
          go_wp2_with fail
          go_meet
          obtain ⟨q1, q2, q3, q4⟩ := put2 kT5.out kX5.out vU5.out vY.out (by omega)
          exact ⟨L, (resU L u N M), B1, B2, B3, B4, d1, d2, d3, d4, rfl, hgN, stv_drew q1, stv_drew q2, stv_drew (q3 vS5.out (by omega) (by omega)), stv_drew (q3 vW5.out (by omega) (by omega)), stv_drew (q3 vH5.out (by omega) (by omega)), (q4 (below_step d3'.out D5.out) (by omega) (by omega)).drew⟩
        · have s0 : w12.cell? ⟨gS, 0, none⟩ = some (.slice A7 L.length c7) := vS3.out.c0
          have s1 : w12.cell? ⟨gS, 1, none⟩ = some (.slice A8 u.length c8) := vS3.out.c1
          go_wp2_with fail
          refine (release_any A7 A8 c7 c8 L u N M w12 (Lib.hid vS3.out.nds) (Lib.hid vS3.out.ris) hg.out hN hA.1 hA.2).mono ?_
          rintro e w13 ⟨B1, d1, B2, d2, rfl, hn13, hu13, hb13⟩
          have hgN : Hid (GoodSt L (relU L u N M)) := good_rel hg.out N M
          have vU : Hid (StV (w13.alloc (.cells #[.slice B1 L.length d1, .slice B2 (relU L u N M).length d2] 31)) w13.heap.size 31 B1 B2 L.length (relU L u N M).length d1 d2 L (relU L u N M)) := StV.new hn13 hu13
          have vS4 := Lib.hid ((vS3.out.below hb13).alloc (.cells #[.slice B1 L.length d1, .slice B2 (relU L u N M).length d2] 31))
          have vW4 := Lib.hid ((vW3.out.below hb13).alloc (.cells #[.slice B1 L.length d1, .slice B2 (relU L u N M).length d2] 31))
          have vH4 := Lib.hid ((vH3.out.below hb13).alloc (.cells #[.slice B1 L.length d1, .slice B2 (relU L u N M).length d2] 31))
          have k4 := Lib.hid ((Blk.below' k3.out hb13).alloc (.cells #[.slice B1 L.length d1, .slice B2 (relU L u N M).length d2] 31))
          have kT4 := Lib.hid ((Blk.below' kT3.out hb13).alloc (.cells #[.slice B1 L.length d1, .slice B2 (relU L u N M).length d2] 31))
          have kX4 := Lib.hid ((Blk.below' kX3.out hb13).alloc (.cells #[.slice B1 L.length d1, .slice B2 (relU L u N M).length d2] 31))
          have D4 : Hid (Below w12.heap.size w12 (w13.alloc (.cells #[.slice B1 L.length d1, .slice B2 (relU L u N M).length d2] 31))) := hb13.alloc hb13.size _
          have hUz : w12.heap.size ≤ w13.heap.size := hb13.size
          clear hn13 hu13 hb13 s0 s1
          go_upto_region 21 with fail
          generalize w13.alloc (.cells #[.slice B1 L.length d1, .slice B2 (relU L u N M).length d2] 31) = w14 at vU vS4 vW4 vH4 k4 kT4 kX4 D4 ⊢
          generalize w13.heap.size = gU at vU hUz ⊢
          have hUl : gU < w14.heap.size := vU.out.blk.lt
          have f0 : w14.cell? ⟨gW, 0, none⟩ = some (.slice A9 L.length c9) := vW4.out.c0
          have f1 : w14.cell? ⟨gW, 1, none⟩ = some (.slice A10 u.length c10) := vW4.out.c1
          have e1 : w14.cell? ⟨wr.heap.size, 1, none⟩ = some (.int .i64 N) := k4.out.cell 1
          have e2 : w14.cell? ⟨wr.heap.size, 2, none⟩ = some (.int .i64 M) := k4.out.cell 2
          go_wp2_with fail
          refine (rrelease_any A9 A10 c9 c10 L u N M w14 (Lib.hid vW4.out.nds) (Lib.hid vW4.out.ris) hg.out hN hA.1 hA.2).mono ?_
          rintro e w15 ⟨B3, d3, B4, d4, rfl, hn15, hu15, hb15⟩
          generalize relF L u N M = p1 at *
          have j1 : (p1 == p1) = true := by simp
          have vY : Hid (StV (w15.alloc (.cells #[.slice B3 L.length d3, .slice B4 (relU L u N M).length d4] 26)) w15.heap.size 26 B3 B4 L.length (relU L u N M).length d3 d4 L (relU L u N M)) := StV.new hn15 hu15
          have vU5 := Lib.hid ((vU.out.below hb15).alloc (.cells #[.slice B3 L.length d3, .slice B4 (relU L u N M).length d4] 26))
          have vS5 := Lib.hid ((vS4.out.below hb15).alloc (.cells #[.slice B3 L.length d3, .slice B4 (relU L u N M).length d4] 26))
          have vW5 := Lib.hid ((vW4.out.below hb15).alloc (.cells #[.slice B3 L.length d3, .slice B4 (relU L u N M).length d4] 26))
          have vH5 := Lib.hid ((vH4.out.below hb15).alloc (.cells #[.slice B3 L.length d3, .slice B4 (relU L u N M).length d4] 26))
          have kT5 := Lib.hid ((Blk.below' kT4.out hb15).alloc (.cells #[.slice B3 L.length d3, .slice B4 (relU L u N M).length d4] 26))
          have kX5 := Lib.hid ((Blk.below' kX4.out hb15).alloc (.cells #[.slice B3 L.length d3, .slice B4 (relU L u N M).length d4] 26))
          have D5 : Hid (Below w12.heap.size w12 (w15.alloc (.cells #[.slice B3 L.length d3, .slice B4 (relU L u N M).length d4] 26))) := (below_step D4.out hb15).alloc (below_step D4.out hb15).size _
          have hYz : gU < w15.heap.size := Nat.lt_of_lt_of_le hUl hb15.size
          clear hn15 hu15 hb15 e1 e2 f0 f1 vU vS4 vW4 vH4 kT4 kX4 D4 k4
          go_upto_region 22 with fail
          generalize w15.alloc (.cells #[.slice B3 L.length d3, .slice B4 (relU L u N M).length d4] 26) = w16 at vY vU5 vS5 vW5 vH5 kT5 kX5 D5 ⊢
          generalize w15.heap.size = gY at vY hYz ⊢
          have f0 : w16.cell? ⟨gU, 0, none⟩ = some (.slice B1 L.length d1) := vU5.out.c0
          have f1 : w16.cell? ⟨gU, 1, none⟩ = some (.slice B2 (relU L u N M).length d2) := vU5.out.c1
          have f2 : w16.cell? ⟨gY, 0, none⟩ = some (.slice B3 L.length d3) := vY.out.c0
          have f3 : w16.cell? ⟨gY, 1, none⟩ = some (.slice B4 (relU L u N M).length d4) := vY.out.c1
          obtain ⟨T0, T1, T2, T3⟩ := zero_cells kT5.out
          obtain ⟨X0, X1, X2, X3⟩ := zero_cells kX5.out
          have z1 : gU ≠ gT := by omega
          have z2 : gY ≠ gT := by omega
          have z3 : gU ≠ gX := by omega
          have z4 : gY ≠ gX := by omega
          go_region_held3 (fun w' => w'.cell? ⟨gU, 0, none⟩ = some (.slice B1 L.length d1) ∧ w'.cell? ⟨gU, 1, none⟩ = some (.slice B2 (relU L u N M).length d2) ∧ w'.cell? ⟨gY, 0, none⟩ = some (.slice B3 L.length d3) ∧ w'.cell? ⟨gY, 1, none⟩ = some (.slice B4 (relU L u N M).length d4)) (simp only [drewC, far_two' z1, far_two' z2, far_two' z3, far_two' z4, f0, f1, f2, f3, and_self]) (fail)
          go_wp2_with fail
          go_meet
          obtain ⟨q1, q2, q3, q4⟩ := put2 kT5.out kX5.out vU5.out vY.out (by omega)
          exact ⟨L, (relU L u N M), B1, B2, B3, B4, d1, d2, d3, d4, rfl, hgN, stv_drew q1, stv_drew q2, stv_drew (q3 vS5.out (by omega) (by omega)), stv_drew (q3 vW5.out (by omega) (by omega)), stv_drew (q3 vH5.out (by omega) (by omega)), (q4 (below_step d3'.out D5.out) (by omega) (by omega)).drew⟩
        · have s0 : w12.cell? ⟨gS, 0, none⟩ = some (.slice A7 L.length c7) := vS3.out.c0
          have s1 : w12.cell? ⟨gS, 1, none⟩ = some (.slice A8 u.length c8) := vS3.out.c1
          go_wp2_with fail
          refine (limit_any A7 A8 c7 c8 L u N M w12 (Lib.hid vS3.out.nds) (Lib.hid vS3.out.ris) hg.out hN hA.1 hA.2).mono ?_
          rintro e w13 ⟨B1, d1, B2, d2, rfl, hn13, hu13, hb13⟩
          have hgN : Hid (GoodSt (limL L N M) u) := good_lim hg.out N M
          have vU : Hid (StV (w13.alloc (.cells #[.slice B1 (limL L N M).length d1, .slice B2 u.length d2] 31)) w13.heap.size 31 B1 B2 (limL L N M).length u.length d1 d2 (limL L N M) u) := StV.new hn13 hu13
          have vS4 := Lib.hid ((vS3.out.below hb13).alloc (.cells #[.slice B1 (limL L N M).length d1, .slice B2 u.length d2] 31))
          have vW4 := Lib.hid ((vW3.out.below hb13).alloc (.cells #[.slice B1 (limL L N M).length d1, .slice B2 u.length d2] 31))
          have vH4 := Lib.hid ((vH3.out.below hb13).alloc (.cells #[.slice B1 (limL L N M).length d1, .slice B2 u.length d2] 31))
          have k4 := Lib.hid ((Blk.below' k3.out hb13).alloc (.cells #[.slice B1 (limL L N M).length d1, .slice B2 u.length d2] 31))
          have kT4 := Lib.hid ((Blk.below' kT3.out hb13).alloc (.cells #[.slice B1 (limL L N M).length d1, .slice B2 u.length d2] 31))
          have kX4 := Lib.hid ((Blk.below' kX3.out hb13).alloc (.cells #[.slice B1 (limL L N M).length d1, .slice B2 u.length d2] 31))
          have D4 : Hid (Below w12.heap.size w12 (w13.alloc (.cells #[.slice B1 (limL L N M).length d1, .slice B2 u.length d2] 31))) := hb13.alloc hb13.size _
          have hUz : w12.heap.size ≤ w13.heap.size := hb13.size
          clear hn13 hu13 hb13 s0 s1
          go_upto_region 25 with fail
          generalize w13.alloc (.cells #[.slice B1 (limL L N M).length d1, .slice B2 u.length d2] 31) = w14 at vU vS4 vW4 vH4 k4 kT4 kX4 D4 ⊢
          generalize w13.heap.size = gU at vU hUz ⊢
          have hUl : gU < w14.heap.size := vU.out.blk.lt
          have f0 : w14.cell? ⟨gW, 0, none⟩ = some (.slice A9 L.length c9) := vW4.out.c0
          have f1 : w14.cell? ⟨gW, 1, none⟩ = some (.slice A10 u.length c10) := vW4.out.c1
          have e1 : w14.cell? ⟨wr.heap.size, 1, none⟩ = some (.int .i64 N) := k4.out.cell 1
          have e2 : w14.cell? ⟨wr.heap.size, 2, none⟩ = some (.int .i64 M) := k4.out.cell 2
          go_wp2_with fail
          refine (rlimit_any A9 A10 c9 c10 L u N M w14 (Lib.hid vW4.out.nds) (Lib.hid vW4.out.ris) hg.out hN hA.1 hA.2).mono ?_
          rintro e w15 ⟨B3, d3, B4, d4, rfl, hn15, hu15, hb15⟩
          generalize limF L N M = p1 at *
          have j1 : (p1 == p1) = true := by simp
          have vY : Hid (StV (w15.alloc (.cells #[.slice B3 (limL L N M).length d3, .slice B4 u.length d4] 26)) w15.heap.size 26 B3 B4 (limL L N M).length u.length d3 d4 (limL L N M) u) := StV.new hn15 hu15
          have vU5 := Lib.hid ((vU.out.below hb15).alloc (.cells #[.slice B3 (limL L N M).length d3, .slice B4 u.length d4] 26))
          have vS5 := Lib.hid ((vS4.out.below hb15).alloc (.cells #[.slice B3 (limL L N M).length d3, .slice B4 u.length d4] 26))
          have vW5 := Lib.hid ((vW4.out.below hb15).alloc (.cells #[.slice B3 (limL L N M).length d3, .slice B4 u.length d4] 26))
          have vH5 := Lib.hid ((vH4.out.below hb15).alloc (.cells #[.slice B3 (limL L N M).length d3, .slice B4 u.length d4] 26))
          have kT5 := Lib.hid ((Blk.below' kT4.out hb15).alloc (.cells #[.slice B3 (limL L N M).length d3, .slice B4 u.length d4] 26))
          have kX5 := Lib.hid ((Blk.below' kX4.out hb15).alloc (.cells #[.slice B3 (limL L N M).length d3, .slice B4 u.length d4] 26))
          have D5 : Hid (Below w12.heap.size w12 (w15.alloc (.cells #[.slice B3 (limL L N M).length d3, .slice B4 u.length d4] 26))) := (below_step D4.out hb15).alloc (below_step D4.out hb15).size _
          have hYz : gU < w15.heap.size := Nat.lt_of_lt_of_le hUl hb15.size
          clear hn15 hu15 hb15 e1 e2 f0 f1 vU vS4 vW4 vH4 kT4 kX4 D4 k4
          go_upto_region 26 with fail
          generalize w15.alloc (.cells #[.slice B3 (limL L N M).length d3, .slice B4 u.length d4] 26) = w16 at vY vU5 vS5 vW5 vH5 kT5 kX5 D5 ⊢
          generalize w15.heap.size = gY at vY hYz ⊢
          have f0 : w16.cell? ⟨gU, 0, none⟩ = some (.slice B1 (limL L N M).length d1) := vU5.out.c0
          have f1 : w16.cell? ⟨gU, 1, none⟩ = some (.slice B2 u.length d2) := vU5.out.c1
          have f2 : w16.cell? ⟨gY, 0, none⟩ = some (.slice B3 (limL L N M).length d3) := vY.out.c0
          have f3 : w16.cell? ⟨gY, 1, none⟩ = some (.slice B4 u.length d4) := vY.out.c1
          obtain ⟨T0, T1, T2, T3⟩ := zero_cells kT5.out
          obtain ⟨X0, X1, X2, X3⟩ := zero_cells kX5.out
          have z1 : gU ≠ gT := by omega
          have z2 : gY ≠ gT := by omega
          have z3 : gU ≠ gX := by omega
          have z4 : gY ≠ gX := by omega
          go_region_held3 (fun w' => w'.cell? ⟨gU, 0, none⟩ = some (.slice B1 (limL L N M).length d1) ∧ w'.cell? ⟨gU, 1, none⟩ = some (.slice B2 u.length d2) ∧ w'.cell? ⟨gY, 0, none⟩ = some (.slice B3 (limL L N M).length d3) ∧ w'.cell? ⟨gY, 1, none⟩ = some (.slice B4 u.length d4)) (simp only [drewC, far_two' z1, far_two' z2, far_two' z3, far_two' z4, f0, f1, f2, f3, and_self]) (fail)
          go_wp2_with fail
          go_meet
          obtain ⟨q1, q2, q3, q4⟩ := put2 kT5.out kX5.out vU5.out vY.out (by omega)
          exact ⟨(limL L N M), u, B1, B2, B3, B4, d1, d2, d3, d4, rfl, hgN, stv_drew q1, stv_drew q2, stv_drew (q3 vS5.out (by omega) (by omega)), stv_drew (q3 vW5.out (by omega) (by omega)), stv_drew (q3 vH5.out (by omega) (by omega)), (q4 (below_step d3'.out D5.out) (by omega) (by omega)).drew⟩
      case rest =>
        obtain ⟨L', u', B1, B2, B3, B4, d1, d2, d3, d4, rfl, hg', vT, vX, vS', vW', vH', dx⟩ := hcut
        have n1' : (L'.length : Int) ≤ 1000000 := by have := hg'.out.few; omega
        have n2' : (u'.length : Int) ≤ 1000000 := by have := hg'.out.few; rw [hg'.out.len]; omega
        have T0 := vT.out.c0
        have T1 := vT.out.c1
        have X0 := vX.out.c0
        have X1 := vX.out.c1
        have S0 := vS'.out.c0
        have S1 := vS'.out.c1
        have H0 := vH'.out.c0
        have H1 := vH'.out.c1
        have KC : Hid (∀ W, Below wc.heap.size wc W → W.cell? ⟨gT, 0, none⟩ = some (.slice B1 L'.length d1) ∧ W.cell? ⟨gT, 1, none⟩ = some (.slice B2 u'.length d2) ∧ W.cell? ⟨gX, 0, none⟩ = some (.slice B3 L'.length d3) ∧ W.cell? ⟨gX, 1, none⟩ = some (.slice B4 u'.length d4) ∧ W.cell? ⟨gS, 0, none⟩ = some (.slice A7 L.length c7) ∧ W.cell? ⟨gS, 1, none⟩ = some (.slice A8 u.length c8) ∧ W.cell? ⟨gH, 0, none⟩ = some (.slice A11 L.length c11) ∧ W.cell? ⟨gH, 1, none⟩ = some (.slice A12 u.length c12)) := fun W hb => ⟨(vT.out.below hb).c0, (vT.out.below hb).c1, (vX.out.below hb).c0, (vX.out.below hb).c1, (vS'.out.below hb).c0, (vS'.out.below hb).c1, (vH'.out.below hb).c0, (vH'.out.below hb).c1⟩
        have ET : Hid (∀ W, Below wc.heap.size wc W → Hid (Nds W W.heap.size B1 L') ∧ Hid (Ris W W.heap.size B2 u')) := fun W hb => ⟨(vT.out.below hb).nds, (vT.out.below hb).ris⟩
        have EX : Hid (∀ W, Below wc.heap.size wc W → Hid (Nds W W.heap.size B3 L') ∧ Hid (Ris W W.heap.size B4 u')) := fun W hb => ⟨(vX.out.below hb).nds, (vX.out.below hb).ris⟩
        have ES : Hid (∀ W, Below wc.heap.size wc W → Hid (Nds W W.heap.size A7 L) ∧ Hid (Ris W W.heap.size A8 u)) := fun W hb => ⟨(vS'.out.below hb).nds, (vS'.out.below hb).ris⟩
        have EH : Hid (∀ W, Below wc.heap.size wc W → Hid (Nds W W.heap.size A11 L) ∧ Hid (Ris W W.heap.size A12 u)) := fun W hb => ⟨(vH'.out.below hb).nds, (vH'.out.below hb).ris⟩
        have dw : Hid (Below wc.heap.size wc wc.drew) := (Below.refl _ _).drew
        have HRf := hg'.out.right
        have HR := Lib.hid HRf
        have HWF := Lib.hid hg'.out.wf
        have HWI := Lib.hid hg'.out.wfi
        clear HRf
        go_upto_region 27 with fail
        go_region_held3 (fun w' => w'.cell? ⟨gT, 0, none⟩ = some (.slice B1 L'.length d1) ∧ w'.cell? ⟨gT, 1, none⟩ = some (.slice B2 u'.length d2) ∧ w'.cell? ⟨gX, 0, none⟩ = some (.slice B3 L'.length d3) ∧ w'.cell? ⟨gX, 1, none⟩ = some (.slice B4 u'.length d4) ∧ w'.cell? ⟨gS, 0, none⟩ = some (.slice A7 L.length c7) ∧ w'.cell? ⟨gS, 1, none⟩ = some (.slice A8 u.length c8) ∧ w'.cell? ⟨gH, 0, none⟩ = some (.slice A11 L.length c11) ∧ w'.cell? ⟨gH, 1, none⟩ = some (.slice A12 u.length c12))
          (first | (exact KC.out _ (Hid.out (by assumption))) | go_keep)
          (first
            | (go_at_call 18; (with_reducible refine (from_any B1 B2 d1 d2 L' u' _ (ET.out _ dw.out).1 (ET.out _ dw.out).2 n1' n2').mono ?_); rintro e y1 ⟨E1, h1, E2, h2, rfl, hn1, hu1, hb1⟩; have D1 := Lib.hid (below_step dw.out hb1); have HN1 := Lib.hid hn1; have HU1 := Lib.hid hu1; clear hn1 hu1)
            | (go_at_call 17; (with_reducible refine (same_any E1 E2 B3 B4 h1 h2 d3 d4 L' u' _ HN1 HU1 (EX.out _ D1.out).1 (EX.out _ D1.out).2 n1' n2').mono ?_); rintro e y2 ⟨rfl, hb2⟩; have D2 := Lib.hid (below_step D1.out hb2))
            | (go_at_call 18; (with_reducible refine (from_any A7 A8 c7 c8 L u _ (ES.out _ D2.out).1 (ES.out _ D2.out).2 n1 n2).mono ?_); rintro e y3 ⟨E3, h3, E4, h4, rfl, hn3, hu3, hb3⟩; have D3 := Lib.hid (below_step D2.out hb3); have HN3 := Lib.hid hn3; have HU3 := Lib.hid hu3; clear hn3 hu3)
            | (go_at_call 17; (with_reducible refine (same_any E3 E4 A11 A12 h3 h4 c11 c12 L u _ HN3 HU3 (EH.out _ D3.out).1 (EH.out _ D3.out).2 n1 n2).mono ?_); rintro e y4 ⟨rfl, hb4⟩; have D4 := Lib.hid (below_step D3.out hb4))
            | (go_at_call 25; (with_reducible refine (right_any B1 B2 d1 d2 L' u' _ (ET.out _ D4.out).1 (ET.out _ D4.out).2 HWF HWI n1' n2').mono ?_); rintro e y5 ⟨rfl, hb5⟩; have D5 := Lib.hid (below_step D4.out hb5); rw [HR.out]))
        clear T0 T1 X0 X1 S0 S1 H0 H1
        have D6 : Hid (Below wc.heap.size wc y5) := D5
        have vT6 := Lib.hid (vT.out.below D6.out)
        have vX6 := Lib.hid (vX.out.below D6.out)
        have vS6 := Lib.hid (vS'.out.below D6.out)
        have vW6 := Lib.hid (vW'.out.below D6.out)
        have b6 : Hid (Below w.heap.size w y5) := below_step (below_step bl'.out dx) D6.out
        clear KC ET EX ES EH HN1 HU1 HN3 HU3 D1 D2 D3 D4 D5 D6 hb1 hb2 hb3 hb4 hb5
        go_upto_region 29 with fail
        have f0 : y5.cell? ⟨gT, 0, none⟩ = some (.slice B1 L'.length d1) := vT6.out.c0
        have f1 : y5.cell? ⟨gT, 1, none⟩ = some (.slice B2 u'.length d2) := vT6.out.c1
        have f2 : y5.cell? ⟨gX, 0, none⟩ = some (.slice B3 L'.length d3) := vX6.out.c0
        have f3 : y5.cell? ⟨gX, 1, none⟩ = some (.slice B4 u'.length d4) := vX6.out.c1
        have S0 := vS6.out.c0
        have S1 := vS6.out.c1
        have S2 := vS6.out.blk.thaw 0
        have S3 := vS6.out.blk.thaw 1
        have W0 := vW6.out.c0
        have W1 := vW6.out.c1
        have W2 := vW6.out.blk.thaw 0
        have W3 := vW6.out.blk.thaw 1
        have z1 : gT ≠ gS := by omega
        have z2 : gX ≠ gS := by omega
        have z3 : gT ≠ gW := by omega
        have z4 : gX ≠ gW := by omega
        go_region_held3 (fun w' => w'.cell? ⟨gT, 0, none⟩ = some (.slice B1 L'.length d1) ∧ w'.cell? ⟨gT, 1, none⟩ = some (.slice B2 u'.length d2) ∧ w'.cell? ⟨gX, 0, none⟩ = some (.slice B3 L'.length d3) ∧ w'.cell? ⟨gX, 1, none⟩ = some (.slice B4 u'.length d4)) (simp only [drewC, far_two' z1, far_two' z2, far_two' z3, far_two' z4, f0, f1, f2, f3, and_self]) (fail)
        go_wp2_with fail
        obtain ⟨q1, q2, q3, q4⟩ := put2 vS6.out.blk vW6.out.blk vT6.out vX6.out (by omega)
        go_roundg g
        case measure => omega
        case rel => exact ⟨i + 1, L', u', B1, B2, B3, B4, d1, d2, d3, d4, by have := HI.out; omega, by go_num, hg', stv_drew q1, stv_drew q2, (q4 b6.out (by omega) (by omega)).drew⟩
    · by_cases hx1 : i < ops.length
      · have t1 : decide ((i : Int) < 60) = false := by simp; omega
        have t2 : decide ((i : Int) < (ops.length : Int)) = true := by simp; omega
        clear hlt' hi
        go_wp2_with fail
        go_ret
        exact madeB_mk rfl bl
      · have t2 : decide ((i : Int) < (ops.length : Int)) = false := by simp; omega
        clear hlt' hi
        go_wp2_with fail
        go_ret
        exact madeB_mk rfl bl

set_option maxRecDepth 100000 in
theorem lifted (os : Os) (started : os.Started) (H : Type) (enc : TypeId × Value → H) :
    ReturnsInHanded {} Try.checked os 3 .any (Rows.creditActsSpec.pre6 enc Try.prog Try.f3 Rows.creditActsRow.domain false) (Rows.creditActsSpec.post enc Try.prog Try.f3 false true false false) := by
  refine returnsInHanded_of_change (C := Try.checked) own started (by kernel_rfl) Try.func3
    (ChangeSpec.witness6 (enc := enc) (C := Try.checked) false ⟨#[], #[.slice none 0 0, .slice none 0 0], []⟩ 8 (by kernel_rfl) (by kernel_rfl) (by kernel_rfl) (by kernel_rfl)) ?_
  intro W base args ds gs before hval0 hW hcnd _
  have hval : ∀ (j : Nat) t v, Try.f3.params[j]? = some t → args[j]? = some v → Value.okWide Try.prog W .any base t v := hval0
  have hW' := hW
  obtain ⟨p, q, hA0, hV, rfl, hfz, hnd⟩ := hW
  have hA : DataW.TrodAll enc Try.prog W 0 (fun _ => true) true Try.f3.params.toList args.toList ds p := hA0
  rw [Try.params3] at hA hval
  obtain ⟨v0, v1, d0, d1, p0, p1, rfl, rfl, rfl, h0, h1⟩ := trodAll_two hA
  obtain ⟨A, c, l, rfl, hlc, hcm, hl, hw⟩ := open_nodes Try.underlying22 Try.underlying57 (by kernel_rfl) rfl rfl (by kernel_rfl) (by kernel_rfl) Try.underlying3 Try.underlying2 (hval 0 _ v0 rfl rfl) h0
  obtain ⟨A2, c2, ops, rfl, hac, ham, ha, hwa⟩ := open_threes Try.underlying23 Try.underlying38 (by kernel_rfl) rfl rfl rfl (by kernel_rfl) (by kernel_rfl) (by kernel_rfl) Try.underlying3 Try.underlying3 Try.underlying2 (hval 1 _ v1 rfl rfl) h1
  refine (inner A A2 c c2 l ops W hl hw ha hwa (by unfold maxLen at hcm; omega) (by unfold maxLen at ham; omega)).mono fun e W' ⟨he, hb⟩ => ?_
  subst he
  exact ⟨_, rfl, law_post hW' rfl rfl rfl rfl (by kernel_rfl) Try.underlying4 (by rw [Try.params3]; simp only [List.mem_cons, List.not_mem_nil, or_false, forall_eq_or_imp, forall_eq]; exact ⟨⟨by kernel_rfl, of_decide_eq_true (by kernel_rfl)⟩, ⟨by kernel_rfl, of_decide_eq_true (by kernel_rfl)⟩⟩) laidOut hb⟩

theorem over : Rows.creditActsRow.holds Try.pinned (OpenSpec.ofChange Rows.creditActsSpec) :=
  OpenClaim.holds_of_wide 3 Try.f3 rfl rfl rfl rfl rfl rfl rfl ⟨rfl, rfl, rfl, rfl, rfl⟩ rfl rfl rfl rfl rfl (by kernel_rfl) Try.func3 (by kernel_rfl)
    (of_decide_eq_true (by kernel_rfl)) (by unfold Func.isWrapper; first | (rw [if_pos (by decide +kernel)]; kernel_rfl) | (rw [if_neg (by decide +kernel)]; exact ⟨rfl, rfl⟩))
    (fun os started H enc _ => lifted os started H enc)

theorem proved : Rows.CreditActsSaid := over
#print axioms proved
end Go.Proofs.Ytlipkggcakgcnaa.creditActs
