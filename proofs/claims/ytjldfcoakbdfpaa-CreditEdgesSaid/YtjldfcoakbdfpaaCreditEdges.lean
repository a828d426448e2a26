/- For every list of nodes, leaf and amounts the law CreditEdges returns true, and changes nothing: of each node just as much may be reserved as is left, of one more it is told whose lacks. No condition. -/
import Derived.Test.YtjldfcoakbdfpaaEpl
import Derived.Test.YtjldfcoakbdfpaaFr4
import Derived.Test.YtjldfcoakbdfpaaTo4
import Derived.Test.YtjldfcoakbdfpaaOpn
namespace Go.Proofs.Ytjldfcoakbdfpaa.creditEdges
open Go.ChangeShapes Go.WideShapes Go.ChangeAt Go.RowKit Mem Tre Ref3 Law3 Fix3 Crd CrdB CrdC Cpl Own Res Rr4 Sm4 Told4 To4 Fr4 Opn Epl Go.Joins Go.Deep
set_option linter.unusedVariables false

theorem own : ownKnob Try.prog.godebug = none := by kernel_rfl
theorem laidOut : laidOutB Try.prog = true := by kernel_rfl

/-- a variable of the program's takes another State -/
theorem stv_store {W : World} {g n n' c c' : Nat} {te : TypeId} {A A' B B' : Option Addr} {d d' : Nat} {l : List (Int × Int)} {v : List Int} (h : Blk W g te #[.slice A n c, .slice A' n' c']) {m m' : Nat} (h1 : Nds W W.heap.size B l) (h2 : Ris W W.heap.size B' v) :
    StV ((W.setCell ⟨g, 0, none⟩ (.slice B m d)).setCell ⟨g, 1, none⟩ (.slice B' m' d')) g te B B' m m' d d' l v := by
  have k1 : Blk (W.setCell ⟨g, 0, none⟩ (.slice B m d)) g te #[.slice B m d, .slice A' n' c'] := blk_set h 0 _
  exact ⟨blk_set k1 1 _, rd_setBlk (rd_setBlk h1 h (allInt_nds l) _) k1 (allInt_nds l) _, rd_setBlk (rd_setBlk h2 h (allInt_ints v) _) k1 (allInt_ints v) _⟩
/-- another variable stays -/
theorem stv_far {W : World} {g n n' c c' g2 m m' d d' q q' r r' : Nat} {te te2 : TypeId} {A A' B B' E E' : Option Addr} {l : List (Int × Int)} {u : List Int} (h : Blk W g te #[.slice A n c, .slice A' n' c']) (h2 : StV W g2 te2 B B' m m' d d' l u) (hne : g2 ≠ g) :
    StV ((W.setCell ⟨g, 0, none⟩ (.slice E q r)).setCell ⟨g, 1, none⟩ (.slice E' q' r')) g2 te2 B B' m m' d d' l u := by
  have k1 : Blk (W.setCell ⟨g, 0, none⟩ (.slice E q r)) g te #[.slice E q r, .slice A' n' c'] := blk_set h 0 _
  exact ⟨blk_far (blk_far h2.blk (by simpa using hne) _) (by simpa using hne) _, rd_setBlk (rd_setBlk h2.nds h (allInt_nds l) _) k1 (allInt_nds l) _, rd_setBlk (rd_setBlk h2.ris h (allInt_ints u) _) k1 (allInt_ints u) _⟩
theorem stv_drew {W : World} {g n n' c c' : Nat} {te : TypeId} {A A' : Option Addr} {l : List (Int × Int)} {u : List Int} (h : StV W g te A A' n n' c c' l u) : StV W.drew g te A A' n n' c c' l u := ⟨h.blk, h.nds, h.ris⟩
theorem i64_in (x : Int) : inI (IntKind.i64.wrap x) := by unfold inI; rw [IntKind.wrap_i64]; omega
theorem i64_lo (x : Int) : -9223372036854775808 ≤ IntKind.i64.wrap x := (i64_in x).1
theorem i64_hi (x : Int) : IntKind.i64.wrap x ≤ 9223372036854775807 := (i64_in x).2
theorem stv_drewN {W : World} {g n n' c c' : Nat} {te : TypeId} {A A' : Option Addr} {l : List (Int × Int)} {u : List Int} (h : StV W g te A A' n n' c c' l u) (N : Nat) : StV (W.drewN N) g te A A' n n' c c' l u := ⟨h.blk, h.nds, h.ris⟩
theorem minF_step (f : Nat → Int) {q : Nat} (hq : 1 ≤ q) : minF f q = if f q < (minF f (q - 1)).1 then (f q, q) else minF f (q - 1) := by
  obtain ⟨k, rfl⟩ : ∃ k, q = k + 1 := ⟨q - 1, by omega⟩
  rfl
theorem nds_store {W : World} {g n n' c c' : Nat} {te : TypeId} {A A' : Option Addr} (h : Blk W g te #[.slice A n c, .slice A' n' c']) {B : Option Addr} {f : List (Int × Int)} (h1 : Nds W W.heap.size B f) (a b : Option Addr) (m m' d d' : Nat) :
    Nds ((W.setCell ⟨g, 0, none⟩ (.slice a m d)).setCell ⟨g, 1, none⟩ (.slice b m' d')) ((W.setCell ⟨g, 0, none⟩ (.slice a m d)).setCell ⟨g, 1, none⟩ (.slice b m' d')).heap.size B f := by
  have k1 : Blk (W.setCell ⟨g, 0, none⟩ (.slice a m d)) g te #[.slice a m d, .slice A' n' c'] := blk_set h 0 _
  exact rd_setBlk (rd_setBlk h1 h (allInt_nds f) _) k1 (allInt_nds f) _

theorem k_in (leaf : Int) (n : Nat) (h0 : 1 ≤ n) (h1 : n ≤ 32) : 0 ≤ wrap64 ((IntKind.u64.wrap leaf).tmod (n : Int)) ∧ wrap64 ((IntKind.u64.wrap leaf).tmod (n : Int)) < n := by
  rw [wrap_u64, Int.tmod_eq_emod_of_nonneg (Int.emod_nonneg _ (by decide))]
  have a := Int.emod_nonneg (leaf % 18446744073709551616) (b := (n : Int)) (by omega)
  have b := Int.emod_lt_of_pos (leaf % 18446744073709551616) (b := (n : Int)) (by omega)
  generalize leaf % 18446744073709551616 % (n : Int) = r at *
  unfold wrap64
  omega

set_option maxRecDepth 100000 in
set_option maxHeartbeats 4000000 in
theorem inner (A A' : Option Addr) (c c' : Nat) (l : List (Int × Int)) (leaf : Int) (am : List Int) (w : World) (hl : Hid (Nds w w.heap.size A l)) (hw : Hid (WfN l)) (ha : Hid (Ris w w.heap.size A' am)) (hwa : Hid (WfI am)) (hmax : (l.length : Int) ≤ 9223372036854775807) (hmay : (am.length : Int) ≤ 9223372036854775807) (hlf : inI leaf) :
    Calls Try.prog 8 #[.slice A l.length c, .int .i64 leaf, .slice A' am.length c'] w (MadeB true w) := by
  obtain ⟨F, hF⟩ : ∃ F, F = fixF l := ⟨_, rfl⟩
  have HF := Lib.hid hF
  have o1 : Hid (Okt F) := by rw [hF]; exact okt_fixF l
  have o2 : F.length ≤ 10 := by rw [hF]; exact (fixF_len l).2
  have o3 : 1 ≤ F.length := by rw [hF]; exact (fixF_len l).1
  have o4 : Hid (WfN F) := okt_wf o1.out (by omega)
  obtain ⟨hlf0, hlf1⟩ := hlf
  clear hF
  go_enter Try.func8, Try.ntmps8
  go_wp2_with fail
  refine (fix_any A c l w hl hw hmax).mono ?_
  rintro e w1 ⟨A1, c1, rfl, hr1, hb1⟩
  rw [← HF.out] at hr1 ⊢
  have r1 : Hid (Nds w1 w1.heap.size A1 F) := hr1
  clear hr1
  go_wp2_with fail
  refine (to_any A1 c1 F w1 r1 o4 (by omega)).mono ?_
  rintro e w2 ⟨A2, c2, rfl, hr2, hb2⟩
  have r2 : Hid (Nds w2 w2.heap.size A2 F) := hr2
  have r1' : Hid (Nds w2 w2.heap.size A1 F) := Rd.below' r1.out hb2 hb2.size
  have b2 := below_step hb1 hb2
  clear hr2 r1 hb1 hb2
  go_wp2_with fail
  refine (begin_any A2 c2 F w2 r2 (by omega)).mono ?_
  rintro e w3 ⟨A3, c3, A4, c4, rfl, hn3, hu3, hb3⟩
  have b3 := below_step b2 hb3
  obtain ⟨u0, hu0⟩ : ∃ u, u = zeros F.length := ⟨_, rfl⟩
  rw [← hu0] at hu3 ⊢
  have hg0 : Hid (GoodSt F u0) := by rw [hu0]; exact good_begin o1.out o3 (by omega)
  have hc0 : Hid (UC F u0) := by rw [hu0]; exact uc_begin o1.out
  have v3 : Hid (StV (w3.alloc (.cells #[.slice A3 F.length c3, .slice A4 u0.length c4] 47)) w3.heap.size 47 A3 A4 F.length u0.length c3 c4 F u0) := StV.new hn3 hu3
  have n3 : Hid (Nds (w3.alloc (.cells #[.slice A3 F.length c3, .slice A4 u0.length c4] 47)) (w3.alloc (.cells #[.slice A3 F.length c3, .slice A4 u0.length c4] 47)).heap.size A1 F) := Rd.below' (Rd.below' r1'.out hb3 hb3.size) ((Below.refl _ _).alloc (Nat.le_refl _) _) (by simp)
  have b3' : Below w.heap.size w (w3.alloc (.cells #[.slice A3 F.length c3, .slice A4 u0.length c4] 47)) := b3.alloc b3.size _
  have hgs : w.heap.size ≤ w3.heap.size := b3.size
  clear hu0 hn3 hu3 r2 r1' b2 hb3 b3
  go_wp2_with fail
  generalize w3.alloc (.cells #[.slice A3 F.length c3, .slice A4 u0.length c4] 47) = w4 at v3 n3 b3' ⊢
  generalize w3.heap.size = gS at v3 hgs ⊢
  go_loopg [10] (min am.length 10) (fun g s10 w' => ∃ (i : Nat) (A5 A6 : Option Addr) (c5 c6 : Nat) (u : List Int), i + g = min am.length 10 ∧ s10 = .int .i64 i ∧ Hid (GoodSt F u) ∧ Hid (UC F u) ∧ Hid (StV w' gS 47 A5 A6 F.length u.length c5 c6 F u) ∧ Hid (Nds w' w'.heap.size A1 F) ∧ Below w.heap.size w w')
  case atStart => exact ⟨0, A3, A4, c3, c4, u0, by omega, rfl, hg0, hc0, v3, n3, b3'⟩
  case round =>
    obtain ⟨i, A5, A6, c5, c6, u, hi, rfl, hg, hc, v, nn, bl⟩ := hrel
    have s0 : wr.cell? ⟨gS, 0, none⟩ = some (.slice A5 F.length c5) := v.out.c0
    have s1 : wr.cell? ⟨gS, 1, none⟩ = some (.slice A6 u.length c6) := v.out.c1
    by_cases hlt : i < am.length ∧ i < 10
    · obtain ⟨g, rfl⟩ : ∃ g, gk = g + 1 := ⟨gk - 1, by omega⟩
      obtain ⟨hlt1, hlt2⟩ := hlt
      obtain ⟨b, o, rfl, hb, hcc⟩ := Ris.at (i := i) ha.out hlt1
      have d0 : wr.cell? ⟨b, o + i, none⟩ = some (.int .i64 (gI am i)) := (bl.cell (p := ⟨b, o + i, none⟩) hb).trans (hcc i hlt1)
      have t1 : decide ((i : Int) < 10) = true := by simp; omega
      have t2 : decide ((i : Int) < (am.length : Int)) = true := by simp; omega
      have HI := Lib.hid hi
      have hU : IntKind.u64.wrap (F.length : Int) = (F.length : Int) := by rw [wrap_u64]; omega
      have hz1 : ((F.length : Int) == 0) = false := beq_eq_false_iff_ne.2 (by omega)
      have hz2 : ¬ (F.length : Int) = 0 := by omega
      have hz3 : ¬ F = [] := by intro e; rw [e] at o3; simp at o3
      have hz4 : ¬ F.length = 0 := by omega
      have hbw : b < wr.heap.size := by have := bl.size; omega
      have hgw : gS < wr.heap.size := v.out.blk.lt
      have d0z : (wr.alloc (.cells #[.slice none 0 0, .slice none 0 0] 47)).drew.cell? ⟨b, o + i, none⟩ = some (.int .i64 (gI am i)) := (World.cell?_alloc_lt wr _ ⟨b, o + i, none⟩ hbw).trans d0
      clear hcc hi
      have v1 : Hid (StV wr.drew gS 47 A5 A6 F.length u.length c5 c6 F u) := stv_drew v.out
      have v2 : Hid (StV (wr.alloc (.cells #[.slice none 0 0, .slice none 0 0] 47)).drew gS 47 A5 A6 F.length u.length c5 c6 F u) := stv_drew (v.out.alloc _)
      have z2 : Hid (Blk (wr.alloc (.cells #[.slice none 0 0, .slice none 0 0] 47)).drew wr.heap.size 47 #[.slice none 0 0, .slice none 0 0]) := Blk.fresh wr _ _
      go_wp2_with fail
      go_region_held3 (fun w' => w'.cell? ⟨gS, 0, none⟩ = some (.slice A5 F.length c5) ∧ w'.cell? ⟨gS, 1, none⟩ = some (.slice A6 u.length c6) ∧ w'.cell? ⟨b, o + i, none⟩ = some (.int .i64 (gI am i)))
        (first | go_keep | (exact ⟨x0, x1, x2⟩) | (exact ⟨y0 _ _, y1 _ _, y2 _ _⟩))
        (first
          | (go_at_call 23; (with_reducible refine (reserve_any A5 A6 c5 c6 F u _ _ (wr.drew) (Lib.hid v1.out.nds) (Lib.hid v1.out.ris) hg.out (i64_in _) (i64_lo _) (i64_hi _)).mono ?_); rintro e w5 ⟨B5, d5, B6, d6, rfl, hn5, hu5, hb5⟩; have vv := Lib.hid (v1.out.below hb5); have x0 : w5.cell? ⟨gS, 0, none⟩ = some (.slice A5 F.length c5) := vv.out.c0; have x1 : w5.cell? ⟨gS, 1, none⟩ = some (.slice A6 u.length c6) := vv.out.c1; have x2 : w5.cell? ⟨b, o + i, none⟩ = some (.int .i64 (gI am i)) := cell_later hb5 d0)
          | (go_at_call 23; (with_reducible refine (reserve_any A5 A6 c5 c6 F u _ _ ((wr.alloc (.cells #[.slice none 0 0, .slice none 0 0] 47)).drew) (Lib.hid v2.out.nds) (Lib.hid v2.out.ris) hg.out (i64_in _) (i64_lo _) (i64_hi _)).mono ?_); rintro e w5 ⟨B5, d5, B6, d6, rfl, hn5, hu5, hb5⟩; have vv := Lib.hid (v2.out.below hb5); have zz := Lib.hid (Blk.below' z2.out hb5); have x0 : w5.cell? ⟨gS, 0, none⟩ = some (.slice A5 F.length c5) := vv.out.c0; have x1 : w5.cell? ⟨gS, 1, none⟩ = some (.slice A6 u.length c6) := vv.out.c1; have x2 : w5.cell? ⟨b, o + i, none⟩ = some (.int .i64 (gI am i)) := cell_later hb5 (d0z); have r0 : w5.cell? ⟨wr.heap.size, 0, none⟩ = some (.slice none 0 0) := zz.out.cell 0; have r1 : w5.cell? ⟨wr.heap.size, 1, none⟩ = some (.slice none 0 0) := zz.out.cell 1; have r2 : w5.frozen? ⟨wr.heap.size, 0, none⟩ = false := zz.out.thaw 0; have r3 : w5.frozen? ⟨wr.heap.size, 1, none⟩ = false := zz.out.thaw 1; have y0 : ∀ x y, ((w5.setCell ⟨wr.heap.size, 0, none⟩ x).setCell ⟨wr.heap.size, 1, none⟩ y).cell? ⟨gS, 0, none⟩ = some (.slice A5 F.length c5) := fun x y => (blk_far (blk_far vv.out.blk (p := ⟨wr.heap.size, 0, none⟩) (by simp; omega) x) (p := ⟨wr.heap.size, 1, none⟩) (by simp; omega) y).cell 0; have y1 : ∀ x y, ((w5.setCell ⟨wr.heap.size, 0, none⟩ x).setCell ⟨wr.heap.size, 1, none⟩ y).cell? ⟨gS, 1, none⟩ = some (.slice A6 u.length c6) := fun x y => (blk_far (blk_far vv.out.blk (p := ⟨wr.heap.size, 0, none⟩) (by simp; omega) x) (p := ⟨wr.heap.size, 1, none⟩) (by simp; omega) y).cell 1; have y2 : ∀ x y, ((w5.setCell ⟨wr.heap.size, 0, none⟩ x).setCell ⟨wr.heap.size, 1, none⟩ y).cell? ⟨b, o + i, none⟩ = some (.int .i64 (gI am i)) := fun x y => far2 x2 (by omega) 0))
      generalize hM : (IntKind.i64.wrap ((IntKind.u64.wrap (gI am i)).tmod ↑F.length)) = M at *
      generalize hX : (IntKind.i64.wrap ((IntKind.u64.wrap (gI am i)).tmod 1000)) = X at *
      clear hM hX hU
      have hT : Hid (StV (w5.alloc (.cells #[.slice B5 F.length d5, .slice B6 (resU F u M X).length d6] 47)) w5.heap.size 47 B5 B6 F.length (resU F u M X).length d5 d6 F (resU F u M X)) := StV.new hn5 hu5
      have hS : Hid (StV (w5.alloc (.cells #[.slice B5 F.length d5, .slice B6 (resU F u M X).length d6] 47)) gS 47 A5 A6 F.length u.length c5 c6 F u) := vv.out.alloc _
      have hN : Hid (Nds (w5.alloc (.cells #[.slice B5 F.length d5, .slice B6 (resU F u M X).length d6] 47)) (w5.alloc (.cells #[.slice B5 F.length d5, .slice B6 (resU F u M X).length d6] 47)).heap.size A1 F) := Rd.below' (Rd.below' (show Nds wr.drew wr.drew.heap.size A1 F from nn.out) hb5 hb5.size) ((Below.refl _ _).alloc (Nat.le_refl _) _) (by simp)
      have hB : Below w.heap.size w (w5.alloc (.cells #[.slice B5 F.length d5, .slice B6 (resU F u M X).length d6] 47)) := (below_step (bl.drew) hb5).alloc (below_step (bl.drew) hb5).size _
      have hne : gS ≠ w5.heap.size := by have := vv.out.blk.lt; omega
      clear hn5 hu5 hb5 x0 x1 x2 vv
      generalize (w5.alloc (.cells #[.slice B5 F.length d5, .slice B6 (resU F u M X).length d6] 47)) = wf at hT hS hN hB ⊢
      generalize w5.heap.size = gT at hT hne ⊢
      rotate_left
      generalize hM : (IntKind.i64.wrap ((IntKind.u64.wrap (gI am i)).tmod ↑F.length)) = M at *
      generalize hX : (IntKind.i64.wrap ((IntKind.u64.wrap (gI am i)).tmod 1000)) = X at *
      clear hM hX hU
      have hT : Hid (StV ((w5.setCell ⟨wr.heap.size, 0, none⟩ (.slice B5 F.length d5)).setCell ⟨wr.heap.size, 1, none⟩ (.slice B6 (resU F u M X).length d6)) wr.heap.size 47 B5 B6 F.length (resU F u M X).length d5 d6 F (resU F u M X)) := stv_store zz.out hn5 hu5
      have hne : gS ≠ wr.heap.size := by omega
      have hS : Hid (StV ((w5.setCell ⟨wr.heap.size, 0, none⟩ (.slice B5 F.length d5)).setCell ⟨wr.heap.size, 1, none⟩ (.slice B6 (resU F u M X).length d6)) gS 47 A5 A6 F.length u.length c5 c6 F u) := stv_far zz.out vv.out hne
      have hN : Hid (Nds ((w5.setCell ⟨wr.heap.size, 0, none⟩ (.slice B5 F.length d5)).setCell ⟨wr.heap.size, 1, none⟩ (.slice B6 (resU F u M X).length d6)) ((w5.setCell ⟨wr.heap.size, 0, none⟩ (.slice B5 F.length d5)).setCell ⟨wr.heap.size, 1, none⟩ (.slice B6 (resU F u M X).length d6)).heap.size A1 F) := nds_store zz.out (Rd.below' (Rd.drew (Rd.below' nn.out ((Below.refl _ _).alloc (Nat.le_refl _) (.cells #[.slice none 0 0, .slice none 0 0] 47)) (by simp))) hb5 hb5.size) _ _ _ _ _ _
      have hB : Below w.heap.size w ((w5.setCell ⟨wr.heap.size, 0, none⟩ (.slice B5 F.length d5)).setCell ⟨wr.heap.size, 1, none⟩ (.slice B6 (resU F u M X).length d6)) := ((below_step ((bl.alloc bl.size _).drew) hb5).setCell (p := ⟨wr.heap.size, 0, none⟩) bl.size _).setCell (p := ⟨wr.heap.size, 1, none⟩) bl.size _
      clear hn5 hu5 hb5 x0 x1 x2 vv zz y0 y1 y2 r0 r1 r2 r3 v2 z2 d0z
      generalize ((w5.setCell ⟨wr.heap.size, 0, none⟩ (.slice B5 F.length d5)).setCell ⟨wr.heap.size, 1, none⟩ (.slice B6 (resU F u M X).length d6)) = wf at hT hS hN hB ⊢
      generalize wr.heap.size = gT at hT hne ⊢
      rotate_left
      all_goals
        have f0 : wf.cell? ⟨gT, 0, none⟩ = some (.slice B5 F.length d5) := hT.out.c0
        have f1 : wf.cell? ⟨gT, 1, none⟩ = some (.slice B6 (resU F u M X).length d6) := hT.out.c1
        have f2 : wf.cell? ⟨gS, 0, none⟩ = some (.slice A5 F.length c5) := hS.out.c0
        have f3 : wf.cell? ⟨gS, 1, none⟩ = some (.slice A6 u.length c6) := hS.out.c1
        have f4 : wf.frozen? ⟨gS, 0, none⟩ = false := hS.out.blk.thaw 0
        have f5 : wf.frozen? ⟨gS, 1, none⟩ = false := hS.out.blk.thaw 1
        have hg' : Hid (GoodSt F (resU F u M X)) := good_res hg.out M X
        have hc' : Hid (UC F (resU F u M X)) := uc_res hg.out.len hc.out M X
        by_cases hcode : (resF F u M X).1 = 0
        · have q1 : ((resF F u M X).1 == 0) = true := by simp [hcode]
          have hS' : Hid (StV ((wf.setCell ⟨gS, 0, none⟩ (.slice B5 F.length d5)).setCell ⟨gS, 1, none⟩ (.slice B6 (resU F u M X).length d6)) gS 47 B5 B6 F.length (resU F u M X).length d5 d6 F (resU F u M X)) := stv_store hS.out.blk hT.out.nds hT.out.ris
          have hN' : Hid (Nds ((wf.setCell ⟨gS, 0, none⟩ (.slice B5 F.length d5)).setCell ⟨gS, 1, none⟩ (.slice B6 (resU F u M X).length d6)) _ A1 F) := nds_store hS.out.blk hN.out _ _ _ _ _ _
          have hB' : Below w.heap.size w ((wf.setCell ⟨gS, 0, none⟩ (.slice B5 F.length d5)).setCell ⟨gS, 1, none⟩ (.slice B6 (resU F u M X).length d6)) := (hB.setCell hgs _).setCell hgs _
          generalize resU F u M X = u' at *
          clear hcode
          go_wp2_with fail
          go_roundg g
          case measure => omega
          case rel => exact ⟨i + 1, B5, B6, d5, d6, u', by have := HI.out; omega, by go_num, hg', hc', hS', hN', hB'⟩
        · have q1 : ((resF F u M X).1 == 0) = false := by simp [hcode]
          clear hcode
          go_wp2_with fail
          go_roundg g
          case measure => omega
          case rel => exact ⟨i + 1, A5, A6, c5, c6, u, by have := HI.out; omega, by go_num, hg, hc, hS, hN, hB⟩
    · have hg3 : (u.length : Int) ≤ 1000000 := by rw [hg.out.len]; omega
      have hg4 : (F.length : Int) ≤ 1000000 := by omega
      have hul : ((u.length : Int) != (F.length : Int)) = false := by rw [hg.out.len]; simp
      have hu1 : u.length = F.length := hg.out.len
      have HU1 := Lib.hid hu1
      clear hu1
      by_cases hx1 : i < am.length
      · have t1 : decide ((i : Int) < 10) = false := by simp; omega
        have t2 : decide ((i : Int) < (am.length : Int)) = true := by simp; omega
        clear hlt hi
        go_wp2_with fail
        refine (from_any A5 A6 c5 c6 F u wr (Lib.hid v.out.nds) (Lib.hid v.out.ris) hg4 hg3).mono ?_
        rintro e w5 ⟨B1, d1, B2, d2, rfl, hn5, hu5, hb5⟩
        have vS : Hid (StV (w5.alloc (.cells #[.slice B1 F.length d1, .slice B2 u.length d2] 44)) gS 47 A5 A6 F.length u.length c5 c6 F u) := (v.out.below hb5).alloc _
        have vW : Hid (StV (w5.alloc (.cells #[.slice B1 F.length d1, .slice B2 u.length d2] 44)) w5.heap.size 44 B1 B2 F.length u.length d1 d2 F u) := StV.new hn5 hu5
        have nn5 : Hid (Nds (w5.alloc (.cells #[.slice B1 F.length d1, .slice B2 u.length d2] 44)) (w5.alloc (.cells #[.slice B1 F.length d1, .slice B2 u.length d2] 44)).heap.size A1 F) := Rd.below' (Rd.below' nn.out hb5 hb5.size) ((Below.refl _ _).alloc (Nat.le_refl _) _) (by simp)
        have b5 : Below w.heap.size w (w5.alloc (.cells #[.slice B1 F.length d1, .slice B2 u.length d2] 44)) := (below_step bl hb5).alloc (below_step bl hb5).size _
        clear hn5 hu5 hb5 s0 s1 v nn bl
        go_wp2_with fail
        generalize w5.alloc (.cells #[.slice B1 F.length d1, .slice B2 u.length d2] 44) = w6 at vS vW nn5 b5 ⊢
        generalize w5.heap.size = gW at vW ⊢
        refine (told4_any _).mono ?_
        rintro e w7 ⟨rfl, hb7⟩
        have vS7 := Lib.hid (vS.out.below hb7)
        have vW7 := Lib.hid (vW.out.below hb7)
        have nn7 : Hid (Nds w7 w7.heap.size A1 F) := Rd.below' nn5.out hb7 hb7.size
        have b7 := below_step b5 hb7
        have f0 : w7.cell? ⟨gW, 0, none⟩ = some (.slice B1 F.length d1) := vW7.out.c0
        have f1 : w7.cell? ⟨gW, 1, none⟩ = some (.slice B2 u.length d2) := vW7.out.c1
        have hK := k_in leaf F.length o3 (by omega)
        clear vS vW nn5 b5 hb7
        go_wp2_with fail
        generalize wrap64 ((IntKind.u64.wrap leaf).tmod (F.length : Int)) = K at hK ⊢
        obtain ⟨hK0, hK1⟩ := hK
        refine (rpath_any A1 c1 F K w7 nn7 o4 (by omega) ⟨by omega, by omega⟩).mono ?_
        rintro e w8 ⟨A8, c8, rfl, hr8, hb8⟩
        have vS8 := Lib.hid (vS7.out.below hb8)
        have vW8 := Lib.hid (vW7.out.below hb8)
        have b8 := below_step b7 hb8
        obtain ⟨P, hP⟩ : ∃ P, P = pathF F 3 K := ⟨_, rfl⟩
        have HP := Lib.hid hP
        have p1 : 1 ≤ P.length := by rw [hP, pathF_in (inR_t hK0 hK1)]; simp
        have p3 : P.length ≤ 3 := by rw [hP]; exact path_le3 _ _ _
        rw [← hP] at hr8 ⊢
        have hpin : Hid (∀ j, j < P.length → 0 ≤ gI P j ∧ gI P j < F.length) := by rw [hP]; exact fun j hj => path_in 3 K j hj
        clear hP
        obtain ⟨bp, op, rfl, _, hcp⟩ := Ris.at (i := 0) hr8 (by omega)
        obtain ⟨bn, on, rfl, _, hcn⟩ := Nds.at vW8.out.nds (by omega)
        obtain ⟨bu, ou, rfl, _, hcu⟩ := Ris.at (i := 0) vW8.out.ris (by rw [HU1.out]; omega)
        have HCP := Lib.hid hcp
        have HCN := Lib.hid hcn
        have HCU := Lib.hid hcu
        have HR8 := Lib.hid hr8
        obtain ⟨hm0, hm1⟩ := hpin.out 0 (by omega)
        have e0 : w8.cell? ⟨bp, op, none⟩ = some (.int .i64 (gI P 0)) := hcp 0 (by omega)
        have e1 : w8.cell? ⟨bn, on + (gI P 0).toNat * 2 + 1, none⟩ = some (.int .i64 (nC F (gI P 0).toNat)) := (hcn _ (by omega)).2
        have e2 : w8.cell? ⟨bu, ou + (gI P 0).toNat, none⟩ = some (.int .i64 (gI u (gI P 0).toNat)) := hcu _ (by rw [HU1.out]; omega)
        have hm2 : gI P 0 < u.length := by rw [HU1.out]; exact hm1
        have e3 : w8.cell? ⟨gW, 0, none⟩ = some (.slice (some ⟨bn, on, none⟩) F.length d1) := vW8.out.c0
        have e4 : w8.cell? ⟨gW, 1, none⟩ = some (.slice (some ⟨bu, ou, none⟩) u.length d2) := vW8.out.c1
        have hl1 := o1.out (gI P 0).toNat (by omega)
        have hu2 := hg.out.uok (gI P 0).toNat (by rw [HU1.out]; omega)
        obtain ⟨_, _, hl1a, hl1b, _⟩ := hl1
        obtain ⟨hu2a, hu2b⟩ := hu2
        have hUC : ∀ j, j < F.length → 0 ≤ nC F j - gI u j := fun j hj => by have := hc.out j hj; omega
        clear hcp hcn hcu hr8 vS7 vW7 nn7 b7 hb8 f0 f1
        go_wp2_with fail
        go_quiet (fail)
        go_wp2_with fail
        clear e0 e1 e2
        go_loopg [16, 17, 18] (P.length - 1) (fun g s16 s17 s18 w' => ∃ (q nq : Nat) (L : Int) (W : Nat), q + g = P.length ∧ 1 ≤ q ∧ s18 = .int .i64 q ∧ s16 = .int .i64 L ∧ s17 = .int .i64 W ∧ Hid (minF (sl F u P) (q - 1) = (L, W)) ∧ 0 ≤ L ∧ L ≤ 4611686018427387904 ∧ W < P.length ∧ w' = w8.drewN nq)
        case atStart => exact ⟨1, _, _, 0, by omega, by omega, rfl, rfl, rfl, rfl, hUC (gI P 0).toNat (by omega), by omega, by omega, rfl⟩
        case round =>
          obtain ⟨q, nq, L, W, hqg, hq1, rfl, rfl, rfl, hmin, hL0, hL1, hWp, rfl⟩ := hrel
          by_cases hqp : (q : Int) < (P.length : Int)
          · obtain ⟨g, rfl⟩ : ∃ g, gk = g + 1 := ⟨gk - 1, by omega⟩
            obtain ⟨hn0, hn1⟩ := hpin.out q (by omega)
            have hn2 : gI P q < u.length := by rw [HU1.out]; exact hn1
            have e0 : w8.cell? ⟨bp, op + q, none⟩ = some (.int .i64 (gI P q)) := HCP.out q (by omega)
            have e1 : w8.cell? ⟨bn, on + (gI P q).toNat * 2 + 1, none⟩ = some (.int .i64 (nC F (gI P q).toNat)) := (HCN.out _ (by omega)).2
            have e2 : w8.cell? ⟨bu, ou + (gI P q).toNat, none⟩ = some (.int .i64 (gI u (gI P q).toNat)) := HCU.out _ (by omega)
            have hv1 := o1.out (gI P q).toNat (by omega)
            have hv2 := hg.out.uok (gI P q).toNat (by omega)
            have hv3 := hUC (gI P q).toNat (by omega)
            obtain ⟨_, _, hv1a, hv1b, _⟩ := hv1
            obtain ⟨hv2a, hv2b⟩ := hv2
            by_cases hcmp : nC F (gI P q).toNat - gI u (gI P q).toNat < L
            · have hmin' : Hid (minF (sl F u P) (q + 1 - 1) = (nC F (gI P q).toNat - gI u (gI P q).toNat, q)) := by
                show _ = _
                rw [Nat.add_sub_cancel, minF_step _ hq1, hmin.out, if_pos (by exact hcmp)]
                rfl
              go_wp2_with fail
              go_quiet (fail)
              go_wp2_with fail
              go_quiet (fail)
              go_wp2_with fail
              go_roundg g
              case measure => omega
              case rel => exact ⟨q + 1, _, _, q, by omega, by omega, by go_num, rfl, rfl, hmin', hv3, by omega, by omega, rfl⟩
            · have hmin' : Hid (minF (sl F u P) (q + 1 - 1) = (L, W)) := by
                show _ = _
                rw [Nat.add_sub_cancel, minF_step _ hq1, hmin.out, if_neg (by exact hcmp)]
              go_wp2_with fail
              go_quiet (fail)
              go_wp2_with fail
              go_roundg g
              case measure => omega
              case rel => exact ⟨q + 1, _, L, W, by omega, by omega, by go_num, rfl, rfl, hmin', hL0, hL1, hWp, rfl⟩
          · have hqe : q = P.length := by omega
            have hedge : resF F u K L = (0, -1) ∧ resF F u K (L + 1) = (12 + (W : Int), gI P W) := by
              have := edge (l := F) (u := u) (n := K) (k := q - 1) (by rw [← HP.out]; omega) (fun j hj => by rw [← HP.out] at hj ⊢; exact hUC (gI P j).toNat (by have := hpin.out j hj; omega))
              rw [← HP.out, hmin.out] at this
              exact this
            have q1 : ((resF F u K L).1 == 0) = true := by rw [hedge.1]; rfl
            have q2 : ((resF F u K L).2 == -1) = true := by rw [hedge.1]; rfl
            have q3 : ((resF F u K (L + 1)).1 == 12 + (W : Int)) = true := by rw [hedge.2]; simp
            have q4 : ((resF F u K (L + 1)).2 == gI P W) = true := by rw [hedge.2]; simp
            have hvs := Lib.hid (stv_drewN vS8.out nq)
            have f0 : w8.cell? ⟨gS, 0, none⟩ = some (.slice A5 F.length c5) := vS8.out.c0
            have f1 : w8.cell? ⟨gS, 1, none⟩ = some (.slice A6 u.length c6) := vS8.out.c1
            clear hedge hqe
            go_wp2_with fail
            refine (reserve_any A5 A6 c5 c6 F u K L (w8.drewN nq) (Lib.hid hvs.out.nds) (Lib.hid hvs.out.ris) hg.out ⟨by omega, by omega⟩ (by omega) (by omega)).mono ?_
            rintro e w9 ⟨B3, d3, B4, d4, rfl, hn9, hu9, hb9⟩
            have b9 := below_step (Below.drewN' b8 nq) hb9
            have b9' : Below w.heap.size w (w9.alloc (.cells #[.slice B3 F.length d3, .slice B4 (resU F u K L).length d4] 47)) := b9.alloc b9.size _
            have v9 := Lib.hid ((hvs.out.below hb9).alloc (.cells #[.slice B3 F.length d3, .slice B4 (resU F u K L).length d4] 47))
            have r9 : Hid (Ris (w9.alloc (.cells #[.slice B3 F.length d3, .slice B4 (resU F u K L).length d4] 47)) (w9.alloc (.cells #[.slice B3 F.length d3, .slice B4 (resU F u K L).length d4] 47)).heap.size (some ⟨bp, op, none⟩) P) := Rd.below' (Rd.below' (Rd.drewN HR8.out nq) hb9 hb9.size) ((Below.refl _ _).alloc (Nat.le_refl _) _) (by simp)
            have f2 : (w9.alloc (.cells #[.slice B3 F.length d3, .slice B4 (resU F u K L).length d4] 47)).cell? ⟨gS, 0, none⟩ = some (.slice A5 F.length c5) := v9.out.c0
            have f3 : (w9.alloc (.cells #[.slice B3 F.length d3, .slice B4 (resU F u K L).length d4] 47)).cell? ⟨gS, 1, none⟩ = some (.slice A6 u.length c6) := v9.out.c1
            clear hn9 hu9 hb9 b9 f0 f1
            go_wp2_with fail
            refine (reserve_any A5 A6 c5 c6 F u K (L + 1) (w9.alloc (.cells #[.slice B3 F.length d3, .slice B4 (resU F u K L).length d4] 47)) (Lib.hid v9.out.nds) (Lib.hid v9.out.ris) hg.out ⟨by omega, by omega⟩ (by omega) (by omega)).mono ?_
            rintro e w10 ⟨B7, d7, B8, d8, rfl, hn10, hu10, hb10⟩
            have b10 := below_step b9' hb10
            have b10' : Below w.heap.size w (w10.alloc (.cells #[.slice B7 F.length d7, .slice B8 (resU F u K (L + 1)).length d8] 47)) := b10.alloc b10.size _
            have r10 : Ris (w10.alloc (.cells #[.slice B7 F.length d7, .slice B8 (resU F u K (L + 1)).length d8] 47)) (w10.alloc (.cells #[.slice B7 F.length d7, .slice B8 (resU F u K (L + 1)).length d8] 47)).heap.size (some ⟨bp, op, none⟩) P := Rd.below' (Rd.below' r9.out hb10 hb10.size) ((Below.refl _ _).alloc (Nat.le_refl _) _) (by simp)
            obtain ⟨bp', op', hbp, _, hcp⟩ := Ris.at (i := 0) r10 (by omega)
            obtain ⟨rfl, rfl⟩ : bp = bp' ∧ op = op' := by
              injection hbp with e
              injection e with e1 e2
              exact ⟨e1, e2⟩
            have f4 : (w10.alloc (.cells #[.slice B7 F.length d7, .slice B8 (resU F u K (L + 1)).length d8] 47)).cell? ⟨bp, op + W, none⟩ = some (.int .i64 (gI P W)) := hcp W hWp
            clear hcp hbp r10 hn10 hu10 hb10 b10 f2 f3
            go_wp2_with fail
            go_ret
            exact madeB_mk rfl b10'
      · have t2 : decide ((i : Int) < (am.length : Int)) = false := by simp; omega
        clear hlt hi
        go_wp2_with fail
        refine (from_any A5 A6 c5 c6 F u wr (Lib.hid v.out.nds) (Lib.hid v.out.ris) hg4 hg3).mono ?_
        rintro e w5 ⟨B1, d1, B2, d2, rfl, hn5, hu5, hb5⟩
        have vS : Hid (StV (w5.alloc (.cells #[.slice B1 F.length d1, .slice B2 u.length d2] 44)) gS 47 A5 A6 F.length u.length c5 c6 F u) := (v.out.below hb5).alloc _
        have vW : Hid (StV (w5.alloc (.cells #[.slice B1 F.length d1, .slice B2 u.length d2] 44)) w5.heap.size 44 B1 B2 F.length u.length d1 d2 F u) := StV.new hn5 hu5
        have nn5 : Hid (Nds (w5.alloc (.cells #[.slice B1 F.length d1, .slice B2 u.length d2] 44)) (w5.alloc (.cells #[.slice B1 F.length d1, .slice B2 u.length d2] 44)).heap.size A1 F) := Rd.below' (Rd.below' nn.out hb5 hb5.size) ((Below.refl _ _).alloc (Nat.le_refl _) _) (by simp)
        have b5 : Below w.heap.size w (w5.alloc (.cells #[.slice B1 F.length d1, .slice B2 u.length d2] 44)) := (below_step bl hb5).alloc (below_step bl hb5).size _
        clear hn5 hu5 hb5 s0 s1 v nn bl
        go_wp2_with fail
        generalize w5.alloc (.cells #[.slice B1 F.length d1, .slice B2 u.length d2] 44) = w6 at vS vW nn5 b5 ⊢
        generalize w5.heap.size = gW at vW ⊢
        refine (told4_any _).mono ?_
        rintro e w7 ⟨rfl, hb7⟩
        have vS7 := Lib.hid (vS.out.below hb7)
        have vW7 := Lib.hid (vW.out.below hb7)
        have nn7 : Hid (Nds w7 w7.heap.size A1 F) := Rd.below' nn5.out hb7 hb7.size
        have b7 := below_step b5 hb7
        have f0 : w7.cell? ⟨gW, 0, none⟩ = some (.slice B1 F.length d1) := vW7.out.c0
        have f1 : w7.cell? ⟨gW, 1, none⟩ = some (.slice B2 u.length d2) := vW7.out.c1
        have hK := k_in leaf F.length o3 (by omega)
        clear vS vW nn5 b5 hb7
        go_wp2_with fail
        generalize wrap64 ((IntKind.u64.wrap leaf).tmod (F.length : Int)) = K at hK ⊢
        obtain ⟨hK0, hK1⟩ := hK
        refine (rpath_any A1 c1 F K w7 nn7 o4 (by omega) ⟨by omega, by omega⟩).mono ?_
        rintro e w8 ⟨A8, c8, rfl, hr8, hb8⟩
        have vS8 := Lib.hid (vS7.out.below hb8)
        have vW8 := Lib.hid (vW7.out.below hb8)
        have b8 := below_step b7 hb8
        obtain ⟨P, hP⟩ : ∃ P, P = pathF F 3 K := ⟨_, rfl⟩
        have HP := Lib.hid hP
        have p1 : 1 ≤ P.length := by rw [hP, pathF_in (inR_t hK0 hK1)]; simp
        have p3 : P.length ≤ 3 := by rw [hP]; exact path_le3 _ _ _
        rw [← hP] at hr8 ⊢
        have hpin : Hid (∀ j, j < P.length → 0 ≤ gI P j ∧ gI P j < F.length) := by rw [hP]; exact fun j hj => path_in 3 K j hj
        clear hP
        obtain ⟨bp, op, rfl, _, hcp⟩ := Ris.at (i := 0) hr8 (by omega)
        obtain ⟨bn, on, rfl, _, hcn⟩ := Nds.at vW8.out.nds (by omega)
        obtain ⟨bu, ou, rfl, _, hcu⟩ := Ris.at (i := 0) vW8.out.ris (by rw [HU1.out]; omega)
        have HCP := Lib.hid hcp
        have HCN := Lib.hid hcn
        have HCU := Lib.hid hcu
        have HR8 := Lib.hid hr8
        obtain ⟨hm0, hm1⟩ := hpin.out 0 (by omega)
        have e0 : w8.cell? ⟨bp, op, none⟩ = some (.int .i64 (gI P 0)) := hcp 0 (by omega)
        have e1 : w8.cell? ⟨bn, on + (gI P 0).toNat * 2 + 1, none⟩ = some (.int .i64 (nC F (gI P 0).toNat)) := (hcn _ (by omega)).2
        have e2 : w8.cell? ⟨bu, ou + (gI P 0).toNat, none⟩ = some (.int .i64 (gI u (gI P 0).toNat)) := hcu _ (by rw [HU1.out]; omega)
        have hm2 : gI P 0 < u.length := by rw [HU1.out]; exact hm1
        have e3 : w8.cell? ⟨gW, 0, none⟩ = some (.slice (some ⟨bn, on, none⟩) F.length d1) := vW8.out.c0
        have e4 : w8.cell? ⟨gW, 1, none⟩ = some (.slice (some ⟨bu, ou, none⟩) u.length d2) := vW8.out.c1
        have hl1 := o1.out (gI P 0).toNat (by omega)
        have hu2 := hg.out.uok (gI P 0).toNat (by rw [HU1.out]; omega)
        obtain ⟨_, _, hl1a, hl1b, _⟩ := hl1
        obtain ⟨hu2a, hu2b⟩ := hu2
        have hUC : ∀ j, j < F.length → 0 ≤ nC F j - gI u j := fun j hj => by have := hc.out j hj; omega
        clear hcp hcn hcu hr8 vS7 vW7 nn7 b7 hb8 f0 f1
        go_wp2_with fail
        go_quiet (fail)
        go_wp2_with fail
        clear e0 e1 e2
        go_loopg [16, 17, 18] (P.length - 1) (fun g s16 s17 s18 w' => ∃ (q nq : Nat) (L : Int) (W : Nat), q + g = P.length ∧ 1 ≤ q ∧ s18 = .int .i64 q ∧ s16 = .int .i64 L ∧ s17 = .int .i64 W ∧ Hid (minF (sl F u P) (q - 1) = (L, W)) ∧ 0 ≤ L ∧ L ≤ 4611686018427387904 ∧ W < P.length ∧ w' = w8.drewN nq)
        case atStart => exact ⟨1, _, _, 0, by omega, by omega, rfl, rfl, rfl, rfl, hUC (gI P 0).toNat (by omega), by omega, by omega, rfl⟩
        case round =>
          obtain ⟨q, nq, L, W, hqg, hq1, rfl, rfl, rfl, hmin, hL0, hL1, hWp, rfl⟩ := hrel
          by_cases hqp : (q : Int) < (P.length : Int)
          · obtain ⟨g, rfl⟩ : ∃ g, gk = g + 1 := ⟨gk - 1, by omega⟩
            obtain ⟨hn0, hn1⟩ := hpin.out q (by omega)
            have hn2 : gI P q < u.length := by rw [HU1.out]; exact hn1
            have e0 : w8.cell? ⟨bp, op + q, none⟩ = some (.int .i64 (gI P q)) := HCP.out q (by omega)
            have e1 : w8.cell? ⟨bn, on + (gI P q).toNat * 2 + 1, none⟩ = some (.int .i64 (nC F (gI P q).toNat)) := (HCN.out _ (by omega)).2
            have e2 : w8.cell? ⟨bu, ou + (gI P q).toNat, none⟩ = some (.int .i64 (gI u (gI P q).toNat)) := HCU.out _ (by omega)
            have hv1 := o1.out (gI P q).toNat (by omega)
            have hv2 := hg.out.uok (gI P q).toNat (by omega)
            have hv3 := hUC (gI P q).toNat (by omega)
            obtain ⟨_, _, hv1a, hv1b, _⟩ := hv1
            obtain ⟨hv2a, hv2b⟩ := hv2
            by_cases hcmp : nC F (gI P q).toNat - gI u (gI P q).toNat < L
            · have hmin' : Hid (minF (sl F u P) (q + 1 - 1) = (nC F (gI P q).toNat - gI u (gI P q).toNat, q)) := by
                show _ = _
                rw [Nat.add_sub_cancel, minF_step _ hq1, hmin.out, if_pos (by exact hcmp)]
                rfl
              go_wp2_with fail
              go_quiet (fail)
              go_wp2_with fail
              go_quiet (fail)
              go_wp2_with fail
              go_roundg g
              case measure => omega
              case rel => exact ⟨q + 1, _, _, q, by omega, by omega, by go_num, rfl, rfl, hmin', hv3, by omega, by omega, rfl⟩
            · have hmin' : Hid (minF (sl F u P) (q + 1 - 1) = (L, W)) := by
                show _ = _
                rw [Nat.add_sub_cancel, minF_step _ hq1, hmin.out, if_neg (by exact hcmp)]
              go_wp2_with fail
              go_quiet (fail)
              go_wp2_with fail
              go_roundg g
              case measure => omega
              case rel => exact ⟨q + 1, _, L, W, by omega, by omega, by go_num, rfl, rfl, hmin', hL0, hL1, hWp, rfl⟩
          · have hqe : q = P.length := by omega
            have hedge : resF F u K L = (0, -1) ∧ resF F u K (L + 1) = (12 + (W : Int), gI P W) := by
              have := edge (l := F) (u := u) (n := K) (k := q - 1) (by rw [← HP.out]; omega) (fun j hj => by rw [← HP.out] at hj ⊢; exact hUC (gI P j).toNat (by have := hpin.out j hj; omega))
              rw [← HP.out, hmin.out] at this
              exact this
            have q1 : ((resF F u K L).1 == 0) = true := by rw [hedge.1]; rfl
            have q2 : ((resF F u K L).2 == -1) = true := by rw [hedge.1]; rfl
            have q3 : ((resF F u K (L + 1)).1 == 12 + (W : Int)) = true := by rw [hedge.2]; simp
            have q4 : ((resF F u K (L + 1)).2 == gI P W) = true := by rw [hedge.2]; simp
            have hvs := Lib.hid (stv_drewN vS8.out nq)
            have f0 : w8.cell? ⟨gS, 0, none⟩ = some (.slice A5 F.length c5) := vS8.out.c0
            have f1 : w8.cell? ⟨gS, 1, none⟩ = some (.slice A6 u.length c6) := vS8.out.c1
            clear hedge hqe
            go_wp2_with fail
            refine (reserve_any A5 A6 c5 c6 F u K L (w8.drewN nq) (Lib.hid hvs.out.nds) (Lib.hid hvs.out.ris) hg.out ⟨by omega, by omega⟩ (by omega) (by omega)).mono ?_
            rintro e w9 ⟨B3, d3, B4, d4, rfl, hn9, hu9, hb9⟩
            have b9 := below_step (Below.drewN' b8 nq) hb9
            have b9' : Below w.heap.size w (w9.alloc (.cells #[.slice B3 F.length d3, .slice B4 (resU F u K L).length d4] 47)) := b9.alloc b9.size _
            have v9 := Lib.hid ((hvs.out.below hb9).alloc (.cells #[.slice B3 F.length d3, .slice B4 (resU F u K L).length d4] 47))
            have r9 : Hid (Ris (w9.alloc (.cells #[.slice B3 F.length d3, .slice B4 (resU F u K L).length d4] 47)) (w9.alloc (.cells #[.slice B3 F.length d3, .slice B4 (resU F u K L).length d4] 47)).heap.size (some ⟨bp, op, none⟩) P) := Rd.below' (Rd.below' (Rd.drewN HR8.out nq) hb9 hb9.size) ((Below.refl _ _).alloc (Nat.le_refl _) _) (by simp)
            have f2 : (w9.alloc (.cells #[.slice B3 F.length d3, .slice B4 (resU F u K L).length d4] 47)).cell? ⟨gS, 0, none⟩ = some (.slice A5 F.length c5) := v9.out.c0
            have f3 : (w9.alloc (.cells #[.slice B3 F.length d3, .slice B4 (resU F u K L).length d4] 47)).cell? ⟨gS, 1, none⟩ = some (.slice A6 u.length c6) := v9.out.c1
            clear hn9 hu9 hb9 b9 f0 f1
            go_wp2_with fail
            refine (reserve_any A5 A6 c5 c6 F u K (L + 1) (w9.alloc (.cells #[.slice B3 F.length d3, .slice B4 (resU F u K L).length d4] 47)) (Lib.hid v9.out.nds) (Lib.hid v9.out.ris) hg.out ⟨by omega, by omega⟩ (by omega) (by omega)).mono ?_
            rintro e w10 ⟨B7, d7, B8, d8, rfl, hn10, hu10, hb10⟩
            have b10 := below_step b9' hb10
            have b10' : Below w.heap.size w (w10.alloc (.cells #[.slice B7 F.length d7, .slice B8 (resU F u K (L + 1)).length d8] 47)) := b10.alloc b10.size _
            have r10 : Ris (w10.alloc (.cells #[.slice B7 F.length d7, .slice B8 (resU F u K (L + 1)).length d8] 47)) (w10.alloc (.cells #[.slice B7 F.length d7, .slice B8 (resU F u K (L + 1)).length d8] 47)).heap.size (some ⟨bp, op, none⟩) P := Rd.below' (Rd.below' r9.out hb10 hb10.size) ((Below.refl _ _).alloc (Nat.le_refl _) _) (by simp)
            obtain ⟨bp', op', hbp, _, hcp⟩ := Ris.at (i := 0) r10 (by omega)
            obtain ⟨rfl, rfl⟩ : bp = bp' ∧ op = op' := by
              injection hbp with e
              injection e with e1 e2
              exact ⟨e1, e2⟩
            have f4 : (w10.alloc (.cells #[.slice B7 F.length d7, .slice B8 (resU F u K (L + 1)).length d8] 47)).cell? ⟨bp, op + W, none⟩ = some (.int .i64 (gI P W)) := hcp W hWp
            clear hcp hbp r10 hn10 hu10 hb10 b10 f2 f3
            go_wp2_with fail
            go_ret
            exact madeB_mk rfl b10'
theorem open_i64 {H : Type} {enc : TypeId × Value → H} {P : Program} {w : World} {t e : TypeId} {r : Reach} {b0 : Nat} {v : Value} {d : DataW H} {ps : List MemPlace} {base : Nat} {held : Bool} (ht : P.underlying t = some (.slice e)) (he : P.underlying e = some (.int .i64)) (hc : P.cellsOf e = 1)
    (hval : Value.okWide P w r b0 t v) (h : DataW.Trod enc P w base (fun _ => true) held t v d ps) : ∃ A c u, v = .slice A u.length c ∧ u.length ≤ c ∧ c ≤ maxLen ∧ Ris w w.heap.size A u ∧ WfI u := by
  obtain ⟨A, len, cap, rfl⟩ := okWide_slice ht hval
  obtain ⟨fuel, hf⟩ := h
  exact open_i64c ht he hc (by simpa [Value.cells] using hf)

set_option maxRecDepth 100000 in
theorem lifted (os : Os) (started : os.Started) (H : Type) (enc : TypeId × Value → H) :
    ReturnsInHanded {} Try.checked os 8 .any (Rows.creditEdgesSpec.pre6 enc Try.prog Try.f8 Rows.creditEdgesRow.domain false) (Rows.creditEdgesSpec.post enc Try.prog Try.f8 false true false false) := by
  refine returnsInHanded_of_change (C := Try.checked) own started (by kernel_rfl) Try.func8
    (ChangeSpec.witness6 (enc := enc) (C := Try.checked) false ⟨#[], #[.slice none 0 0, .int .i64 0, .slice none 0 0], []⟩ 8 (by kernel_rfl) (by kernel_rfl) (by kernel_rfl) (by kernel_rfl)) ?_
  intro W base args ds gs before hval0 hW hcnd _
  have hval : ∀ (j : Nat) t v, Try.f8.params[j]? = some t → args[j]? = some v → Value.okWide Try.prog W .any base t v := hval0
  have hW' := hW
  obtain ⟨p, q, hA0, hV, rfl, hfz, hnd⟩ := hW
  have hA : DataW.TrodAll enc Try.prog W 0 (fun _ => true) true Try.f8.params.toList args.toList ds p := hA0
  rw [Try.params8] at hA hval
  obtain ⟨v0, v1, v2, d0, d1, d2, p0, p1, p2, rfl, rfl, rfl, h0, h1, h2⟩ := trodAll_three hA
  obtain ⟨A, c, l, rfl, hlc, hcm, hl, hw⟩ := open_nodes Try.underlying22 Try.underlying69 (by kernel_rfl) rfl rfl (by kernel_rfl) (by kernel_rfl) Try.underlying3 Try.underlying2 (hval 0 _ v0 rfl rfl) h0
  obtain ⟨a1, rfl, rfl, rfl, wf1⟩ := open_int Try.underlying3 (hval 1 _ v1 rfl rfl) h1
  obtain ⟨A2, c2, am, rfl, hac, ham, ha, hwa⟩ := open_i64 Try.underlying42 Try.underlying2 (by kernel_rfl) (hval 2 _ v2 rfl rfl) h2
  refine (inner A A2 c c2 l a1 am W hl hw ha hwa (by unfold maxLen at hcm; omega) (by unfold maxLen at ham; omega) (wf_in wf1)).mono fun e W' ⟨he, hb⟩ => ?_
  subst he
  exact ⟨_, rfl, law_post hW' rfl rfl rfl rfl (by kernel_rfl) Try.underlying4 (by rw [Try.params8]; simp only [List.mem_cons, List.not_mem_nil, or_false, forall_eq_or_imp, forall_eq]; exact ⟨⟨by kernel_rfl, of_decide_eq_true (by kernel_rfl)⟩, ⟨by kernel_rfl, of_decide_eq_true (by kernel_rfl)⟩, ⟨by kernel_rfl, of_decide_eq_true (by kernel_rfl)⟩⟩) laidOut hb⟩

theorem over : Rows.creditEdgesRow.holds Try.pinned (OpenSpec.ofChange Rows.creditEdgesSpec) :=
  OpenClaim.holds_of_wide 8 Try.f8 rfl rfl rfl rfl rfl rfl rfl ⟨rfl, rfl, rfl, rfl, rfl⟩ rfl rfl rfl rfl rfl (by kernel_rfl) Try.func8 (by kernel_rfl)
    (of_decide_eq_true (by kernel_rfl)) (by unfold Func.isWrapper; first | (rw [if_pos (by decide +kernel)]; kernel_rfl) | (rw [if_neg (by decide +kernel)]; exact ⟨rfl, rfl⟩))
    (fun os started H enc _ => lifted os started H enc)

theorem proved : Rows.CreditEdgesSaid := over
#print axioms proved
end Go.Proofs.Ytjldfcoakbdfpaa.creditEdges
