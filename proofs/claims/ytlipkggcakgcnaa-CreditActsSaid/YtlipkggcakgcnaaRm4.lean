/- The contract of the reference's Limit. Condition: the State is one that may be, each node behind the one that it hangs on. -/
import Derived.Test.YtlipkggcakgcnaaRr4
namespace Go.Proofs.Ytlipkggcakgcnaa.Rm4
set_option maxRecDepth 100000
open Go.ChangeShapes Go.WideShapes Go.ChangeAt Go.RowKit Mem Tre Ref3 Law3 Fix3 Crd CrdB CrdC Cpl Own Res Rel Lim Rr4
set_option linter.unusedVariables false

set_option maxHeartbeats 1000000 in
theorem rlimit_any (A A' : Option Addr) (c c' : Nat) (l : List (Int × Int)) (u : List Int) (n x : Int) (w : World) (hl : Hid (Nds w w.heap.size A l)) (hu : Hid (Ris w w.heap.size A' u)) (hg : GoodSt l u) (hn : inI n) (hx0 : -9223372036854775808 ≤ x) (hx1 : x ≤ 9223372036854775807) :
    Calls Try.prog 24 #[.agg #[.slice A l.length c, .slice A' u.length c'], .int .i64 n, .int .i64 x] w (MadeLim (limL l n x) u (limF l n x) w) := by
  obtain ⟨i0, hi, hz0, hz1, hz2⟩ := info_parts rnode_info
  have g1 := hg.few
  have g2 : (l.length : Int) ≤ 32 := by omega
  have g3 : (u.length : Int) ≤ 32 := by rw [hg.len]; omega
  obtain ⟨hn0, hn1⟩ := hn
  have HG := Lib.hid hg
  clear hg
  obtain ⟨W3, hW3⟩ : ∃ W, W = ((w.alloc (.cells #[.slice A l.length c, .slice A' u.length c'] 26)).alloc (.cells #[.slice none 0 0, .slice none 0 0] 26)) := ⟨_, rfl⟩
  have HW3 := Lib.hid hW3
  have b3 : Below w.heap.size w W3 := by rw [hW3]; exact ((Below.refl _ _).alloc (Nat.le_refl _) _).alloc (by simp) _
  have K1 : Hid (Blk W3 w.heap.size 26 #[.slice A l.length c, .slice A' u.length c']) := by rw [hW3]; exact (Blk.fresh w _ _).alloc _
  have K2 : Hid (Blk W3 (w.heap.size + 1) 26 #[.slice none 0 0, .slice none 0 0]) := by
    have := Blk.fresh (w.alloc (.cells #[.slice A l.length c, .slice A' u.length c'] 26)) 26 #[.slice none 0 0, .slice none 0 0]
    simp only [World.size_alloc] at this
    rw [hW3]; exact this
  have HL : Hid (Nds W3 W3.heap.size A l) := Rd.below' hl.out b3 b3.size
  have HU : Hid (Ris W3 W3.heap.size A' u) := Rd.below' hu.out b3 b3.size
  clear hW3
  have f0 : W3.cell? ⟨w.heap.size, 0, none⟩ = some (.slice A l.length c) := K1.out.cell 0
  have f1 : W3.cell? ⟨w.heap.size, 1, none⟩ = some (.slice A' u.length c') := K1.out.cell 1
  have r0 : W3.cell? ⟨w.heap.size + 1, 0, none⟩ = some (.slice none 0 0) := K2.out.cell 0
  have r1 : W3.cell? ⟨w.heap.size + 1, 1, none⟩ = some (.slice none 0 0) := K2.out.cell 1
  have y0 : W3.frozen? ⟨w.heap.size + 1, 0, none⟩ = false := K2.out.thaw 0
  have y1 : W3.frozen? ⟨w.heap.size + 1, 1, none⟩ = false := K2.out.thaw 1
  have T3 : Below w.heap.size w ((w.alloc (.cells #[.slice A l.length c, .slice A' u.length c'] 26)).alloc (.cells #[.slice A l.length c, .slice A' u.length c'] 26)) := ((Below.refl _ _).alloc (Nat.le_refl _) _).alloc (by simp) _
  have T1 : Hid (Nds ((w.alloc (.cells #[.slice A l.length c, .slice A' u.length c'] 26)).alloc (.cells #[.slice A l.length c, .slice A' u.length c'] 26)) _ A l) := Rd.below' hl.out T3 T3.size
  have T2 : Hid (Ris ((w.alloc (.cells #[.slice A l.length c, .slice A' u.length c'] 26)).alloc (.cells #[.slice A l.length c, .slice A' u.length c'] 26)) _ A' u) := Rd.below' hu.out T3 T3.size
  have kf : Blk ((w.alloc (.cells #[.slice A l.length c, .slice A' u.length c'] 26)).alloc (.cells #[.slice A l.length c, .slice A' u.length c'] 26)) (w.heap.size + 1) 26 #[.slice A l.length c, .slice A' u.length c'] := by
    have := Blk.fresh (w.alloc (.cells #[.slice A l.length c, .slice A' u.length c'] 26)) 26 #[.slice A l.length c, .slice A' u.length c']
    simp only [World.size_alloc] at this
    exact this
  have t4 : ((w.alloc (.cells #[.slice A l.length c, .slice A' u.length c'] 26)).alloc (.cells #[.slice A l.length c, .slice A' u.length c'] 26)).cell? ⟨w.heap.size + 1, 0, none⟩ = some (.slice A l.length c) := kf.cell 0
  have t5 : ((w.alloc (.cells #[.slice A l.length c, .slice A' u.length c'] 26)).alloc (.cells #[.slice A l.length c, .slice A' u.length c'] 26)).cell? ⟨w.heap.size + 1, 1, none⟩ = some (.slice A' u.length c') := kf.cell 1
  clear kf
  by_cases hin : inR l.length n = true
  · obtain ⟨hi0, hi1⟩ := inR_of hin
    by_cases hx : x < 0 ∨ 4611686018427387904 < x
    · have hres : Hid (limF l n x = 1) := by show _ = _; rw [limF, if_pos hin, if_pos hx]
      have hresu : Hid (limL l n x = l) := by show _ = _; rw [limL, hres.out]; rfl
      clear hin
      by_cases hx2 : x < 0
      · clear hx
        go_enter Try.func24, Try.ntmps24
        go_wp2_with fail
        exact bodyPost_ret (v := .tuple #[.agg #[.slice A l.length c, .slice A' u.length c'], .int .i64 1]) (by simp [results, Try.results24, go_sem, t4, t5]) rfl (madeLim_mk hresu.out hres.out T1.out T2.out T3)
      · have hx3 : 4611686018427387904 < x := by omega
        clear hx
        go_enter Try.func24, Try.ntmps24
        go_wp2_with fail
        exact bodyPost_ret (v := .tuple #[.agg #[.slice A l.length c, .slice A' u.length c'], .int .i64 1]) (by simp [results, Try.results24, go_sem, t4, t5]) rfl (madeLim_mk hresu.out hres.out T1.out T2.out T3)
    have hres : Hid (limF l n x = 0) := by show _ = _; rw [limF, if_pos hin, if_neg hx]
    have hresu : Hid (limL l n x = l.set n.toNat (nP l n.toNat, x)) := by show _ = _; rw [limL, hres.out]; rfl
    have hxa : 0 ≤ x := by omega
    have hxb : x ≤ 4611686018427387904 := by omega
    have hnl : n.toNat < l.length := by omega
    clear hx hin t4 t5 T1 T2 T3
    have HN1 : 1 ≤ l.length := HG.out.one
    have HU1 : 1 ≤ u.length := by rw [HG.out.len]; exact HG.out.one
    obtain ⟨b1, o1, rfl, hb1, hc1⟩ := Nds.at HL.out (by omega)
    obtain ⟨b2, o2, rfl, hb2, hc2⟩ := Ris.at (i := 0) HU.out (by omega)
    clear hc1 hc2
    go_enter Try.func24, Try.ntmps24
    go_wp2_with fail
    rw [← HW3.out]
    have howa : Hid ((W3.drew.alloc (.cells #[] 57)).ownsRow W3.heap.size 57 2 (.slice (some ⟨W3.heap.size, 0, none⟩) 0 0) 0 []) := own_empty (by exact Blk.fresh W3.drew _ _) (by simp)
    have hbla : Below W3.heap.size W3 (W3.drew.alloc (.cells #[] 57)) := ((Below.refl _ _).drew).alloc (Nat.le_refl _) _
    have hrda : Hid (Rd (W3.drew.alloc (.cells #[] 57)) W3.heap.size (some ⟨b1, o1, none⟩) (nds l)) := Rd.below HL.out hbla
    have hka : Hid (Blk (W3.drew.alloc (.cells #[] 57)) w.heap.size 26 #[.slice (some ⟨b1, o1, none⟩) l.length c, .slice (some ⟨b2, o2, none⟩) u.length c']) := Blk.below' K1.out hbla
    have howb : Hid (((W3.drew.alloc (.cells #[] 57)).alloc (.cells #[.slice none 0 0, .slice none 0 0] 26)).ownsRow W3.heap.size 57 2 (.slice (some ⟨W3.heap.size, 0, none⟩) 0 0) 0 []) := own_empty (by exact (Blk.fresh W3.drew _ _).alloc _) (by simp)
    have hblb : Below W3.heap.size W3 ((W3.drew.alloc (.cells #[] 57)).alloc (.cells #[.slice none 0 0, .slice none 0 0] 26)) := (((Below.refl _ _).drew).alloc (Nat.le_refl _) _).alloc (by first | (simp; done) | (simp; omega)) _
    have hrdb : Hid (Rd ((W3.drew.alloc (.cells #[] 57)).alloc (.cells #[.slice none 0 0, .slice none 0 0] 26)) W3.heap.size (some ⟨b1, o1, none⟩) (nds l)) := Rd.below HL.out hblb
    have hkb : Hid (Blk ((W3.drew.alloc (.cells #[] 57)).alloc (.cells #[.slice none 0 0, .slice none 0 0] 26)) w.heap.size 26 #[.slice (some ⟨b1, o1, none⟩) l.length c, .slice (some ⟨b2, o2, none⟩) u.length c']) := Blk.below' K1.out hblb
    have howc : Hid (((W3.drew.alloc (.cells #[.slice none 0 0, .slice none 0 0] 26)).alloc (.cells #[] 57)).ownsRow (W3.heap.size + 1) 57 2 (.slice (some ⟨W3.heap.size + 1, 0, none⟩) 0 0) 0 []) := own_empty (by have := Blk.fresh (W3.drew.alloc (.cells #[.slice none 0 0, .slice none 0 0] 26)) 57 #[]; simp only [World.size_alloc] at this; exact this) (by simp)
    have hblc : Below W3.heap.size W3 ((W3.drew.alloc (.cells #[.slice none 0 0, .slice none 0 0] 26)).alloc (.cells #[] 57)) := (((Below.refl _ _).drew).alloc (Nat.le_refl _) _).alloc (by first | (simp; done) | (simp; omega)) _
    have hrdc : Hid (Rd ((W3.drew.alloc (.cells #[.slice none 0 0, .slice none 0 0] 26)).alloc (.cells #[] 57)) W3.heap.size (some ⟨b1, o1, none⟩) (nds l)) := Rd.below HL.out hblc
    have hkc : Hid (Blk ((W3.drew.alloc (.cells #[.slice none 0 0, .slice none 0 0] 26)).alloc (.cells #[] 57)) w.heap.size 26 #[.slice (some ⟨b1, o1, none⟩) l.length c, .slice (some ⟨b2, o2, none⟩) u.length c']) := Blk.below' K1.out hblc
    have hsb : Hid (Blk ((W3.drew.alloc (.cells #[] 57)).alloc (.cells #[.slice none 0 0, .slice none 0 0] 26)) (W3.heap.size + 1) 26 #[.slice none 0 0, .slice none 0 0]) := by
      have := Blk.fresh (W3.drew.alloc (.cells #[] 57)) 26 #[.slice none 0 0, .slice none 0 0]
      simp only [World.size_alloc] at this
      exact this
    have hsc : Hid (Blk ((W3.drew.alloc (.cells #[.slice none 0 0, .slice none 0 0] 26)).alloc (.cells #[] 57)) W3.heap.size 26 #[.slice none 0 0, .slice none 0 0]) := (Blk.fresh W3.drew _ _).alloc _
    go_wp2_with fail
    go_region_held3 (fun w' => w'.cell? ⟨w.heap.size, 0, none⟩ = some (.slice (some ⟨b1, o1, none⟩) l.length c) ∧ w'.cell? ⟨w.heap.size, 1, none⟩ = some (.slice (some ⟨b2, o2, none⟩) u.length c'))
      (first | go_keep | (exact ⟨v0, v1⟩) | (exact ⟨v2 _ _, v3 _ _⟩))
      (first
        | (refine step_appG (nm := l.length) howa hrda (by simp) rfl _ _ _ rfl i0 (.agg #[.int .i64 0, .int .i64 0]) 16 Try.underlying22 hi hz0 hz1 hz2 rfl (by decide) rfl rfl (nds_len l) (nds_one l) (by unfold maxLen; omega) (by omega) (by first | (simp; done) | (simp; omega)) ?_; intro A5 c5 w5 hown5 hgr5; have hkk := Lib.hid (Blk_grown hka.out hgr5 (by simp [Value.ownBlock]; have := K2.out.lt; omega)); have v0 : w5.cell? ⟨w.heap.size, 0, none⟩ = some (.slice (some ⟨b1, o1, none⟩) l.length c) := hkk.out.cell 0; have v1 : w5.cell? ⟨w.heap.size, 1, none⟩ = some (.slice (some ⟨b2, o2, none⟩) u.length c') := hkk.out.cell 1)
        | (refine step_appG (nm := l.length) howb hrdb (by simp) rfl _ _ _ rfl i0 (.agg #[.int .i64 0, .int .i64 0]) 16 Try.underlying22 hi hz0 hz1 hz2 rfl (by decide) rfl rfl (nds_len l) (nds_one l) (by unfold maxLen; omega) (by omega) (by first | (simp; done) | (simp; omega)) ?_; intro A5 c5 w5 hown5 hgr5; have hkk := Lib.hid (Blk_grown hkb.out hgr5 (by simp [Value.ownBlock]; have := K2.out.lt; omega)); have v0 : w5.cell? ⟨w.heap.size, 0, none⟩ = some (.slice (some ⟨b1, o1, none⟩) l.length c) := hkk.out.cell 0; have v1 : w5.cell? ⟨w.heap.size, 1, none⟩ = some (.slice (some ⟨b2, o2, none⟩) u.length c') := hkk.out.cell 1; have hst := Lib.hid (Blk_grown hsb.out hgr5 (by simp [Value.ownBlock])); have s0 : w5.cell? ⟨W3.heap.size + 1, 0, none⟩ = some (.slice none 0 0) := hst.out.cell 0; have s1 : w5.cell? ⟨W3.heap.size + 1, 1, none⟩ = some (.slice none 0 0) := hst.out.cell 1; have s2 : w5.frozen? ⟨W3.heap.size + 1, 0, none⟩ = false := hst.out.thaw 0; have s3 : w5.frozen? ⟨W3.heap.size + 1, 1, none⟩ = false := hst.out.thaw 1; have v2 : ∀ x y, ((w5.setCell ⟨W3.heap.size + 1, 0, none⟩ x).setCell ⟨W3.heap.size + 1, 1, none⟩ y).cell? ⟨w.heap.size, 0, none⟩ = some (.slice (some ⟨b1, o1, none⟩) l.length c) := fun x y => (blk_far (blk_far hkk.out (p := ⟨W3.heap.size + 1, 0, none⟩) (by have := K2.out.lt; simp; omega) x) (p := ⟨W3.heap.size + 1, 1, none⟩) (by have := K2.out.lt; simp; omega) y).cell 0; have v3 : ∀ x y, ((w5.setCell ⟨W3.heap.size + 1, 0, none⟩ x).setCell ⟨W3.heap.size + 1, 1, none⟩ y).cell? ⟨w.heap.size, 1, none⟩ = some (.slice (some ⟨b2, o2, none⟩) u.length c') := fun x y => (blk_far (blk_far hkk.out (p := ⟨W3.heap.size + 1, 0, none⟩) (by have := K2.out.lt; simp; omega) x) (p := ⟨W3.heap.size + 1, 1, none⟩) (by have := K2.out.lt; simp; omega) y).cell 1)
        | (refine step_appG (nm := l.length) howc hrdc (by simp) rfl _ _ _ rfl i0 (.agg #[.int .i64 0, .int .i64 0]) 16 Try.underlying22 hi hz0 hz1 hz2 rfl (by decide) rfl rfl (nds_len l) (nds_one l) (by unfold maxLen; omega) (by omega) (by first | (simp; done) | (simp; omega)) ?_; intro A5 c5 w5 hown5 hgr5; have hkk := Lib.hid (Blk_grown hkc.out hgr5 (by simp [Value.ownBlock]; have := K2.out.lt; omega)); have v0 : w5.cell? ⟨w.heap.size, 0, none⟩ = some (.slice (some ⟨b1, o1, none⟩) l.length c) := hkk.out.cell 0; have v1 : w5.cell? ⟨w.heap.size, 1, none⟩ = some (.slice (some ⟨b2, o2, none⟩) u.length c') := hkk.out.cell 1; have hst := Lib.hid (Blk_grown hsc.out hgr5 (by simp [Value.ownBlock])); have s0 : w5.cell? ⟨W3.heap.size, 0, none⟩ = some (.slice none 0 0) := hst.out.cell 0; have s1 : w5.cell? ⟨W3.heap.size, 1, none⟩ = some (.slice none 0 0) := hst.out.cell 1; have s2 : w5.frozen? ⟨W3.heap.size, 0, none⟩ = false := hst.out.thaw 0; have s3 : w5.frozen? ⟨W3.heap.size, 1, none⟩ = false := hst.out.thaw 1; have v2 : ∀ x y, ((w5.setCell ⟨W3.heap.size, 0, none⟩ x).setCell ⟨W3.heap.size, 1, none⟩ y).cell? ⟨w.heap.size, 0, none⟩ = some (.slice (some ⟨b1, o1, none⟩) l.length c) := fun x y => (blk_far (blk_far hkk.out (p := ⟨W3.heap.size, 0, none⟩) (by have := K2.out.lt; simp; omega) x) (p := ⟨W3.heap.size, 1, none⟩) (by have := K2.out.lt; simp; omega) y).cell 0; have v3 : ∀ x y, ((w5.setCell ⟨W3.heap.size, 0, none⟩ x).setCell ⟨W3.heap.size, 1, none⟩ y).cell? ⟨w.heap.size, 1, none⟩ = some (.slice (some ⟨b2, o2, none⟩) u.length c') := fun x y => (blk_far (blk_far hkk.out (p := ⟨W3.heap.size, 0, none⟩) (by have := K2.out.lt; simp; omega) x) (p := ⟨W3.heap.size, 1, none⟩) (by have := K2.out.lt; simp; omega) y).cell 1))
    have hsz5 : W3.heap.size ≤ w5.heap.size := by have := hgr5.size; simp at this; omega
    have hO : Hid (Blk (w5.alloc (.cells #[.slice A5 l.length c5, .slice (some ⟨b2, o2, none⟩) u.length c'] 26)) w5.heap.size 26 #[.slice A5 l.length c5, .slice (some ⟨b2, o2, none⟩) u.length c']) := Blk.fresh _ _ _
    have hB6 : Below W3.heap.size W3 (w5.alloc (.cells #[.slice A5 l.length c5, .slice (some ⟨b2, o2, none⟩) u.length c'] 26)) := (hbla.grown hgr5 (by first | (simp; done) | (simp; omega)) (by simp [Value.ownBlock])).alloc hsz5 _
    have hown6 : Hid ((w5.alloc (.cells #[.slice A5 l.length c5, .slice (some ⟨b2, o2, none⟩) u.length c'] 26)).ownsRow W3.heap.size 57 2 (.slice A5 l.length c5) l.length (nds l)) := World.ownsRow.alloc hown5.out _
    have hgO : W3.heap.size ≤ w5.heap.size := by omega
    clear hgr5 hown5
    generalize (w5.alloc (.cells #[.slice A5 l.length c5, .slice (some ⟨b2, o2, none⟩) u.length c'] 26)) = w6 at hO hB6 hown6 ⊢
    generalize hgg : w5.heap.size = gO at hO hgO ⊢
    clear hgg
    rotate_left
    have hsz5 : W3.heap.size ≤ w5.heap.size := by have := hgr5.size; simp at this; omega
    have hO : Hid (Blk ((w5.setCell ⟨W3.heap.size + 1, 0, none⟩ (.slice A5 l.length c5)).setCell ⟨W3.heap.size + 1, 1, none⟩ (.slice (some ⟨b2, o2, none⟩) u.length c')) (W3.heap.size + 1) 26 #[.slice A5 l.length c5, .slice (some ⟨b2, o2, none⟩) u.length c']) := blk_set (blk_set hst.out 0 _) 1 _
    have hB6 : Below W3.heap.size W3 ((w5.setCell ⟨W3.heap.size + 1, 0, none⟩ (.slice A5 l.length c5)).setCell ⟨W3.heap.size + 1, 1, none⟩ (.slice (some ⟨b2, o2, none⟩) u.length c')) := ((hblb.grown hgr5 (by first | (simp; done) | (simp; omega)) (by simp [Value.ownBlock])).setCell (by simp) _).setCell (by simp) _
    have hown6 : Hid (((w5.setCell ⟨W3.heap.size + 1, 0, none⟩ (.slice A5 l.length c5)).setCell ⟨W3.heap.size + 1, 1, none⟩ (.slice (some ⟨b2, o2, none⟩) u.length c')).ownsRow W3.heap.size 57 2 (.slice A5 l.length c5) l.length (nds l)) := own_set2 hown5.out hst.out (by decide) _ _
    have hgO : W3.heap.size ≤ (W3.heap.size + 1) := by omega
    clear hgr5 hown5
    generalize ((w5.setCell ⟨W3.heap.size + 1, 0, none⟩ (.slice A5 l.length c5)).setCell ⟨W3.heap.size + 1, 1, none⟩ (.slice (some ⟨b2, o2, none⟩) u.length c')) = w6 at hO hB6 hown6 ⊢
    generalize hgg : (W3.heap.size + 1) = gO at hO hgO ⊢
    clear hgg
    rotate_left
    have hsz5 : W3.heap.size ≤ w5.heap.size := by have := hgr5.size; simp at this; omega
    have hO : Hid (Blk ((w5.setCell ⟨W3.heap.size, 0, none⟩ (.slice A5 l.length c5)).setCell ⟨W3.heap.size, 1, none⟩ (.slice (some ⟨b2, o2, none⟩) u.length c')) W3.heap.size 26 #[.slice A5 l.length c5, .slice (some ⟨b2, o2, none⟩) u.length c']) := blk_set (blk_set hst.out 0 _) 1 _
    have hB6 : Below W3.heap.size W3 ((w5.setCell ⟨W3.heap.size, 0, none⟩ (.slice A5 l.length c5)).setCell ⟨W3.heap.size, 1, none⟩ (.slice (some ⟨b2, o2, none⟩) u.length c')) := ((hblc.grown hgr5 (by first | (simp; done) | (simp; omega)) (by simp [Value.ownBlock])).setCell (by simp) _).setCell (by simp) _
    have hown6 : Hid (((w5.setCell ⟨W3.heap.size, 0, none⟩ (.slice A5 l.length c5)).setCell ⟨W3.heap.size, 1, none⟩ (.slice (some ⟨b2, o2, none⟩) u.length c')).ownsRow W3.heap.size 57 2 (.slice A5 l.length c5) l.length (nds l)) := own_mono (own_set2 hown5.out hst.out (by decide) _ _) (by omega)
    have hgO : W3.heap.size ≤ W3.heap.size := by omega
    clear hgr5 hown5
    generalize ((w5.setCell ⟨W3.heap.size, 0, none⟩ (.slice A5 l.length c5)).setCell ⟨W3.heap.size, 1, none⟩ (.slice (some ⟨b2, o2, none⟩) u.length c')) = w6 at hO hB6 hown6 ⊢
    generalize hgg : W3.heap.size = gO at hO hgO ⊢
    clear hgg
    rotate_left
    all_goals
      clear hrda hrdb hrdc hbla hblb hblc howa howb howc hka hkb hkc hsb hsc
      obtain ⟨g5, rfl, hg5a, hg5b, hz1, hz2, hz3⟩ := own_at2 hown6.out (by omega)
      obtain ⟨d1, d2, d3⟩ := hz2 n.toNat hnl
      have hsm := hz3 n.toNat x hnl
      clear hz1 hz2 hz3
      have hKlt := K2.out.lt
      have e0 : w6.cell? ⟨gO, 0, none⟩ = some (.slice (some ⟨g5, 0, none⟩) l.length c5) := hO.out.cell 0
      have e1 : w6.cell? ⟨gO, 1, none⟩ = some (.slice (some ⟨b2, o2, none⟩) u.length c') := hO.out.cell 1
      have hne1 : gO ≠ g5 := by
        rintro rfl
        rw [hO.out.cell] at d2
        have : n.toNat * 2 + 1 = 1 ∨ 2 ≤ n.toNat * 2 + 1 := by omega
        rcases this with h | h
        · rw [h] at d2; simp at d2
        · rw [Array.getElem?_eq_none (by simpa using h)] at d2; cases d2
      have hbl' : Below W3.heap.size W3 (w6.setCell ⟨g5, n.toNat * 2 + 1, none⟩ (.int .i64 x)) := hB6.setCell (by simpa using hg5a) _
      have hO' := blk_far hO.out (p := ⟨g5, n.toNat * 2 + 1, none⟩) (by simpa using hne1) (.int .i64 x)
      have hK2 := Blk.below K2.out hbl' hKlt
      have v0 : (w6.setCell ⟨g5, n.toNat * 2 + 1, none⟩ (.int .i64 x)).cell? ⟨gO, 0, none⟩ = some (.slice (some ⟨g5, 0, none⟩) l.length c5) := hO'.cell 0
      have v1 : (w6.setCell ⟨g5, n.toNat * 2 + 1, none⟩ (.int .i64 x)).cell? ⟨gO, 1, none⟩ = some (.slice (some ⟨b2, o2, none⟩) u.length c') := hO'.cell 1
      have s0 : (w6.setCell ⟨g5, n.toNat * 2 + 1, none⟩ (.int .i64 x)).cell? ⟨w.heap.size + 1, 0, none⟩ = some (.slice none 0 0) := hK2.cell 0
      have s1 : (w6.setCell ⟨g5, n.toNat * 2 + 1, none⟩ (.int .i64 x)).cell? ⟨w.heap.size + 1, 1, none⟩ = some (.slice none 0 0) := hK2.cell 1
      have s2 : (w6.setCell ⟨g5, n.toNat * 2 + 1, none⟩ (.int .i64 x)).frozen? ⟨w.heap.size + 1, 0, none⟩ = false := hK2.thaw 0
      have s3 : (w6.setCell ⟨g5, n.toNat * 2 + 1, none⟩ (.int .i64 x)).frozen? ⟨w.heap.size + 1, 1, none⟩ = false := hK2.thaw 1
      have bF := ((below_step b3 hbl').setCell (p := ⟨w.heap.size + 1, 0, none⟩) (by simp) (.slice (some ⟨g5, 0, none⟩) l.length c5)).setCell (p := ⟨w.heap.size + 1, 1, none⟩) (by simp) (.slice (some ⟨b2, o2, none⟩) u.length c')
      have T2 := Lib.hid (Rd.below' hu.out bF bF.size)
      have T1 := Lib.hid (Rd.of_own (ownsRow_setCell_below (ownsRow_setCell_below hsm (a := ⟨w.heap.size + 1, 0, none⟩) hKlt (.slice (some ⟨g5, 0, none⟩) l.length c5)) (a := ⟨w.heap.size + 1, 1, none⟩) hKlt (.slice (some ⟨b2, o2, none⟩) u.length c')))
      have hend := Lib.hid (madeLim_mk (A := some ⟨g5, 0, none⟩) (A' := some ⟨b2, o2, none⟩) (c := c5) (c' := c') hresu.out hres.out T1.out T2.out bF)
      rw [List.length_set] at hend
      have kf := blk_set (blk_set hK2 0 (.slice (some ⟨g5, 0, none⟩) l.length c5)) 1 (.slice (some ⟨b2, o2, none⟩) u.length c')
      have t4 : (((w6.setCell ⟨g5, n.toNat * 2 + 1, none⟩ (.int .i64 x)).setCell ⟨w.heap.size + 1, 0, none⟩ (.slice (some ⟨g5, 0, none⟩) l.length c5)).setCell ⟨w.heap.size + 1, 1, none⟩ (.slice (some ⟨b2, o2, none⟩) u.length c')).cell? ⟨w.heap.size + 1, 0, none⟩ = some (.slice (some ⟨g5, 0, none⟩) l.length c5) := by rw [kf.cell]; rfl
      have t5 : (((w6.setCell ⟨g5, n.toNat * 2 + 1, none⟩ (.int .i64 x)).setCell ⟨w.heap.size + 1, 0, none⟩ (.slice (some ⟨g5, 0, none⟩) l.length c5)).setCell ⟨w.heap.size + 1, 1, none⟩ (.slice (some ⟨b2, o2, none⟩) u.length c')).cell? ⟨w.heap.size + 1, 1, none⟩ = some (.slice (some ⟨b2, o2, none⟩) u.length c') := by rw [kf.cell]; rfl
      clear kf bF hK2 hO' hbl' hsm f0 f1 r0 r1 y0 y1
      go_wp2_with fail
      exact bodyPost_ret (v := .tuple #[.agg #[.slice (some ⟨g5, 0, none⟩) l.length c5, .slice (some ⟨b2, o2, none⟩) u.length c'], .int .i64 0]) (by simp [results, Try.results24, go_sem, t4, t5]) rfl hend.out
  · have hin' : inR l.length n = false := by simpa using hin
    have hres : Hid (limF l n x = 18) := by show _ = _; rw [limF, hin']; rfl
    have hresu : Hid (limL l n x = l) := by show _ = _; rw [limL, hres.out]; rfl
    have hout : n < 0 ∨ (l.length : Int) ≤ n := by
      by_cases h0 : n < 0
      · exact .inl h0
      · right
        by_cases h1 : n < l.length
        · exact absurd (inR_t (by omega) h1) hin
        · omega
    clear hin hin'
    by_cases h0 : n < 0
    · clear hout
      go_enter Try.func24, Try.ntmps24
      go_wp2_with fail
      exact bodyPost_ret (v := .tuple #[.agg #[.slice A l.length c, .slice A' u.length c'], .int .i64 18]) (by simp [results, Try.results24, go_sem, t4, t5]) rfl (madeLim_mk hresu.out hres.out T1.out T2.out T3)
    · have h1 : (l.length : Int) ≤ n := by omega
      have h2 : 0 ≤ n := by omega
      clear hout
      go_enter Try.func24, Try.ntmps24
      go_wp2_with fail
      exact bodyPost_ret (v := .tuple #[.agg #[.slice A l.length c, .slice A' u.length c'], .int .i64 18]) (by simp [results, Try.results24, go_sem, t4, t5]) rfl (madeLim_mk hresu.out hres.out T1.out T2.out T3)
end Go.Proofs.Ytlipkggcakgcnaa.Rm4
