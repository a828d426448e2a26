/- The contract of the law's To: a State of the reference's as the program has it. Condition: the State lies in memory. -/
import Derived.Test.YtjldfcoakbdfpaaSm4
namespace Go.Proofs.Ytjldfcoakbdfpaa.To4
open Go.ChangeShapes Go.WideShapes Go.ChangeAt Go.RowKit Mem Tre Ref3 Law3 Fix3 Crd CrdB CrdC Cpl Own Res Rr4 Sm4
set_option linter.unusedVariables false

theorem rd_grown_empty {w w' : World} {B g : Nat} {A : Option Addr} {xs : List Value} {te : TypeId} (h : Rd w B A xs) (hk : Blk w g te #[]) (hg : w.grownBy w' (some g)) : Rd w' w'.heap.size A xs := by
  rcases h with h | ⟨b, o, hA, hb, hc⟩
  · exact .inl h
  · by_cases hx : xs = []
    · exact .inl hx
    · have h0 : 0 < xs.length := by cases xs with | nil => exact absurd rfl hx | cons a l => simp
      have hc0 := hc 0 _ (List.getElem?_eq_getElem h0)
      have hne : b ≠ g := by
        rintro rfl
        rw [hk.cell] at hc0
        simp at hc0
      have hl := World.block_lt_of_cell? w _ hc0
      refine .inr ⟨b, o, hA, Nat.lt_of_lt_of_le hl hg.size, fun i v hi => ?_⟩
      exact (World.cell?_of_block (w := w) (a := ⟨b, o + i, none⟩) (hg.block b hl (by intro e; injection e with e; exact hne e))).trans (hc i v hi)
theorem below_grown {w0 w w' : World} {g : Nat} (h : Below w0.heap.size w0 w) (hg : w.grownBy w' (some g)) (hl : w0.heap.size ≤ g) : Below w0.heap.size w0 w' :=
  h.grown hg h.size (fun k hk => by injection hk with hk; omega)

def AllInt (xs : List Value) : Prop := ∀ v ∈ xs, ∃ (k : IntKind) (x : Int), v = .int k x
theorem allInt_ints (u : List Int) : AllInt (ints u) := by
  intro v hv
  simp only [ints, List.mem_map] at hv
  obtain ⟨x, _, rfl⟩ := hv
  exact ⟨_, _, rfl⟩
theorem allInt_nds (l : List (Int × Int)) : AllInt (nds l) := by
  intro v hv
  simp only [nds, ndV, List.mem_flatMap] at hv
  obtain ⟨x, _, h⟩ := hv
  simp at h
  rcases h with rfl | rfl <;> exact ⟨_, _, rfl⟩
theorem rd_setBlk {w : World} {B g j n n' c c' : Nat} {A a a' : Option Addr} {xs : List Value} {te : TypeId} (h : Rd w B A xs) (hk : Blk w g te #[.slice a n c, .slice a' n' c']) (hi : AllInt xs) (u : Value) : Rd (w.setCell ⟨g, j, none⟩ u) (w.setCell ⟨g, j, none⟩ u).heap.size A xs := by
  rcases h with h | ⟨b, o, hA, hb, hc⟩
  · exact .inl h
  · by_cases hx : xs = []
    · exact .inl hx
    · have h0 : 0 < xs.length := by cases xs with | nil => exact absurd rfl hx | cons a l => simp
      have hc0 := hc 0 _ (List.getElem?_eq_getElem h0)
      obtain ⟨k, x, hv⟩ := hi _ (List.getElem_mem h0)
      rw [hv] at hc0
      have hne := blk_ne hk hc0
      refine Rd.keep' (.inr ⟨b, o, hA, hb, hc⟩) (Nat.lt_succ_self g) (fun q hq => ?_) u
      rw [hA] at hq
      injection hq with hq
      subst hq
      exact hne
/-- the end: the result's block takes the State -/
theorem to4_end {w W : World} {A1 A5 : Option Addr} {c1 c5 : Nat} {l : List (Int × Int)} {u : List Int} (h1 : Nds W W.heap.size A1 l) (h2 : Ris W W.heap.size A5 u) (hk : Blk W (w.heap.size + 1) 47 #[.slice none 0 0, .slice none 0 0]) (hb : Below w.heap.size w W) :
    MadeSt l u w (.returned (.agg #[.slice A1 l.length c1, .slice A5 u.length c5])) ((W.setCell ⟨w.heap.size + 1, 0, none⟩ (.slice A1 l.length c1)).setCell ⟨w.heap.size + 1, 1, none⟩ (.slice A5 u.length c5)) ∧
    ((W.setCell ⟨w.heap.size + 1, 0, none⟩ (.slice A1 l.length c1)).setCell ⟨w.heap.size + 1, 1, none⟩ (.slice A5 u.length c5)).cell? ⟨w.heap.size + 1, 0, none⟩ = some (.slice A1 l.length c1) ∧
    ((W.setCell ⟨w.heap.size + 1, 0, none⟩ (.slice A1 l.length c1)).setCell ⟨w.heap.size + 1, 1, none⟩ (.slice A5 u.length c5)).cell? ⟨w.heap.size + 1, 1, none⟩ = some (.slice A5 u.length c5) := by
  have hk' : Blk (W.setCell ⟨w.heap.size + 1, 0, none⟩ (.slice A1 l.length c1)) (w.heap.size + 1) 47 #[.slice A1 l.length c1, .slice none 0 0] := blk_set hk 0 _
  have kf := blk_set hk' 1 (.slice A5 u.length c5)
  refine ⟨madeSt_mk rfl rfl (rd_setBlk (rd_setBlk h1 hk (allInt_nds l) _) hk' (allInt_nds l) _) (rd_setBlk (rd_setBlk h2 hk (allInt_ints u) _) hk' (allInt_ints u) _) ((hb.setCell (by simp) _).setCell (by simp) _), by rw [kf.cell]; rfl, by rw [kf.cell]; rfl⟩

set_option maxHeartbeats 2000000 in
theorem to4_any (A A' : Option Addr) (c c' : Nat) (l : List (Int × Int)) (u : List Int) (w : World) (hl : Hid (Nds w w.heap.size A l)) (hu : Hid (Ris w w.heap.size A' u)) (hw : Hid (WfN l)) (hmax : (l.length : Int) ≤ 1000000) (hmay : (u.length : Int) ≤ 1000000) :
    Calls Try.prog 30 #[.agg #[.slice A l.length c, .slice A' u.length c']] w (MadeSt l u w) := by
  obtain ⟨i0, hi, hz0, hz1, hz2⟩ := info_parts i64_info
  have H1 : Hid (∀ W, Below w.heap.size w W → Hid (Nds W W.heap.size A l)) := fun W hb => Rd.below' hl.out hb hb.size
  have H2 : Hid (∀ W, Below w.heap.size w W → Hid (Rd W w.heap.size A' (ints u))) := fun W hb => Rd.below hu.out hb
  obtain ⟨W, hW⟩ : ∃ W, W = ((w.alloc (.cells #[.slice A l.length c, .slice A' u.length c'] 44)).alloc (.cells #[.slice none 0 0, .slice none 0 0] 47)) := ⟨_, rfl⟩
  have HW := Lib.hid hW
  have b0 : Below w.heap.size w W.drew := by rw [hW]; exact (((Below.refl _ _).alloc (Nat.le_refl _) _).alloc (by simp) _).drew
  have k1 : Hid (Blk W.drew w.heap.size 44 #[.slice A l.length c, .slice A' u.length c']) := by rw [hW]; exact (Blk.fresh w _ _).alloc _
  have k2 : Hid (Blk W.drew (w.heap.size + 1) 47 #[.slice none 0 0, .slice none 0 0]) := by
    have := Blk.fresh (w.alloc (.cells #[.slice A l.length c, .slice A' u.length c'] 44)) 47 #[.slice none 0 0, .slice none 0 0]
    simp only [World.size_alloc] at this
    rw [hW]; exact this
  have hWs : W.heap.size = w.heap.size + 2 := by rw [hW]; simp
  have b1 : Below w.heap.size w (W.alloc (.cells #[] 2)).drew := by rw [hW]; exact ((((Below.refl _ _).alloc (Nat.le_refl _) _).alloc (by simp) _).alloc (by simp; omega) _).drew
  have m1 : Hid (Blk (W.alloc (.cells #[] 2)).drew w.heap.size 44 #[.slice A l.length c, .slice A' u.length c']) := k1.out.alloc _
  have m2 : Hid (Blk (W.alloc (.cells #[] 2)).drew (w.heap.size + 1) 47 #[.slice none 0 0, .slice none 0 0]) := k2.out.alloc _
  have m3 : Hid (Blk (W.alloc (.cells #[] 2)).drew W.heap.size 2 #[]) := Blk.fresh W _ _
  have howC : Hid ((W.alloc (.cells #[] 2)).drew.ownsRow W.heap.size 2 1 (.slice (some ⟨W.heap.size, 0, none⟩) 0 0) 0 []) := own_empty m3.out (Nat.le_refl _)
  have hws := Lib.hid hWs
  clear hW hWs
  have f0 : W.cell? ⟨w.heap.size, 0, none⟩ = some (.slice A l.length c) := k1.out.cell 0
  have f1 : W.cell? ⟨w.heap.size, 1, none⟩ = some (.slice A' u.length c') := k1.out.cell 1
  go_enter Try.func30, Try.ntmps30
  go_wp2_with fail
  rw [← HW.out]
  go_region_held3 (fun w' => w'.cell? ⟨w.heap.size, 0, none⟩ = some (.slice A l.length c) ∧ w'.cell? ⟨w.heap.size, 1, none⟩ = some (.slice A' u.length c'))
    (first | go_keep | (exact ⟨v0, v1⟩) | (exact ⟨x0, x1⟩) | (exact ⟨y0 _ _, y1 _ _⟩))
    (first
      | (go_at_call 10; (with_reducible refine (to_any A c l W.drew (H1.out _ b0) hw hmax).mono ?_); rintro e w1 ⟨A1, c1, rfl, hn1, hb1⟩; have bw := Lib.hid (below_step b0 hb1); have q1 := Lib.hid (Blk.below' k1.out hb1); have q2 := Lib.hid (Blk.below' k2.out hb1); have v0 : w1.cell? ⟨w.heap.size, 0, none⟩ = some (.slice A l.length c) := q1.out.cell 0; have v1 : w1.cell? ⟨w.heap.size, 1, none⟩ = some (.slice A' u.length c') := q1.out.cell 1; have hrdA := H2.out _ (bw.out.alloc bw.out.size (.cells #[] 2)); have hE := Lib.hid (Blk.fresh w1 2 #[]); have howA := Lib.hid (own_empty (size := 1) hE.out (Nat.le_refl _)))
      | (go_at_call 10; (with_reducible refine (to_any A c l (W.alloc (.cells #[] 2)).drew (H1.out _ b1) hw hmax).mono ?_); rintro e w1 ⟨A1, c1, rfl, hn1, hb1⟩; have bw := Lib.hid (below_step b1 hb1); have q1 := Lib.hid (Blk.below' m1.out hb1); have q2 := Lib.hid (Blk.below' m2.out hb1); have v0 : w1.cell? ⟨w.heap.size, 0, none⟩ = some (.slice A l.length c) := q1.out.cell 0; have v1 : w1.cell? ⟨w.heap.size, 1, none⟩ = some (.slice A' u.length c') := q1.out.cell 1; have hrdB := H2.out _ bw.out; have hE := Lib.hid (Blk.below' m3.out hb1); have howB := Lib.hid (own_empty (size := 1) (base := W.heap.size) hE.out (Nat.le_refl _)))
      | (go_at_call 10; (with_reducible refine (to_any A c l w5 (H1.out _ bw5.out) hw hmax).mono ?_); rintro e w1 ⟨A1, c1, rfl, hn1, hb1⟩; have bw := Lib.hid (below_step bw5.out hb1); have q1 := Lib.hid (Blk.below' p1.out hb1); have q2 := Lib.hid (Blk.below' p2.out hb1); have x0 : w1.cell? ⟨w.heap.size, 0, none⟩ = some (.slice A l.length c) := q1.out.cell 0; have x1 : w1.cell? ⟨w.heap.size, 1, none⟩ = some (.slice A' u.length c') := q1.out.cell 1; have s0 : w1.cell? ⟨w.heap.size + 1, 0, none⟩ = some (.slice none 0 0) := q2.out.cell 0; have s1 : w1.cell? ⟨w.heap.size + 1, 1, none⟩ = some (.slice none 0 0) := q2.out.cell 1; have s2 : w1.frozen? ⟨w.heap.size + 1, 0, none⟩ = false := q2.out.thaw 0; have s3 : w1.frozen? ⟨w.heap.size + 1, 1, none⟩ = false := q2.out.thaw 1; have y0 : ∀ x y, ((w1.setCell ⟨w.heap.size + 1, 0, none⟩ x).setCell ⟨w.heap.size + 1, 1, none⟩ y).cell? ⟨w.heap.size, 0, none⟩ = some (.slice A l.length c) := fun x y => (blk_far (blk_far q1.out (p := ⟨w.heap.size + 1, 0, none⟩) (by simp) x) (p := ⟨w.heap.size + 1, 1, none⟩) (by simp) y).cell 0; have y1 : ∀ x y, ((w1.setCell ⟨w.heap.size + 1, 0, none⟩ x).setCell ⟨w.heap.size + 1, 1, none⟩ y).cell? ⟨w.heap.size, 1, none⟩ = some (.slice A' u.length c') := fun x y => (blk_far (blk_far q1.out (p := ⟨w.heap.size + 1, 0, none⟩) (by simp) x) (p := ⟨w.heap.size + 1, 1, none⟩) (by simp) y).cell 1)
      | (refine step_appG (nm := u.length) howA hrdA (by simp) rfl _ _ _ rfl i0 (.int .i64 0) 8 Try.underlying42 hi hz0 hz1 hz2 rfl (by decide) rfl rfl (by rw [ints_len]; omega) (ints_one u) (by unfold maxLen; omega) (by omega) (by simp) ?_; intro A5 c5 w5 hown5 hgr5; have p1 := Lib.hid (Blk_grown (q1.out.alloc (.cells #[] 2)) hgr5 (by have := q2.out.lt; simp [Value.ownBlock]; omega)); have p2 := Lib.hid (Blk_grown (q2.out.alloc (.cells #[] 2)) hgr5 (by have := q2.out.lt; simp [Value.ownBlock]; omega)); have x0 : w5.cell? ⟨w.heap.size, 0, none⟩ = some (.slice A l.length c) := p1.out.cell 0; have x1 : w5.cell? ⟨w.heap.size, 1, none⟩ = some (.slice A' u.length c') := p1.out.cell 1; have s0 : w5.cell? ⟨w.heap.size + 1, 0, none⟩ = some (.slice none 0 0) := p2.out.cell 0; have s1 : w5.cell? ⟨w.heap.size + 1, 1, none⟩ = some (.slice none 0 0) := p2.out.cell 1; have s2 : w5.frozen? ⟨w.heap.size + 1, 0, none⟩ = false := p2.out.thaw 0; have s3 : w5.frozen? ⟨w.heap.size + 1, 1, none⟩ = false := p2.out.thaw 1; have y0 : ∀ x y, ((w5.setCell ⟨w.heap.size + 1, 0, none⟩ x).setCell ⟨w.heap.size + 1, 1, none⟩ y).cell? ⟨w.heap.size, 0, none⟩ = some (.slice A l.length c) := fun x y => (blk_far (blk_far p1.out (p := ⟨w.heap.size + 1, 0, none⟩) (by simp) x) (p := ⟨w.heap.size + 1, 1, none⟩) (by simp) y).cell 0; have y1 : ∀ x y, ((w5.setCell ⟨w.heap.size + 1, 0, none⟩ x).setCell ⟨w.heap.size + 1, 1, none⟩ y).cell? ⟨w.heap.size, 1, none⟩ = some (.slice A' u.length c') := fun x y => (blk_far (blk_far p1.out (p := ⟨w.heap.size + 1, 0, none⟩) (by simp) x) (p := ⟨w.heap.size + 1, 1, none⟩) (by simp) y).cell 1)
      | (refine step_appG (nm := u.length) howB hrdB (by simp) rfl _ _ _ rfl i0 (.int .i64 0) 8 Try.underlying42 hi hz0 hz1 hz2 rfl (by decide) rfl rfl (by rw [ints_len]; omega) (ints_one u) (by unfold maxLen; omega) (by omega) (by have := hE.out.lt; omega) ?_; intro A5 c5 w5 hown5 hgr5; have p1 := Lib.hid (Blk_grown q1.out hgr5 (by have := hws.out; simp [Value.ownBlock]; omega)); have p2 := Lib.hid (Blk_grown q2.out hgr5 (by have := hws.out; simp [Value.ownBlock]; omega)); have x0 : w5.cell? ⟨w.heap.size, 0, none⟩ = some (.slice A l.length c) := p1.out.cell 0; have x1 : w5.cell? ⟨w.heap.size, 1, none⟩ = some (.slice A' u.length c') := p1.out.cell 1; have s0 : w5.cell? ⟨w.heap.size + 1, 0, none⟩ = some (.slice none 0 0) := p2.out.cell 0; have s1 : w5.cell? ⟨w.heap.size + 1, 1, none⟩ = some (.slice none 0 0) := p2.out.cell 1; have s2 : w5.frozen? ⟨w.heap.size + 1, 0, none⟩ = false := p2.out.thaw 0; have s3 : w5.frozen? ⟨w.heap.size + 1, 1, none⟩ = false := p2.out.thaw 1; have y0 : ∀ x y, ((w5.setCell ⟨w.heap.size + 1, 0, none⟩ x).setCell ⟨w.heap.size + 1, 1, none⟩ y).cell? ⟨w.heap.size, 0, none⟩ = some (.slice A l.length c) := fun x y => (blk_far (blk_far p1.out (p := ⟨w.heap.size + 1, 0, none⟩) (by simp) x) (p := ⟨w.heap.size + 1, 1, none⟩) (by simp) y).cell 0; have y1 : ∀ x y, ((w5.setCell ⟨w.heap.size + 1, 0, none⟩ x).setCell ⟨w.heap.size + 1, 1, none⟩ y).cell? ⟨w.heap.size, 1, none⟩ = some (.slice A' u.length c') := fun x y => (blk_far (blk_far p1.out (p := ⟨w.heap.size + 1, 0, none⟩) (by simp) x) (p := ⟨w.heap.size + 1, 1, none⟩) (by simp) y).cell 1)
      | (refine step_appG (nm := u.length) howC (H2.out _ b1) (by simp) rfl _ _ _ rfl i0 (.int .i64 0) 8 Try.underlying42 hi hz0 hz1 hz2 rfl (by decide) rfl rfl (by rw [ints_len]; omega) (ints_one u) (by unfold maxLen; omega) (by omega) (by simp) ?_; intro A5 c5 w5 hown5 hgr5; have p1 := Lib.hid (Blk_grown m1.out hgr5 (by have := hws.out; simp [Value.ownBlock]; omega)); have p2 := Lib.hid (Blk_grown m2.out hgr5 (by have := hws.out; simp [Value.ownBlock]; omega)); have bw5 := Lib.hid (below_grown (g := W.heap.size) b1 hgr5 (by have := hws.out; omega)); have v0 : w5.cell? ⟨w.heap.size, 0, none⟩ = some (.slice A l.length c) := p1.out.cell 0; have v1 : w5.cell? ⟨w.heap.size, 1, none⟩ = some (.slice A' u.length c') := p1.out.cell 1))
  all_goals first
    | (have NF : Nds w5 w5.heap.size A1 l := Rd.below' hn1 (((Below.refl _ _).alloc (Nat.le_refl _) _).grown hgr5 (by simp) (by simp [Value.ownBlock])) (by have := hgr5.size; simp at this; omega)
       have RF : Ris w5 w5.heap.size A5 u := Rd.of_own hown5.out
       have BF : Below w.heap.size w w5 := (bw.out.alloc bw.out.size _).grown hgr5 (by have := bw.out.size; simp; omega) (by have := bw.out.size; simp [Value.ownBlock]; omega)
       have PF := p2.out
       clear hgr5
       obtain ⟨z1, z2, z3⟩ := to4_end (c1 := c1) (c5 := c5) NF RF PF BF
       have Z1 := Lib.hid z1
       clear z1
       go_wp2_with fail
       exact bodyPost_ret (v := .agg #[.slice A1 l.length c1, .slice A5 u.length c5]) (by simp [results, Try.results30, go_sem, z2, z3]) rfl Z1.out)
    | (have NF : Nds w1 w1.heap.size A1 l := hn1
       have RF : Ris w1 w1.heap.size A5 u := Rd.of_own (own_below hown5 hb1).out
       have BF : Below w.heap.size w w1 := bw.out
       have PF := q2.out
       clear hgr5
       obtain ⟨z1, z2, z3⟩ := to4_end (c1 := c1) (c5 := c5) NF RF PF BF
       have Z1 := Lib.hid z1
       clear z1
       go_wp2_with fail
       exact bodyPost_ret (v := .agg #[.slice A1 l.length c1, .slice A5 u.length c5]) (by simp [results, Try.results30, go_sem, z2, z3]) rfl Z1.out)
    | (have NF : Nds w5 w5.heap.size A1 l := rd_grown_empty hn1 hE.out hgr5
       have RF : Ris w5 w5.heap.size A5 u := Rd.of_own hown5.out
       have BF : Below w.heap.size w w5 := below_grown (g := W.heap.size) bw.out hgr5 (by have := hws.out; omega)
       have PF := p2.out
       clear hgr5
       obtain ⟨z1, z2, z3⟩ := to4_end (c1 := c1) (c5 := c5) NF RF PF BF
       have Z1 := Lib.hid z1
       clear z1
       go_wp2_with fail
       exact bodyPost_ret (v := .agg #[.slice A1 l.length c1, .slice A5 u.length c5]) (by simp [results, Try.results30, go_sem, z2, z3]) rfl Z1.out)
end Go.Proofs.Ytjldfcoakbdfpaa.To4
