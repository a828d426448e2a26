/- Texts side by side. -/
import Derived.Test.YtaeddnjjeholgaaGreatUgbh
set_option linter.unusedVariables false
set_option linter.unusedSimpArgs false
set_option maxRecDepth 100000
set_option maxHeartbeats 16000000
namespace Go.Proofs.YtaeddnjjeholgaaGreat
open Kap Lat Lax Go.ChangeShapes Go.WideShapes Go.ChangeAt Go.RowKit Go.Lib Mem Cel Bkp Bks Wpl Hpa Gpl Mdp Cfg Gow Gac Gat Gup Gex Gma Gbe Gth Gmz Gsn Gsm Glp Gx1 Gx3 Gx4 Gx5 Gre Gx6
namespace Gx7
open Gma (wpL_two)
open Gpu (wpL_three)
def Fz (b : Nat) (A : Option Addr) (xs : List Value) : Prop := xs = [] ∨ ∀ a, A = some a → a.block ≠ b
def Nz (b : Nat) (A C : Option Addr) (rl : List Rc) (bk : Bk) : Prop := Fz b A (rcs rl) ∧ Fz b C (ens bk.op) ∧ ∀ j, j < rl.length → Fz b (gC rl j).A (ints (gC rl j).r.ns)
section
variable {w : World} {b i : Nat} {A C : Option Addr} {rl : List Rc} {bk : Bk} {u : Value} {xs : List Value}
theorem fz_old (h : Rd w w.heap.size A xs) (hb : w.heap.size ≤ b) : Fz b A xs := by
  rcases h with h | ⟨c, o, hA, hl, _⟩
  · exact .inl h
  · exact .inr fun a ha => by rw [hA] at ha; injection ha with ha; subst ha; show c ≠ b; omega
theorem fz_new {n : Nat} (h : ∀ a, A = some a → n ≤ a.block) (hb : b < n) : Fz b A xs := .inr fun a ha => by have := h a ha; omega
theorem nz_old (h : Bm w A C rl bk) (hb : w.heap.size ≤ b) : Nz b A C rl bk := ⟨fz_old h.r hb, fz_old h.o hb, fun j hj => fz_old (h.n j hj) hb⟩
theorem nz_new {n : Nat} (h : Bka.Fb n A C rl) (hb : b < n) : Nz b A C rl bk := ⟨fz_new h.1 hb, fz_new h.2.1 hb, fun j hj => fz_new (h.2.2 j hj) hb⟩
theorem rd_st (h : Rd w w.heap.size A xs) (hf : Fz b A xs) : Rd (w.setCell ⟨b, i, none⟩ u) (w.setCell ⟨b, i, none⟩ u).heap.size A xs := by
  rcases hf with hf | hf
  · exact .inl hf
  · exact Rd.keep' h (Nat.lt_succ_self _) hf _
theorem bm_st (h : Bm w A C rl bk) (hf : Nz b A C rl bk) : Bm (w.setCell ⟨b, i, none⟩ u) A C rl bk := ⟨rd_st h.r hf.1, h.e, fun j hj => rd_st (h.n j hj) (hf.2.2 j hj), rd_st h.o hf.2.1⟩
end
theorem fb_mono {m n : Nat} {A C : Option Addr} {rl : List Rc} (h : Bka.Fb n A C rl) (hm : m ≤ n) : Bka.Fb m A C rl := ⟨fun a ha => Nat.le_trans hm (h.1 a ha), fun a ha => Nat.le_trans hm (h.2.1 a ha), fun j hj a ha => Nat.le_trans hm (h.2.2 j hj a ha)⟩
def stW (w : World) (b7 b8 : Nat) (u0 u1 u2 u3 v : Value) : World := ((((w.setCell ⟨b7, 0, none⟩ u0).setCell ⟨b7, 1, none⟩ u1).setCell ⟨b7, 2, none⟩ u2).setCell ⟨b7, 3, none⟩ u3).setCell ⟨b8, 0, none⟩ v
theorem cutW {ρ : Nat → Nat} {w1 w : World} {b7 b8 c d ci : Nat} {x0 x1 x2 x3 x : Value} {A C Ai : Option Addr} {rl : List Rc} {bk : Bk} {ids : List Int} (hz : ∀ k, w1.heap.size ≤ k → ρ k = 0) (hb : Below w1.heap.size w1 w) (k7 : Blk w b7 63 #[x0, x1, x2, x3]) (k8 : Blk w b8 23 #[x]) (l7 : w1.heap.size ≤ b7) (l8 : w1.heap.size ≤ b8) (hne : b7 ≠ b8) (hm : Bm w A C rl bk) (hf : Bka.Fb w1.heap.size A C rl) (hi : Ris w w.heap.size Ai ids) (hfi : ∀ a, Ai = some a → w1.heap.size ≤ a.block) (n7 : Nz b7 A C rl bk) (n8 : Nz b8 A C rl bk) (i7 : Fz b7 Ai (ints ids)) (i8 : Fz b8 Ai (ints ids)) :
    ∃ (x7 x8 : Nat) (y : Bx) (Ay : Option Addr) (cy : Nat), Value.pointer (some ⟨b7, 0, none⟩) = .pointer (some ⟨x7, 0, none⟩) ∧ Value.pointer (some ⟨b8, 0, none⟩) = .pointer (some ⟨x8, 0, none⟩) ∧ y.b = bk ∧ Hid (Below w1.heap.size w1 (stW w b7 b8 (.int .i64 bk.sh) (.int .i64 bk.ca) (.slice A bk.rows.length c) (.slice C bk.op.length d) (.slice Ai ids.length ci))) ∧
      Hid (B1 ρ (stW w b7 b8 (.int .i64 bk.sh) (.int .i64 bk.ca) (.slice A bk.rows.length c) (.slice C bk.op.length d) (.slice Ai ids.length ci)) x7 63 #[.int .i64 y.b.sh, .int .i64 y.b.ca, .slice y.A y.b.rows.length y.c, .slice y.C y.b.op.length y.d]) ∧ Hid (B1 ρ (stW w b7 b8 (.int .i64 bk.sh) (.int .i64 bk.ca) (.slice A bk.rows.length c) (.slice C bk.op.length d) (.slice Ai ids.length ci)) x8 23 #[.slice Ay ids.length cy]) ∧
      Hid (Bk0 ρ (stW w b7 b8 (.int .i64 bk.sh) (.int .i64 bk.ca) (.slice A bk.rows.length c) (.slice C bk.op.length d) (.slice Ai ids.length ci)) y) ∧ Hid (Ro0 ρ (stW w b7 b8 (.int .i64 bk.sh) (.int .i64 bk.ca) (.slice A bk.rows.length c) (.slice C bk.op.length d) (.slice Ai ids.length ci)) Ay (ints ids)) := by
  have j7 := blk_far (i := 0) (blk_set (blk_set (blk_set (blk_set k7 0 (.int .i64 bk.sh)) 1 (.int .i64 bk.ca)) 2 (.slice A bk.rows.length c)) 3 (.slice C bk.op.length d)) hne (.slice Ai ids.length ci)
  have j8 := blk_set (blk_far (i := 3) (blk_far (i := 2) (blk_far (i := 1) (blk_far (i := 0) k8 hne.symm (.int .i64 bk.sh)) hne.symm (.int .i64 bk.ca)) hne.symm (.slice A bk.rows.length c)) hne.symm (.slice C bk.op.length d)) 0 (.slice Ai ids.length ci)
  refine ⟨b7, b8, ⟨A, C, c, d, rl, bk⟩, Ai, ci, rfl, rfl, rfl, κ (((((hb.setCell (p := ⟨b7, 0, none⟩) l7 _).setCell (p := ⟨b7, 1, none⟩) l7 _).setCell (p := ⟨b7, 2, none⟩) l7 _).setCell (p := ⟨b7, 3, none⟩) l7 _).setCell (p := ⟨b8, 0, none⟩) l8 _), κ ⟨by simpa [stW] using j7, hz _ l7⟩, κ ⟨by simpa [stW] using j8, hz _ l8⟩, κ ?_, κ ⟨rd_st (rd_st (rd_st (rd_st (rd_st hi i7) i7) i7) i7) i8, .inr fun a ha => hz _ (hfi a ha)⟩⟩
  exact Bk0.fresh (x := ⟨A, C, c, d, rl, bk⟩) (bm_st (bm_st (bm_st (bm_st (bm_st hm n7) n7) n7) n7) n8) hz hf
theorem book_cells {w : World} {b : Nat} {x0 x1 x2 x3 : Value} (k : Blk w b 63 #[x0, x1, x2, x3]) : w.cell? ⟨b, 0, none⟩ = some x0 ∧ w.frozen? ⟨b, 0, none⟩ = false ∧ (∀ u, (w.setCell ⟨b, 0, none⟩ u).cell? ⟨b, 1, none⟩ = some x1) ∧ (∀ u, (w.setCell ⟨b, 0, none⟩ u).frozen? ⟨b, 1, none⟩ = false) ∧ (∀ u v, ((w.setCell ⟨b, 0, none⟩ u).setCell ⟨b, 1, none⟩ v).cell? ⟨b, 2, none⟩ = some x2) ∧ (∀ u v, ((w.setCell ⟨b, 0, none⟩ u).setCell ⟨b, 1, none⟩ v).frozen? ⟨b, 2, none⟩ = false) ∧ (∀ u v t, (((w.setCell ⟨b, 0, none⟩ u).setCell ⟨b, 1, none⟩ v).setCell ⟨b, 2, none⟩ t).cell? ⟨b, 3, none⟩ = some x3) ∧ (∀ u v t, (((w.setCell ⟨b, 0, none⟩ u).setCell ⟨b, 1, none⟩ v).setCell ⟨b, 2, none⟩ t).frozen? ⟨b, 3, none⟩ = false) :=
  ⟨k.cell 0, k.thaw 0, fun u => by simpa using (blk_set k 0 u).cell 1, fun u => (blk_set k 0 u).thaw 1, fun u v => by simpa using (blk_set (blk_set k 0 u) 1 v).cell 2, fun u v => (blk_set (blk_set k 0 u) 1 v).thaw 2, fun u v t => by simpa using (blk_set (blk_set (blk_set k 0 u) 1 v) 2 t).cell 3, fun u v t => (blk_set (blk_set (blk_set k 0 u) 1 v) 2 t).thaw 3⟩
theorem swI_len (ep : Int) (l : List En) : (Bkw.swI ep l).length ≤ l.length := by unfold Bkw.swI; rw [List.length_map]; exact List.length_filter_le _ _
theorem flat_len (l : List Int) : (l.flatMap (sendL 1)).length = l.length * 2 := by
  induction l with
  | nil => rfl
  | cons x l ih => rw [List.flatMap_cons, List.length_append, ih]; simp [sendL]; omega
theorem flat_take {l : List Int} {j : Nat} (h : j < l.length) : (l.take j).flatMap (sendL 1) ++ sendL 1 (gI l j) = (l.take (j + 1)).flatMap (sendL 1) := by
  rw [List.take_succ_eq_append_getElem h, List.flatMap_append]
  congr 1
  simp [gI, h]
theorem sweep1_any (base : Nat) (ρ : Nat → Nat) (q : Gq) (r : Aq) (g0 g sn b1 b2 b3 b4 b5 : Nat) (ep pl nep : Int) (off : Bool) (G : Gp) (a : Ap) (w : World) (HG : Hid (Gt base ρ w g0 q G)) (ha : Hid (Ac ρ w g0 g r a)) (hmax : a.todo.length ≤ 1000) (hsb : sn < G.bs.length) (hbl : G.bs.length ≤ 1000) (HFEW : Hid (FewB (gB G.bs sn)))
    (kg : B1 ρ w b1 36 #[pv g0]) (ks : B1 ρ w b2 3 #[.int .i64 (sn : Int)]) (ke : B1 ρ w b3 2 #[.int .i64 ep]) (ka : B1 ρ w b4 46 #[pv g]) (kp : B1 ρ w b5 3 #[.int .i64 pl]) :
    Calls Tryz.prog 170 #[.agg #[.int .i64 nep, .bool off], pv b1, pv b2, pv b3, pv b4, pv b5] w (MadeI base (fun c => c = 3 ∨ c = g + 8) ρ g0 g r.gp w (.tuple #[]) { G with bs := G.bs.set sn (Bkw.sweepF (gB G.bs sn) ep) } (thenA a ((Bkw.swI ep (gB G.bs sn).op).flatMap (sendL 1) ++ [.aft (.free (shL (sn : Int))) (.swp1 (sn : Int) ep pl ((Bkw.swI ep (gB G.bs sn).op).length : Int))]))) := by
  have hmf := Gmk.make_f
  have Kg : Hid (B1 ρ w b1 36 #[pv g0]) := κ kg
  have Ks : Hid (B1 ρ w b2 3 #[.int .i64 (sn : Int)]) := κ ks
  have Ke : Hid (B1 ρ w b3 2 #[.int .i64 ep]) := κ ke
  have Ka : Hid (B1 ρ w b4 46 #[pv g]) := κ ka
  have Kp : Hid (B1 ρ w b5 3 #[.int .i64 pl]) := κ kp
  clear kg ks ke ka kp
  obtain ⟨gb, y0, HB0, hxb⟩ := book_at HG.out hsb
  have HB0 := κ HB0
  have HXB := κ hxb
  rw [← hxb] at HFEW
  have SW := fun (W : World) (hm : Bm W y0.A y0.C y0.rl y0.b) => Bkw.sweep_any y0.b.sh y0.b.ca y0.A y0.C y0.b.rows.length y0.b.op.length y0.c y0.d y0.rl y0.b ep W (κ ⟨rfl, rfl⟩) (κ rfl) (κ rfl) (κ hm) HFEW
  have SW := κ SW
  clear hxb
  obtain ⟨nb, hnb⟩ : ∃ n, n = G.bs.length := ⟨_, rfl⟩
  have HNB := κ hnb
  have hsb' : sn < nb := by rw [hnb]; exact hsb
  have hnb' : nb ≤ 1000 := by rw [hnb]; exact hbl
  clear hnb
  go_enter Tryz.func170, Tryz.ntmps170
  have z101 := HG.out.new
  have z102 := new_alloc (o := .cells #[.int .i64 nep, .bool off] 178) z101
  have b103 : Below w.heap.size w ((w).alloc (.cells #[.int .i64 nep, .bool off] 178)) := (β (w) (.cells #[.int .i64 nep, .bool off] 178))
  have K104 : Hid (B1 ρ ((w).alloc (.cells #[.int .i64 nep, .bool off] 178)) (w.heap.size) 178 #[.int .i64 nep, .bool off]) := κ (B1.mk (b := w.heap.size) (te := 178) (cs := #[.int .i64 nep, .bool off]) z101 (by simp))
  have H105 := κ (Gt.ext HG.out b103)
  have H106 := κ (Ac.ext ha.out b103)
  have H107 := κ (B1.ext Kg.out b103)
  have H108 := κ (B1.ext Ks.out b103)
  have H109 := κ (B1.ext Ke.out b103)
  have H110 := κ (B1.ext Ka.out b103)
  have H111 := κ (B1.ext Kp.out b103)
  have H112 := κ (Bat.ext HB0.out b103)
  go_upto_region 1 with fail
  obtain ⟨g113, e114⟩ : ∃ x, x = w.heap.size := ⟨_, rfl⟩
  simp only [← e114] at K104 ⊢
  clear e114
  have F115 : Hid (Fs (· = g + 8) ρ w ρ ((w).alloc (.cells #[.int .i64 nep, .bool off] 178))) := κ (Fs.quiet b103)
  have FW : Hid (Fs (fun c => c = 3 ∨ c = g + 8) ρ w ρ ((w).alloc (.cells #[.int .i64 nep, .bool off] 178))) := κ (Fs.quiet b103)
  generalize (w).alloc (.cells #[.int .i64 nep, .bool off] 178) = w1 at H105 H106 H107 H108 H109 H110 H111 K104 H112 FW ⊢
  go_cut [7, 8] (fun s7 s8 wx => ∃ (x7 x8 : Nat) (y : Bx) (Ay : Option Addr) (cy : Nat), s7 = .pointer (some ⟨x7, 0, none⟩) ∧ s8 = .pointer (some ⟨x8, 0, none⟩) ∧ y.b = Bkw.sweepF y0.b ep ∧ Hid (Below w1.heap.size w1 wx) ∧ Hid (B1 ρ wx x7 63 #[.int .i64 y.b.sh, .int .i64 y.b.ca, .slice y.A y.b.rows.length y.c, .slice y.C y.b.op.length y.d]) ∧ Hid (B1 ρ wx x8 23 #[.slice Ay (Bkw.swI ep y0.b.op).length cy]) ∧ Hid (Bk0 ρ wx y) ∧ Hid (Ro0 ρ wx Ay (ints (Bkw.swI ep y0.b.op))))
  case first =>
    have hb9 : Below w1.heap.size w1 w1.drew := (Below.refl _ _).drew
    have NW := H105.out.new
    have H116 := κ (Gt.ext H105.out hb9)
    have H117 := κ (Ac.ext H106.out hb9)
    have H118 := κ (B1.ext H107.out hb9)
    have H119 := κ (B1.ext H108.out hb9)
    have H120 := κ (B1.ext H109.out hb9)
    have H121 := κ (B1.ext H110.out hb9)
    have H122 := κ (B1.ext H111.out hb9)
    have H123 := κ (Bat.ext H112.out hb9)
    have BB0 := κ hb9
    let T124 : World → Prop := fun w' => w'.cell? ⟨b1, 0, none⟩ = some (.pointer (some ⟨g0, 0, none⟩)) ∧ w'.cell? ⟨g0, 8, none⟩ = some (.slice (some ⟨gb, 0, none⟩) nb q.cb) ∧ w'.cell? ⟨b2, 0, none⟩ = some (.int .i64 (sn : Int)) ∧ w'.cell? ⟨b3, 0, none⟩ = some (.int .i64 ep) ∧ w'.cell? ⟨gb, sn * 4, none⟩ = some (.int .i64 y0.b.sh) ∧ w'.cell? ⟨gb, sn * 4 + 1, none⟩ = some (.int .i64 y0.b.ca) ∧ w'.cell? ⟨gb, sn * 4 + 2, none⟩ = some (.slice y0.A y0.b.rows.length y0.c) ∧ w'.cell? ⟨gb, sn * 4 + 3, none⟩ = some (.slice y0.C y0.b.op.length y0.d)
    have P125 : Hid (T124 w1.drew) := κ ⟨(H118.out.1.cell 0), (by rw [HNB.out, ← H123.out.A]; exact (Gt.c8 H116.out :)), (H119.out.1.cell 0), (H120.out.1.cell 0), H123.out.c0, H123.out.c1, H123.out.c2, H123.out.c3⟩
    refine Ω T124 [14, 15] ?_
    generalize w1.drew = wd at H116 H117 H118 H119 H120 H121 H122 H123 BB0 P125 ⊢
    refine jB 0 P125.out ?_
    refine jA 1 P125.out ?_
    refine jA 2 P125.out ?_
    refine jB 3 P125.out ?_
    refine jB 4 P125.out ?_
    refine jA 5 P125.out ?_
    refine jB 6 P125.out ?_
    refine jB 7 P125.out ?_
    refine wpL_three (m := 8) (n := 12) (l := 13) (by kernel_rfl) rfl rfl rfl ?_ ?_ ?_
    · intro K' hK
      go_simp
      refine (SW.out wd H123.out.k.1).mono ?_
      rintro e w8 ⟨A8, C8, c8, d8, rl8, Ai, ci, rfl, hm8, hf8, hi8, hg8, hb8⟩
      have FF : Hid (Bka.Fb w1.heap.size A8 C8 rl8) := κ (fb_mono hf8 BB0.out.size)
      have GG : Hid (∀ a, Ai = some a → w1.heap.size ≤ a.block) := κ (fun a ha => Nat.le_trans BB0.out.size (hg8 a ha))
      have H126 := κ (Gt.ext H116.out hb8)
      have H127 := κ (Ac.ext H117.out hb8)
      have H128 := κ (B1.ext H118.out hb8)
      have H129 := κ (B1.ext H119.out hb8)
      have H130 := κ (B1.ext H120.out hb8)
      have H131 := κ (B1.ext H121.out hb8)
      have H132 := κ (B1.ext H122.out hb8)
      have H133 := κ (Bat.ext H123.out hb8)
      have B134 := κ (Cel.below_step BB0.out hb8)
      have M8 := κ hm8
      have I8 := κ hi8
      unfold bkA
      clear hm8 hi8 hf8 hg8 hb8
      have P135 : Hid (T124 w8) := κ ⟨(H128.out.1.cell 0), (by rw [HNB.out, ← H133.out.A]; exact (Gt.c8 H126.out :)), (H129.out.1.cell 0), (H130.out.1.cell 0), H133.out.c0, H133.out.c1, H133.out.c2, H133.out.c3⟩
      refine hK.out _ _ P135.out ?_
      clear hK K'
      refine jP ?_
      refine jA 9 P135.out ?_
      refine jA 10 P135.out ?_
      refine jA 11 P135.out ?_
      refine wpL_two (m := 12) (n := 13) (by kernel_rfl) rfl rfl ?_ ?_
      · intro K' hK
        go_simp
        have b137 := β (w8) (.cells #[.int .i64 0, .int .i64 0, .slice none 0 0, .slice none 0 0] 63)
        have K138 := κ (Blk.fresh (w8) 63 #[.int .i64 0, .int .i64 0, .slice none 0 0, .slice none 0 0])
        have H141 := κ (Gt.ext H126.out b137)
        have H142 := κ (Ac.ext H127.out b137)
        have H143 := κ (B1.ext H128.out b137)
        have H144 := κ (B1.ext H129.out b137)
        have H145 := κ (B1.ext H130.out b137)
        have H146 := κ (B1.ext H131.out b137)
        have H147 := κ (B1.ext H132.out b137)
        have H148 := κ (Bat.ext H133.out b137)
        have B149 := κ (Cel.below_step B134.out b137)
        have nzb : Hid (Nz (w8).heap.size A8 C8 rl8 (Bkw.sweepF y0.b ep)) := κ (nz_old M8.out (Nat.le_refl _))
        have fzb : Hid (Fz (w8).heap.size Ai (ints (Bkw.swI ep y0.b.op))) := κ (fz_old I8.out (Nat.le_refl _))
        have M150 := κ (Bm.below M8.out b137)
        have M151 := κ (Rd.below' I8.out b137 (b137).size)
        have lob : Hid (w1.heap.size ≤ (w8).heap.size) := κ B134.out.size
        have geb : Hid ((w8).heap.size < ((w8).alloc (.cells #[.int .i64 0, .int .i64 0, .slice none 0 0, .slice none 0 0] 63)).heap.size) := κ (by simp)
        obtain ⟨g139, e140⟩ : ∃ x, x = (w8).heap.size := ⟨_, rfl⟩
        simp only [← e140] at K138 lob geb  nzb fzb ⊢
        clear e140
        have glb : Hid (g139 < ((w8).alloc (.cells #[.int .i64 0, .int .i64 0, .slice none 0 0, .slice none 0 0] 63)).heap.size) := κ geb.out
        generalize (w8).alloc (.cells #[.int .i64 0, .int .i64 0, .slice none 0 0, .slice none 0 0] 63) = w136 at H141 H142 H143 H144 H145 H146 H147 H148 B149 K138 glb geb   M150 M151 ⊢
        have P152 : Hid (T124 w136) := κ ⟨(H143.out.1.cell 0), (by rw [HNB.out, ← H148.out.A]; exact (Gt.c8 H141.out :)), (H144.out.1.cell 0), (H145.out.1.cell 0), H148.out.c0, H148.out.c1, H148.out.c2, H148.out.c3⟩
        refine hK.out _ _ P152.out ?_
        clear hK K'
        refine jP ?_
        refine jN 13 fun K' hK => ?_
        go_simp
        have b154 := β (w136) (.cells #[.slice none 0 0] 23)
        have K155 := κ (Blk.fresh (w136) 23 #[.slice none 0 0])
        have K158 := κ (Blk.below' K138.out b154)
        have H159 := κ (Gt.ext H141.out b154)
        have H160 := κ (Ac.ext H142.out b154)
        have H161 := κ (B1.ext H143.out b154)
        have H162 := κ (B1.ext H144.out b154)
        have H163 := κ (B1.ext H145.out b154)
        have H164 := κ (B1.ext H146.out b154)
        have H165 := κ (B1.ext H147.out b154)
        have H166 := κ (Bat.ext H148.out b154)
        have B167 := κ (Cel.below_step B149.out b154)
        have nzi : Hid (Nz (w136).heap.size A8 C8 rl8 (Bkw.sweepF y0.b ep)) := κ (nz_old M150.out (Nat.le_refl _))
        have fzi : Hid (Fz (w136).heap.size Ai (ints (Bkw.swI ep y0.b.op))) := κ (fz_old M151.out (Nat.le_refl _))
        have M168 := κ (Bm.below M150.out b154)
        have M169 := κ (Rd.below' M151.out b154 (b154).size)
        have loi : Hid (w1.heap.size ≤ (w136).heap.size) := κ B149.out.size
        have gei : Hid ((w136).heap.size < ((w136).alloc (.cells #[.slice none 0 0] 23)).heap.size) := κ (by simp)
        have nebi : Hid (g139 ≠ (w136).heap.size) := κ (by have := glb.out; omega)
        obtain ⟨g156, e157⟩ : ∃ x, x = (w136).heap.size := ⟨_, rfl⟩
        simp only [← e157] at K155 loi gei nebi nzi fzi ⊢
        clear e157
        have glb : Hid (g139 < ((w136).alloc (.cells #[.slice none 0 0] 23)).heap.size) := κ K158.out.lt
        have gli : Hid (g156 < ((w136).alloc (.cells #[.slice none 0 0] 23)).heap.size) := κ gei.out
        generalize (w136).alloc (.cells #[.slice none 0 0] 23) = w153 at H159 H160 H161 H162 H163 H164 H165 H166 B167 K155 gli gei glb K158 M168 M169 ⊢
        have P170 : Hid (T124 w153) := κ ⟨(H161.out.1.cell 0), (by rw [HNB.out, ← H166.out.A]; exact (Gt.c8 H159.out :)), (H162.out.1.cell 0), (H163.out.1.cell 0), H166.out.c0, H166.out.c1, H166.out.c2, H166.out.c3⟩
        obtain ⟨y1, y2, y3, y4, y5, y6, y7, y8⟩ := book_cells K158.out
        have NE : Hid (g139 ≠ g156) := κ (nebi.out)
        have y9 : ∀ u0 u1 u2 u3, ((((w153.setCell ⟨g139, 0, none⟩ u0).setCell ⟨g139, 1, none⟩ u1).setCell ⟨g139, 2, none⟩ u2).setCell ⟨g139, 3, none⟩ u3).cell? ⟨g156, 0, none⟩ = some (.slice none 0 0) := fun u0 u1 u2 u3 => (blk_far (blk_far (blk_far (blk_far K155.out NE.out.symm u0) NE.out.symm u1) NE.out.symm u2) NE.out.symm u3).cell 0
        have y10 : ∀ u0 u1 u2 u3, ((((w153.setCell ⟨g139, 0, none⟩ u0).setCell ⟨g139, 1, none⟩ u1).setCell ⟨g139, 2, none⟩ u2).setCell ⟨g139, 3, none⟩ u3).frozen? ⟨g156, 0, none⟩ = false := fun u0 u1 u2 u3 => (blk_far (blk_far (blk_far (blk_far K155.out NE.out.symm u0) NE.out.symm u1) NE.out.symm u2) NE.out.symm u3).thaw 0
        refine hK.out _ _ P170.out ?_
        clear hK K'
        refine jP ?_
        refine jV 14 fun K' hK => ?_
        go_simp
        refine hK.out _ _ ?_
        clear hK K'
        refine jP ?_
        refine jV 15 fun K' hK => ?_
        go_simp
        refine hK.out _ _ ?_
        clear hK K'
        refine jP ?_
        refine Δ ?_
        go_wp2_with fail
        go_meet
        exact cutW NW B167.out K158.out K155.out lob.out loi.out NE.out M168.out FF.out M169.out GG.out nzb.out nzi.out fzb.out fzi.out
      · intro K' hK
        go_simp
        have b172 := β (w8) (.cells #[.slice none 0 0] 23)
        have K173 := κ (Blk.fresh (w8) 23 #[.slice none 0 0])
        have H176 := κ (Gt.ext H126.out b172)
        have H177 := κ (Ac.ext H127.out b172)
        have H178 := κ (B1.ext H128.out b172)
        have H179 := κ (B1.ext H129.out b172)
        have H180 := κ (B1.ext H130.out b172)
        have H181 := κ (B1.ext H131.out b172)
        have H182 := κ (B1.ext H132.out b172)
        have H183 := κ (Bat.ext H133.out b172)
        have B184 := κ (Cel.below_step B134.out b172)
        have nzi : Hid (Nz (w8).heap.size A8 C8 rl8 (Bkw.sweepF y0.b ep)) := κ (nz_old M8.out (Nat.le_refl _))
        have fzi : Hid (Fz (w8).heap.size Ai (ints (Bkw.swI ep y0.b.op))) := κ (fz_old I8.out (Nat.le_refl _))
        have M185 := κ (Bm.below M8.out b172)
        have M186 := κ (Rd.below' I8.out b172 (b172).size)
        have loi : Hid (w1.heap.size ≤ (w8).heap.size) := κ B134.out.size
        have gei : Hid ((w8).heap.size < ((w8).alloc (.cells #[.slice none 0 0] 23)).heap.size) := κ (by simp)
        obtain ⟨g174, e175⟩ : ∃ x, x = (w8).heap.size := ⟨_, rfl⟩
        simp only [← e175] at K173 loi gei  nzi fzi ⊢
        clear e175
        have gli : Hid (g174 < ((w8).alloc (.cells #[.slice none 0 0] 23)).heap.size) := κ gei.out
        generalize (w8).alloc (.cells #[.slice none 0 0] 23) = w171 at H176 H177 H178 H179 H180 H181 H182 H183 B184 K173 gli gei   M185 M186 ⊢
        have P187 : Hid (T124 w171) := κ ⟨(H178.out.1.cell 0), (by rw [HNB.out, ← H183.out.A]; exact (Gt.c8 H176.out :)), (H179.out.1.cell 0), (H180.out.1.cell 0), H183.out.c0, H183.out.c1, H183.out.c2, H183.out.c3⟩
        refine hK.out _ _ P187.out ?_
        clear hK K'
        refine jP ?_
        refine jN 12 fun K' hK => ?_
        go_simp
        have b189 := β (w171) (.cells #[.int .i64 0, .int .i64 0, .slice none 0 0, .slice none 0 0] 63)
        have K190 := κ (Blk.fresh (w171) 63 #[.int .i64 0, .int .i64 0, .slice none 0 0, .slice none 0 0])
        have K193 := κ (Blk.below' K173.out b189)
        have H194 := κ (Gt.ext H176.out b189)
        have H195 := κ (Ac.ext H177.out b189)
        have H196 := κ (B1.ext H178.out b189)
        have H197 := κ (B1.ext H179.out b189)
        have H198 := κ (B1.ext H180.out b189)
        have H199 := κ (B1.ext H181.out b189)
        have H200 := κ (B1.ext H182.out b189)
        have H201 := κ (Bat.ext H183.out b189)
        have B202 := κ (Cel.below_step B184.out b189)
        have nzb : Hid (Nz (w171).heap.size A8 C8 rl8 (Bkw.sweepF y0.b ep)) := κ (nz_old M185.out (Nat.le_refl _))
        have fzb : Hid (Fz (w171).heap.size Ai (ints (Bkw.swI ep y0.b.op))) := κ (fz_old M186.out (Nat.le_refl _))
        have M203 := κ (Bm.below M185.out b189)
        have M204 := κ (Rd.below' M186.out b189 (b189).size)
        have lob : Hid (w1.heap.size ≤ (w171).heap.size) := κ B184.out.size
        have geb : Hid ((w171).heap.size < ((w171).alloc (.cells #[.int .i64 0, .int .i64 0, .slice none 0 0, .slice none 0 0] 63)).heap.size) := κ (by simp)
        have neib : Hid (g174 ≠ (w171).heap.size) := κ (by have := gli.out; omega)
        obtain ⟨g191, e192⟩ : ∃ x, x = (w171).heap.size := ⟨_, rfl⟩
        simp only [← e192] at K190 lob geb neib nzb fzb ⊢
        clear e192
        have gli : Hid (g174 < ((w171).alloc (.cells #[.int .i64 0, .int .i64 0, .slice none 0 0, .slice none 0 0] 63)).heap.size) := κ K193.out.lt
        have glb : Hid (g191 < ((w171).alloc (.cells #[.int .i64 0, .int .i64 0, .slice none 0 0, .slice none 0 0] 63)).heap.size) := κ geb.out
        generalize (w171).alloc (.cells #[.int .i64 0, .int .i64 0, .slice none 0 0, .slice none 0 0] 63) = w188 at H194 H195 H196 H197 H198 H199 H200 H201 B202 K190 glb geb gli K193 M203 M204 ⊢
        have P205 : Hid (T124 w188) := κ ⟨(H196.out.1.cell 0), (by rw [HNB.out, ← H201.out.A]; exact (Gt.c8 H194.out :)), (H197.out.1.cell 0), (H198.out.1.cell 0), H201.out.c0, H201.out.c1, H201.out.c2, H201.out.c3⟩
        obtain ⟨y1, y2, y3, y4, y5, y6, y7, y8⟩ := book_cells K190.out
        have NE : Hid (g191 ≠ g174) := κ (Ne.symm neib.out)
        have y9 : ∀ u0 u1 u2 u3, ((((w188.setCell ⟨g191, 0, none⟩ u0).setCell ⟨g191, 1, none⟩ u1).setCell ⟨g191, 2, none⟩ u2).setCell ⟨g191, 3, none⟩ u3).cell? ⟨g174, 0, none⟩ = some (.slice none 0 0) := fun u0 u1 u2 u3 => (blk_far (blk_far (blk_far (blk_far K193.out NE.out.symm u0) NE.out.symm u1) NE.out.symm u2) NE.out.symm u3).cell 0
        have y10 : ∀ u0 u1 u2 u3, ((((w188.setCell ⟨g191, 0, none⟩ u0).setCell ⟨g191, 1, none⟩ u1).setCell ⟨g191, 2, none⟩ u2).setCell ⟨g191, 3, none⟩ u3).frozen? ⟨g174, 0, none⟩ = false := fun u0 u1 u2 u3 => (blk_far (blk_far (blk_far (blk_far K193.out NE.out.symm u0) NE.out.symm u1) NE.out.symm u2) NE.out.symm u3).thaw 0
        refine hK.out _ _ P205.out ?_
        clear hK K'
        refine jP ?_
        refine jV 14 fun K' hK => ?_
        go_simp
        refine hK.out _ _ ?_
        clear hK K'
        refine jP ?_
        refine jV 15 fun K' hK => ?_
        go_simp
        refine hK.out _ _ ?_
        clear hK K'
        refine jP ?_
        refine Δ ?_
        go_wp2_with fail
        go_meet
        exact cutW NW B202.out K190.out K193.out lob.out loi.out NE.out M203.out FF.out M204.out GG.out nzb.out nzi.out fzb.out fzi.out
    · intro K' hK
      go_simp
      have b207 := β (wd) (.cells #[.int .i64 0, .int .i64 0, .slice none 0 0, .slice none 0 0] 63)
      have K208 := κ (Blk.fresh (wd) 63 #[.int .i64 0, .int .i64 0, .slice none 0 0, .slice none 0 0])
      have H211 := κ (Gt.ext H116.out b207)
      have H212 := κ (Ac.ext H117.out b207)
      have H213 := κ (B1.ext H118.out b207)
      have H214 := κ (B1.ext H119.out b207)
      have H215 := κ (B1.ext H120.out b207)
      have H216 := κ (B1.ext H121.out b207)
      have H217 := κ (B1.ext H122.out b207)
      have H218 := κ (Bat.ext H123.out b207)
      have B219 := κ (Cel.below_step BB0.out b207)
      have lob : Hid (w1.heap.size ≤ (wd).heap.size) := κ BB0.out.size
      have geb : Hid ((wd).heap.size < ((wd).alloc (.cells #[.int .i64 0, .int .i64 0, .slice none 0 0, .slice none 0 0] 63)).heap.size) := κ (by simp)
      obtain ⟨g209, e210⟩ : ∃ x, x = (wd).heap.size := ⟨_, rfl⟩
      simp only [← e210] at K208 lob geb   ⊢
      clear e210
      have glb : Hid (g209 < ((wd).alloc (.cells #[.int .i64 0, .int .i64 0, .slice none 0 0, .slice none 0 0] 63)).heap.size) := κ geb.out
      generalize (wd).alloc (.cells #[.int .i64 0, .int .i64 0, .slice none 0 0, .slice none 0 0] 63) = w206 at H211 H212 H213 H214 H215 H216 H217 H218 B219 K208 glb geb    ⊢
      have P220 : Hid (T124 w206) := κ ⟨(H213.out.1.cell 0), (by rw [HNB.out, ← H218.out.A]; exact (Gt.c8 H211.out :)), (H214.out.1.cell 0), (H215.out.1.cell 0), H218.out.c0, H218.out.c1, H218.out.c2, H218.out.c3⟩
      refine hK.out _ _ P220.out ?_
      clear hK K'
      refine jP ?_
      refine wpL_two (m := 8) (n := 13) (by kernel_rfl) rfl rfl ?_ ?_
      · intro K' hK
        go_simp
        refine (SW.out w206 H218.out.k.1).mono ?_
        rintro e w8 ⟨A8, C8, c8, d8, rl8, Ai, ci, rfl, hm8, hf8, hi8, hg8, hb8⟩
        have K221 := κ (Blk.below' K208.out hb8)
        have nzb : Hid (Nz g209 A8 C8 rl8 (Bkw.sweepF y0.b ep)) := κ (nz_new hf8 glb.out)
        have fzb : Hid (Fz g209 Ai (ints (Bkw.swI ep y0.b.op))) := κ (fz_new hg8 glb.out)
        have glb : Hid (g209 < w8.heap.size) := κ K221.out.lt
        have FF : Hid (Bka.Fb w1.heap.size A8 C8 rl8) := κ (fb_mono hf8 B219.out.size)
        have GG : Hid (∀ a, Ai = some a → w1.heap.size ≤ a.block) := κ (fun a ha => Nat.le_trans B219.out.size (hg8 a ha))
        have H222 := κ (Gt.ext H211.out hb8)
        have H223 := κ (Ac.ext H212.out hb8)
        have H224 := κ (B1.ext H213.out hb8)
        have H225 := κ (B1.ext H214.out hb8)
        have H226 := κ (B1.ext H215.out hb8)
        have H227 := κ (B1.ext H216.out hb8)
        have H228 := κ (B1.ext H217.out hb8)
        have H229 := κ (Bat.ext H218.out hb8)
        have B230 := κ (Cel.below_step B219.out hb8)
        have M8 := κ hm8
        have I8 := κ hi8
        unfold bkA
        clear hm8 hi8 hf8 hg8 hb8
        have P231 : Hid (T124 w8) := κ ⟨(H224.out.1.cell 0), (by rw [HNB.out, ← H229.out.A]; exact (Gt.c8 H222.out :)), (H225.out.1.cell 0), (H226.out.1.cell 0), H229.out.c0, H229.out.c1, H229.out.c2, H229.out.c3⟩
        refine hK.out _ _ P231.out ?_
        clear hK K'
        refine jP ?_
        refine jA 9 P231.out ?_
        refine jA 10 P231.out ?_
        refine jA 11 P231.out ?_
        refine jN 13 fun K' hK => ?_
        go_simp
        have b233 := β (w8) (.cells #[.slice none 0 0] 23)
        have K234 := κ (Blk.fresh (w8) 23 #[.slice none 0 0])
        have K237 := κ (Blk.below' K221.out b233)
        have H238 := κ (Gt.ext H222.out b233)
        have H239 := κ (Ac.ext H223.out b233)
        have H240 := κ (B1.ext H224.out b233)
        have H241 := κ (B1.ext H225.out b233)
        have H242 := κ (B1.ext H226.out b233)
        have H243 := κ (B1.ext H227.out b233)
        have H244 := κ (B1.ext H228.out b233)
        have H245 := κ (Bat.ext H229.out b233)
        have B246 := κ (Cel.below_step B230.out b233)
        have nzi : Hid (Nz (w8).heap.size A8 C8 rl8 (Bkw.sweepF y0.b ep)) := κ (nz_old M8.out (Nat.le_refl _))
        have fzi : Hid (Fz (w8).heap.size Ai (ints (Bkw.swI ep y0.b.op))) := κ (fz_old I8.out (Nat.le_refl _))
        have M247 := κ (Bm.below M8.out b233)
        have M248 := κ (Rd.below' I8.out b233 (b233).size)
        have loi : Hid (w1.heap.size ≤ (w8).heap.size) := κ B230.out.size
        have gei : Hid ((w8).heap.size < ((w8).alloc (.cells #[.slice none 0 0] 23)).heap.size) := κ (by simp)
        have nebi : Hid (g209 ≠ (w8).heap.size) := κ (by have := glb.out; omega)
        obtain ⟨g235, e236⟩ : ∃ x, x = (w8).heap.size := ⟨_, rfl⟩
        simp only [← e236] at K234 loi gei nebi nzi fzi ⊢
        clear e236
        have glb : Hid (g209 < ((w8).alloc (.cells #[.slice none 0 0] 23)).heap.size) := κ K237.out.lt
        have gli : Hid (g235 < ((w8).alloc (.cells #[.slice none 0 0] 23)).heap.size) := κ gei.out
        generalize (w8).alloc (.cells #[.slice none 0 0] 23) = w232 at H238 H239 H240 H241 H242 H243 H244 H245 B246 K234 gli gei glb K237 M247 M248 ⊢
        have P249 : Hid (T124 w232) := κ ⟨(H240.out.1.cell 0), (by rw [HNB.out, ← H245.out.A]; exact (Gt.c8 H238.out :)), (H241.out.1.cell 0), (H242.out.1.cell 0), H245.out.c0, H245.out.c1, H245.out.c2, H245.out.c3⟩
        obtain ⟨y1, y2, y3, y4, y5, y6, y7, y8⟩ := book_cells K237.out
        have NE : Hid (g209 ≠ g235) := κ (nebi.out)
        have y9 : ∀ u0 u1 u2 u3, ((((w232.setCell ⟨g209, 0, none⟩ u0).setCell ⟨g209, 1, none⟩ u1).setCell ⟨g209, 2, none⟩ u2).setCell ⟨g209, 3, none⟩ u3).cell? ⟨g235, 0, none⟩ = some (.slice none 0 0) := fun u0 u1 u2 u3 => (blk_far (blk_far (blk_far (blk_far K234.out NE.out.symm u0) NE.out.symm u1) NE.out.symm u2) NE.out.symm u3).cell 0
        have y10 : ∀ u0 u1 u2 u3, ((((w232.setCell ⟨g209, 0, none⟩ u0).setCell ⟨g209, 1, none⟩ u1).setCell ⟨g209, 2, none⟩ u2).setCell ⟨g209, 3, none⟩ u3).frozen? ⟨g235, 0, none⟩ = false := fun u0 u1 u2 u3 => (blk_far (blk_far (blk_far (blk_far K234.out NE.out.symm u0) NE.out.symm u1) NE.out.symm u2) NE.out.symm u3).thaw 0
        refine hK.out _ _ P249.out ?_
        clear hK K'
        refine jP ?_
        refine jV 14 fun K' hK => ?_
        go_simp
        refine hK.out _ _ ?_
        clear hK K'
        refine jP ?_
        refine jV 15 fun K' hK => ?_
        go_simp
        refine hK.out _ _ ?_
        clear hK K'
        refine jP ?_
        refine Δ ?_
        go_wp2_with fail
        go_meet
        exact cutW NW B246.out K237.out K234.out lob.out loi.out NE.out M247.out FF.out M248.out GG.out nzb.out nzi.out fzb.out fzi.out
      · intro K' hK
        go_simp
        have b251 := β (w206) (.cells #[.slice none 0 0] 23)
        have K252 := κ (Blk.fresh (w206) 23 #[.slice none 0 0])
        have K255 := κ (Blk.below' K208.out b251)
        have H256 := κ (Gt.ext H211.out b251)
        have H257 := κ (Ac.ext H212.out b251)
        have H258 := κ (B1.ext H213.out b251)
        have H259 := κ (B1.ext H214.out b251)
        have H260 := κ (B1.ext H215.out b251)
        have H261 := κ (B1.ext H216.out b251)
        have H262 := κ (B1.ext H217.out b251)
        have H263 := κ (Bat.ext H218.out b251)
        have B264 := κ (Cel.below_step B219.out b251)
        have loi : Hid (w1.heap.size ≤ (w206).heap.size) := κ B219.out.size
        have gei : Hid ((w206).heap.size < ((w206).alloc (.cells #[.slice none 0 0] 23)).heap.size) := κ (by simp)
        have nebi : Hid (g209 ≠ (w206).heap.size) := κ (by have := glb.out; omega)
        obtain ⟨g253, e254⟩ : ∃ x, x = (w206).heap.size := ⟨_, rfl⟩
        simp only [← e254] at K252 loi gei nebi  ⊢
        clear e254
        have glb : Hid (g209 < ((w206).alloc (.cells #[.slice none 0 0] 23)).heap.size) := κ K255.out.lt
        have gli : Hid (g253 < ((w206).alloc (.cells #[.slice none 0 0] 23)).heap.size) := κ gei.out
        generalize (w206).alloc (.cells #[.slice none 0 0] 23) = w250 at H256 H257 H258 H259 H260 H261 H262 H263 B264 K252 gli gei glb K255  ⊢
        have P265 : Hid (T124 w250) := κ ⟨(H258.out.1.cell 0), (by rw [HNB.out, ← H263.out.A]; exact (Gt.c8 H256.out :)), (H259.out.1.cell 0), (H260.out.1.cell 0), H263.out.c0, H263.out.c1, H263.out.c2, H263.out.c3⟩
        refine hK.out _ _ P265.out ?_
        clear hK K'
        refine jP ?_
        refine jN 8 fun K' hK => ?_
        go_simp
        refine (SW.out w250 H263.out.k.1).mono ?_
        rintro e w8 ⟨A8, C8, c8, d8, rl8, Ai, ci, rfl, hm8, hf8, hi8, hg8, hb8⟩
        have K266 := κ (Blk.below' K255.out hb8)
        have nzb : Hid (Nz g209 A8 C8 rl8 (Bkw.sweepF y0.b ep)) := κ (nz_new hf8 glb.out)
        have fzb : Hid (Fz g209 Ai (ints (Bkw.swI ep y0.b.op))) := κ (fz_new hg8 glb.out)
        have glb : Hid (g209 < w8.heap.size) := κ K266.out.lt
        have K267 := κ (Blk.below' K252.out hb8)
        have nzi : Hid (Nz g253 A8 C8 rl8 (Bkw.sweepF y0.b ep)) := κ (nz_new hf8 gli.out)
        have fzi : Hid (Fz g253 Ai (ints (Bkw.swI ep y0.b.op))) := κ (fz_new hg8 gli.out)
        have gli : Hid (g253 < w8.heap.size) := κ K267.out.lt
        have FF : Hid (Bka.Fb w1.heap.size A8 C8 rl8) := κ (fb_mono hf8 B264.out.size)
        have GG : Hid (∀ a, Ai = some a → w1.heap.size ≤ a.block) := κ (fun a ha => Nat.le_trans B264.out.size (hg8 a ha))
        have H268 := κ (Gt.ext H256.out hb8)
        have H269 := κ (Ac.ext H257.out hb8)
        have H270 := κ (B1.ext H258.out hb8)
        have H271 := κ (B1.ext H259.out hb8)
        have H272 := κ (B1.ext H260.out hb8)
        have H273 := κ (B1.ext H261.out hb8)
        have H274 := κ (B1.ext H262.out hb8)
        have H275 := κ (Bat.ext H263.out hb8)
        have B276 := κ (Cel.below_step B264.out hb8)
        have M8 := κ hm8
        have I8 := κ hi8
        unfold bkA
        clear hm8 hi8 hf8 hg8 hb8
        have P277 : Hid (T124 w8) := κ ⟨(H270.out.1.cell 0), (by rw [HNB.out, ← H275.out.A]; exact (Gt.c8 H268.out :)), (H271.out.1.cell 0), (H272.out.1.cell 0), H275.out.c0, H275.out.c1, H275.out.c2, H275.out.c3⟩
        obtain ⟨y1, y2, y3, y4, y5, y6, y7, y8⟩ := book_cells K266.out
        have NE : Hid (g209 ≠ g253) := κ (nebi.out)
        have y9 : ∀ u0 u1 u2 u3, ((((w8.setCell ⟨g209, 0, none⟩ u0).setCell ⟨g209, 1, none⟩ u1).setCell ⟨g209, 2, none⟩ u2).setCell ⟨g209, 3, none⟩ u3).cell? ⟨g253, 0, none⟩ = some (.slice none 0 0) := fun u0 u1 u2 u3 => (blk_far (blk_far (blk_far (blk_far K267.out NE.out.symm u0) NE.out.symm u1) NE.out.symm u2) NE.out.symm u3).cell 0
        have y10 : ∀ u0 u1 u2 u3, ((((w8.setCell ⟨g209, 0, none⟩ u0).setCell ⟨g209, 1, none⟩ u1).setCell ⟨g209, 2, none⟩ u2).setCell ⟨g209, 3, none⟩ u3).frozen? ⟨g253, 0, none⟩ = false := fun u0 u1 u2 u3 => (blk_far (blk_far (blk_far (blk_far K267.out NE.out.symm u0) NE.out.symm u1) NE.out.symm u2) NE.out.symm u3).thaw 0
        refine hK.out _ _ P277.out ?_
        clear hK K'
        refine jP ?_
        refine jA 9 P277.out ?_
        refine jA 10 P277.out ?_
        refine jA 11 P277.out ?_
        refine jV 14 fun K' hK => ?_
        go_simp
        refine hK.out _ _ ?_
        clear hK K'
        refine jP ?_
        refine jV 15 fun K' hK => ?_
        go_simp
        refine hK.out _ _ ?_
        clear hK K'
        refine jP ?_
        refine Δ ?_
        go_wp2_with fail
        go_meet
        exact cutW NW B276.out K266.out K267.out lob.out loi.out NE.out M8.out FF.out I8.out GG.out nzb.out nzi.out fzb.out fzi.out
    · intro K' hK
      go_simp
      have b279 := β (wd) (.cells #[.slice none 0 0] 23)
      have K280 := κ (Blk.fresh (wd) 23 #[.slice none 0 0])
      have H283 := κ (Gt.ext H116.out b279)
      have H284 := κ (Ac.ext H117.out b279)
      have H285 := κ (B1.ext H118.out b279)
      have H286 := κ (B1.ext H119.out b279)
      have H287 := κ (B1.ext H120.out b279)
      have H288 := κ (B1.ext H121.out b279)
      have H289 := κ (B1.ext H122.out b279)
      have H290 := κ (Bat.ext H123.out b279)
      have B291 := κ (Cel.below_step BB0.out b279)
      have loi : Hid (w1.heap.size ≤ (wd).heap.size) := κ BB0.out.size
      have gei : Hid ((wd).heap.size < ((wd).alloc (.cells #[.slice none 0 0] 23)).heap.size) := κ (by simp)
      obtain ⟨g281, e282⟩ : ∃ x, x = (wd).heap.size := ⟨_, rfl⟩
      simp only [← e282] at K280 loi gei   ⊢
      clear e282
      have gli : Hid (g281 < ((wd).alloc (.cells #[.slice none 0 0] 23)).heap.size) := κ gei.out
      generalize (wd).alloc (.cells #[.slice none 0 0] 23) = w278 at H283 H284 H285 H286 H287 H288 H289 H290 B291 K280 gli gei    ⊢
      have P292 : Hid (T124 w278) := κ ⟨(H285.out.1.cell 0), (by rw [HNB.out, ← H290.out.A]; exact (Gt.c8 H283.out :)), (H286.out.1.cell 0), (H287.out.1.cell 0), H290.out.c0, H290.out.c1, H290.out.c2, H290.out.c3⟩
      refine hK.out _ _ P292.out ?_
      clear hK K'
      refine jP ?_
      refine wpL_two (m := 8) (n := 12) (by kernel_rfl) rfl rfl ?_ ?_
      · intro K' hK
        go_simp
        refine (SW.out w278 H290.out.k.1).mono ?_
        rintro e w8 ⟨A8, C8, c8, d8, rl8, Ai, ci, rfl, hm8, hf8, hi8, hg8, hb8⟩
        have K293 := κ (Blk.below' K280.out hb8)
        have nzi : Hid (Nz g281 A8 C8 rl8 (Bkw.sweepF y0.b ep)) := κ (nz_new hf8 gli.out)
        have fzi : Hid (Fz g281 Ai (ints (Bkw.swI ep y0.b.op))) := κ (fz_new hg8 gli.out)
        have gli : Hid (g281 < w8.heap.size) := κ K293.out.lt
        have FF : Hid (Bka.Fb w1.heap.size A8 C8 rl8) := κ (fb_mono hf8 B291.out.size)
        have GG : Hid (∀ a, Ai = some a → w1.heap.size ≤ a.block) := κ (fun a ha => Nat.le_trans B291.out.size (hg8 a ha))
        have H294 := κ (Gt.ext H283.out hb8)
        have H295 := κ (Ac.ext H284.out hb8)
        have H296 := κ (B1.ext H285.out hb8)
        have H297 := κ (B1.ext H286.out hb8)
        have H298 := κ (B1.ext H287.out hb8)
        have H299 := κ (B1.ext H288.out hb8)
        have H300 := κ (B1.ext H289.out hb8)
        have H301 := κ (Bat.ext H290.out hb8)
        have B302 := κ (Cel.below_step B291.out hb8)
        have M8 := κ hm8
        have I8 := κ hi8
        unfold bkA
        clear hm8 hi8 hf8 hg8 hb8
        have P303 : Hid (T124 w8) := κ ⟨(H296.out.1.cell 0), (by rw [HNB.out, ← H301.out.A]; exact (Gt.c8 H294.out :)), (H297.out.1.cell 0), (H298.out.1.cell 0), H301.out.c0, H301.out.c1, H301.out.c2, H301.out.c3⟩
        refine hK.out _ _ P303.out ?_
        clear hK K'
        refine jP ?_
        refine jA 9 P303.out ?_
        refine jA 10 P303.out ?_
        refine jA 11 P303.out ?_
        refine jN 12 fun K' hK => ?_
        go_simp
        have b305 := β (w8) (.cells #[.int .i64 0, .int .i64 0, .slice none 0 0, .slice none 0 0] 63)
        have K306 := κ (Blk.fresh (w8) 63 #[.int .i64 0, .int .i64 0, .slice none 0 0, .slice none 0 0])
        have K309 := κ (Blk.below' K293.out b305)
        have H310 := κ (Gt.ext H294.out b305)
        have H311 := κ (Ac.ext H295.out b305)
        have H312 := κ (B1.ext H296.out b305)
        have H313 := κ (B1.ext H297.out b305)
        have H314 := κ (B1.ext H298.out b305)
        have H315 := κ (B1.ext H299.out b305)
        have H316 := κ (B1.ext H300.out b305)
        have H317 := κ (Bat.ext H301.out b305)
        have B318 := κ (Cel.below_step B302.out b305)
        have nzb : Hid (Nz (w8).heap.size A8 C8 rl8 (Bkw.sweepF y0.b ep)) := κ (nz_old M8.out (Nat.le_refl _))
        have fzb : Hid (Fz (w8).heap.size Ai (ints (Bkw.swI ep y0.b.op))) := κ (fz_old I8.out (Nat.le_refl _))
        have M319 := κ (Bm.below M8.out b305)
        have M320 := κ (Rd.below' I8.out b305 (b305).size)
        have lob : Hid (w1.heap.size ≤ (w8).heap.size) := κ B302.out.size
        have geb : Hid ((w8).heap.size < ((w8).alloc (.cells #[.int .i64 0, .int .i64 0, .slice none 0 0, .slice none 0 0] 63)).heap.size) := κ (by simp)
        have neib : Hid (g281 ≠ (w8).heap.size) := κ (by have := gli.out; omega)
        obtain ⟨g307, e308⟩ : ∃ x, x = (w8).heap.size := ⟨_, rfl⟩
        simp only [← e308] at K306 lob geb neib nzb fzb ⊢
        clear e308
        have gli : Hid (g281 < ((w8).alloc (.cells #[.int .i64 0, .int .i64 0, .slice none 0 0, .slice none 0 0] 63)).heap.size) := κ K309.out.lt
        have glb : Hid (g307 < ((w8).alloc (.cells #[.int .i64 0, .int .i64 0, .slice none 0 0, .slice none 0 0] 63)).heap.size) := κ geb.out
        generalize (w8).alloc (.cells #[.int .i64 0, .int .i64 0, .slice none 0 0, .slice none 0 0] 63) = w304 at H310 H311 H312 H313 H314 H315 H316 H317 B318 K306 glb geb gli K309 M319 M320 ⊢
        have P321 : Hid (T124 w304) := κ ⟨(H312.out.1.cell 0), (by rw [HNB.out, ← H317.out.A]; exact (Gt.c8 H310.out :)), (H313.out.1.cell 0), (H314.out.1.cell 0), H317.out.c0, H317.out.c1, H317.out.c2, H317.out.c3⟩
        obtain ⟨y1, y2, y3, y4, y5, y6, y7, y8⟩ := book_cells K306.out
        have NE : Hid (g307 ≠ g281) := κ (Ne.symm neib.out)
        have y9 : ∀ u0 u1 u2 u3, ((((w304.setCell ⟨g307, 0, none⟩ u0).setCell ⟨g307, 1, none⟩ u1).setCell ⟨g307, 2, none⟩ u2).setCell ⟨g307, 3, none⟩ u3).cell? ⟨g281, 0, none⟩ = some (.slice none 0 0) := fun u0 u1 u2 u3 => (blk_far (blk_far (blk_far (blk_far K309.out NE.out.symm u0) NE.out.symm u1) NE.out.symm u2) NE.out.symm u3).cell 0
        have y10 : ∀ u0 u1 u2 u3, ((((w304.setCell ⟨g307, 0, none⟩ u0).setCell ⟨g307, 1, none⟩ u1).setCell ⟨g307, 2, none⟩ u2).setCell ⟨g307, 3, none⟩ u3).frozen? ⟨g281, 0, none⟩ = false := fun u0 u1 u2 u3 => (blk_far (blk_far (blk_far (blk_far K309.out NE.out.symm u0) NE.out.symm u1) NE.out.symm u2) NE.out.symm u3).thaw 0
        refine hK.out _ _ P321.out ?_
        clear hK K'
        refine jP ?_
        refine jV 14 fun K' hK => ?_
        go_simp
        refine hK.out _ _ ?_
        clear hK K'
        refine jP ?_
        refine jV 15 fun K' hK => ?_
        go_simp
        refine hK.out _ _ ?_
        clear hK K'
        refine jP ?_
        refine Δ ?_
        go_wp2_with fail
        go_meet
        exact cutW NW B318.out K306.out K309.out lob.out loi.out NE.out M319.out FF.out M320.out GG.out nzb.out nzi.out fzb.out fzi.out
      · intro K' hK
        go_simp
        have b323 := β (w278) (.cells #[.int .i64 0, .int .i64 0, .slice none 0 0, .slice none 0 0] 63)
        have K324 := κ (Blk.fresh (w278) 63 #[.int .i64 0, .int .i64 0, .slice none 0 0, .slice none 0 0])
        have K327 := κ (Blk.below' K280.out b323)
        have H328 := κ (Gt.ext H283.out b323)
        have H329 := κ (Ac.ext H284.out b323)
        have H330 := κ (B1.ext H285.out b323)
        have H331 := κ (B1.ext H286.out b323)
        have H332 := κ (B1.ext H287.out b323)
        have H333 := κ (B1.ext H288.out b323)
        have H334 := κ (B1.ext H289.out b323)
        have H335 := κ (Bat.ext H290.out b323)
        have B336 := κ (Cel.below_step B291.out b323)
        have lob : Hid (w1.heap.size ≤ (w278).heap.size) := κ B291.out.size
        have geb : Hid ((w278).heap.size < ((w278).alloc (.cells #[.int .i64 0, .int .i64 0, .slice none 0 0, .slice none 0 0] 63)).heap.size) := κ (by simp)
        have neib : Hid (g281 ≠ (w278).heap.size) := κ (by have := gli.out; omega)
        obtain ⟨g325, e326⟩ : ∃ x, x = (w278).heap.size := ⟨_, rfl⟩
        simp only [← e326] at K324 lob geb neib  ⊢
        clear e326
        have gli : Hid (g281 < ((w278).alloc (.cells #[.int .i64 0, .int .i64 0, .slice none 0 0, .slice none 0 0] 63)).heap.size) := κ K327.out.lt
        have glb : Hid (g325 < ((w278).alloc (.cells #[.int .i64 0, .int .i64 0, .slice none 0 0, .slice none 0 0] 63)).heap.size) := κ geb.out
        generalize (w278).alloc (.cells #[.int .i64 0, .int .i64 0, .slice none 0 0, .slice none 0 0] 63) = w322 at H328 H329 H330 H331 H332 H333 H334 H335 B336 K324 glb geb gli K327  ⊢
        have P337 : Hid (T124 w322) := κ ⟨(H330.out.1.cell 0), (by rw [HNB.out, ← H335.out.A]; exact (Gt.c8 H328.out :)), (H331.out.1.cell 0), (H332.out.1.cell 0), H335.out.c0, H335.out.c1, H335.out.c2, H335.out.c3⟩
        refine hK.out _ _ P337.out ?_
        clear hK K'
        refine jP ?_
        refine jN 8 fun K' hK => ?_
        go_simp
        refine (SW.out w322 H335.out.k.1).mono ?_
        rintro e w8 ⟨A8, C8, c8, d8, rl8, Ai, ci, rfl, hm8, hf8, hi8, hg8, hb8⟩
        have K338 := κ (Blk.below' K327.out hb8)
        have nzi : Hid (Nz g281 A8 C8 rl8 (Bkw.sweepF y0.b ep)) := κ (nz_new hf8 gli.out)
        have fzi : Hid (Fz g281 Ai (ints (Bkw.swI ep y0.b.op))) := κ (fz_new hg8 gli.out)
        have gli : Hid (g281 < w8.heap.size) := κ K338.out.lt
        have K339 := κ (Blk.below' K324.out hb8)
        have nzb : Hid (Nz g325 A8 C8 rl8 (Bkw.sweepF y0.b ep)) := κ (nz_new hf8 glb.out)
        have fzb : Hid (Fz g325 Ai (ints (Bkw.swI ep y0.b.op))) := κ (fz_new hg8 glb.out)
        have glb : Hid (g325 < w8.heap.size) := κ K339.out.lt
        have FF : Hid (Bka.Fb w1.heap.size A8 C8 rl8) := κ (fb_mono hf8 B336.out.size)
        have GG : Hid (∀ a, Ai = some a → w1.heap.size ≤ a.block) := κ (fun a ha => Nat.le_trans B336.out.size (hg8 a ha))
        have H340 := κ (Gt.ext H328.out hb8)
        have H341 := κ (Ac.ext H329.out hb8)
        have H342 := κ (B1.ext H330.out hb8)
        have H343 := κ (B1.ext H331.out hb8)
        have H344 := κ (B1.ext H332.out hb8)
        have H345 := κ (B1.ext H333.out hb8)
        have H346 := κ (B1.ext H334.out hb8)
        have H347 := κ (Bat.ext H335.out hb8)
        have B348 := κ (Cel.below_step B336.out hb8)
        have M8 := κ hm8
        have I8 := κ hi8
        unfold bkA
        clear hm8 hi8 hf8 hg8 hb8
        have P349 : Hid (T124 w8) := κ ⟨(H342.out.1.cell 0), (by rw [HNB.out, ← H347.out.A]; exact (Gt.c8 H340.out :)), (H343.out.1.cell 0), (H344.out.1.cell 0), H347.out.c0, H347.out.c1, H347.out.c2, H347.out.c3⟩
        obtain ⟨y1, y2, y3, y4, y5, y6, y7, y8⟩ := book_cells K339.out
        have NE : Hid (g325 ≠ g281) := κ (Ne.symm neib.out)
        have y9 : ∀ u0 u1 u2 u3, ((((w8.setCell ⟨g325, 0, none⟩ u0).setCell ⟨g325, 1, none⟩ u1).setCell ⟨g325, 2, none⟩ u2).setCell ⟨g325, 3, none⟩ u3).cell? ⟨g281, 0, none⟩ = some (.slice none 0 0) := fun u0 u1 u2 u3 => (blk_far (blk_far (blk_far (blk_far K338.out NE.out.symm u0) NE.out.symm u1) NE.out.symm u2) NE.out.symm u3).cell 0
        have y10 : ∀ u0 u1 u2 u3, ((((w8.setCell ⟨g325, 0, none⟩ u0).setCell ⟨g325, 1, none⟩ u1).setCell ⟨g325, 2, none⟩ u2).setCell ⟨g325, 3, none⟩ u3).frozen? ⟨g281, 0, none⟩ = false := fun u0 u1 u2 u3 => (blk_far (blk_far (blk_far (blk_far K338.out NE.out.symm u0) NE.out.symm u1) NE.out.symm u2) NE.out.symm u3).thaw 0
        refine hK.out _ _ P349.out ?_
        clear hK K'
        refine jP ?_
        refine jA 9 P349.out ?_
        refine jA 10 P349.out ?_
        refine jA 11 P349.out ?_
        refine jV 14 fun K' hK => ?_
        go_simp
        refine hK.out _ _ ?_
        clear hK K'
        refine jP ?_
        refine jV 15 fun K' hK => ?_
        go_simp
        refine hK.out _ _ ?_
        clear hK K'
        refine jP ?_
        refine Δ ?_
        go_wp2_with fail
        go_meet
        exact cutW NW B348.out K339.out K338.out lob.out loi.out NE.out M8.out FF.out I8.out GG.out nzb.out nzi.out fzb.out fzi.out
  case rest =>
    obtain ⟨x7, x8, y, Ay, cy, rfl, rfl, hyb, hbx, K7, K8, KY, KI⟩ := hcut
    rename World => w2
    have HYB := κ hyb
    clear hyb
    have hbx' := hbx.out
    have H350 := κ (Gt.ext H105.out hbx')
    have H351 := κ (Ac.ext H106.out hbx')
    have H352 := κ (B1.ext H107.out hbx')
    have H353 := κ (B1.ext H108.out hbx')
    have H354 := κ (B1.ext H109.out hbx')
    have H355 := κ (B1.ext H110.out hbx')
    have H356 := κ (B1.ext H111.out hbx')
    have H357 := κ (Bat.ext H112.out hbx')
    have F358 := κ (FW.out.trans (Fs.quiet hbx'))
    obtain ⟨ni, hni⟩ : ∃ n, n = (Bkw.swI ep y0.b.op).length := ⟨_, rfl⟩
    have HNI := κ hni
    have hni' : ni ≤ 1000 := by rw [hni]; exact Nat.le_trans (swI_len ep _) HFEW.out.ol
    rw [← hni] at K8
    clear hni hbx hbx'
    go_upto_region 2 with fail
    have b359 : Below w2.heap.size w2 w2.drew := (Below.refl _ _).drew
    have H360 := κ (Gt.ext H350.out b359)
    have H361 := κ (Ac.ext H351.out b359)
    have H362 := κ (B1.ext H352.out b359)
    have H363 := κ (B1.ext H353.out b359)
    have H364 := κ (B1.ext H354.out b359)
    have H365 := κ (B1.ext H355.out b359)
    have H366 := κ (B1.ext H356.out b359)
    have H367 := κ (B1.ext K7.out b359)
    have H368 := κ (B1.ext K8.out b359)
    have H369 := κ (Bat.ext H357.out b359)
    have H370 := κ (Bk0.fs KY.out (fx b359) id)
    have H371 := κ (Ro0.fs KI.out (fx b359) id)
    have F372 := κ (F358.out.trans (Fs.quiet b359))
    let T373 : World → Prop := fun w' => w'.cell? ⟨b1, 0, none⟩ = some (.pointer (some ⟨g0, 0, none⟩)) ∧ w'.cell? ⟨g0, 8, none⟩ = some (.slice (some ⟨gb, 0, none⟩) nb q.cb) ∧ w'.cell? ⟨b2, 0, none⟩ = some (.int .i64 (sn : Int)) ∧ w'.cell? ⟨x7, 0, none⟩ = some (.int .i64 y.b.sh) ∧ w'.cell? ⟨x7, 1, none⟩ = some (.int .i64 y.b.ca) ∧ w'.cell? ⟨x7, 2, none⟩ = some (.slice y.A y.b.rows.length y.c) ∧ w'.cell? ⟨x7, 3, none⟩ = some (.slice y.C y.b.op.length y.d)
    have P374 : Hid (T373 w2.drew) := κ ⟨(H362.out.1.cell 0), (by rw [HNB.out, ← H369.out.A]; exact (Gt.c8 H360.out :)), (H363.out.1.cell 0), (H367.out.1.cell 0), (H367.out.1.cell 1), (H367.out.1.cell 2), (H367.out.1.cell 3)⟩
    refine Ω T373 [7] ?_
    generalize w2.drew = wd375 at H360 H361 H362 H363 H364 H365 H366 H367 H368 H369 H370 H371 F372 P374 ⊢
    obtain ⟨z0, z1, z2, z3, z4, z5, z6⟩ := bat_cells H369.out
    have BP := book_put H360.out H369.out hsb H370.out
    have GB := κ BP.1
    have FB := κ BP.2
    have A9 := κ (Ac.fs H361.out FB.out (by omega) (by decide))
    have H376 := κ (B1.fs H362.out FB.out (by decide))
    have H377 := κ (B1.fs H363.out FB.out (by decide))
    have H378 := κ (B1.fs H364.out FB.out (by decide))
    have H379 := κ (B1.fs H365.out FB.out (by decide))
    have H380 := κ (B1.fs H366.out FB.out (by decide))
    have H381 := κ (B1.fs H367.out FB.out (by decide))
    have H382 := κ (B1.fs H368.out FB.out (by decide))
    have I9 := κ (Ro0.fs H371.out FB.out (by decide))
    have F9 := κ (F372.out.trans (FB.out.mono (D := fun c => c = 3 ∨ c = g + 8) fun _ h => .inl h))
    clear BP
    refine jB 0 P374.out ?_
    refine jA 1 P374.out ?_
    refine jA 2 P374.out ?_
    refine jB 3 P374.out ?_
    refine jB 4 P374.out ?_
    refine jB 5 P374.out ?_
    refine jA 6 P374.out ?_
    refine jV 7 fun K' hK => ?_
    go_simp
    refine hK.out _ _ ?_
    clear hK K'
    refine jP ?_
    refine Δ ?_
    unfold put4 at GB A9 F9 I9 H376 H377 H378 H379 H380 H381 H382
    have k8' := H382.out.1.cell 0
    simp at k8'
    clear z0 z1 z2 z3 z4 z5 z6 FB
    have hmg : (((((wd375.setCell ⟨gb, sn * 4, none⟩ (.int .i64 y.b.sh)).setCell ⟨gb, sn * 4 + 1, none⟩ (.int .i64 y.b.ca)).setCell ⟨gb, sn * 4 + 2, none⟩ (.slice y.A y.b.rows.length y.c)).setCell ⟨gb, sn * 4 + 3, none⟩ (.slice y.C y.b.op.length y.d))) = (((((wd375.setCell ⟨gb, sn * 4, none⟩ (.int .i64 y.b.sh)).setCell ⟨gb, sn * 4 + 1, none⟩ (.int .i64 y.b.ca)).setCell ⟨gb, sn * 4 + 2, none⟩ (.slice y.A y.b.rows.length y.c)).setCell ⟨gb, sn * 4 + 3, none⟩ (.slice y.C y.b.op.length y.d))) := rfl
    clear hmg
    generalize (((((wd375.setCell ⟨gb, sn * 4, none⟩ (.int .i64 y.b.sh)).setCell ⟨gb, sn * 4 + 1, none⟩ (.int .i64 y.b.ca)).setCell ⟨gb, sn * 4 + 2, none⟩ (.slice y.A y.b.rows.length y.c)).setCell ⟨gb, sn * 4 + 3, none⟩ (.slice y.C y.b.op.length y.d))) = w9 at GB A9 H376 H377 H378 H379 H380 H381 H382 I9 F9 k8' ⊢
    go_wp2_with fail
    obtain ⟨q1, hq1⟩ : ∃ z, z = ({ q with xs := q.xs.set sn y } : Gq) := ⟨_, rfl⟩
    rw [← hq1] at GB
    clear hq1
    obtain ⟨G1, hG1⟩ : ∃ z, z = ({ G with bs := G.bs.set sn y.b } : Gp) := ⟨_, rfl⟩
    rw [← hG1] at GB
    have HG1 := κ hG1
    clear hG1
    go_loopg [32] ni (fun gk s32 w' => ∃ (j : Nat) (ρj : Nat → Nat) (rj : Aq), j + gk = ni ∧ s32 = .int .i64 j ∧ Hid (Gt base ρj w' g0 q1 G1) ∧ Hid (Ac ρj w' g0 g rj (thenA a (((Bkw.swI ep y0.b.op).take j).flatMap (sendL 1)))) ∧ Hid (Fs (fun c => c = 3 ∨ c = g + 8) ρ w ρj w') ∧ Hid (rj.gp = r.gp) ∧ Hid (Ro0 ρj w' Ay (ints (Bkw.swI ep y0.b.op))) ∧ Hid (B1 ρj w' b1 36 #[pv g0]) ∧ Hid (B1 ρj w' b2 3 #[.int .i64 (sn : Int)]) ∧ Hid (B1 ρj w' b3 2 #[.int .i64 ep]) ∧ Hid (B1 ρj w' b4 46 #[pv g]) ∧ Hid (B1 ρj w' b5 3 #[.int .i64 pl]) ∧ Hid (B1 ρj w' x8 23 #[.slice Ay ni cy]))
    case atStart => exact ⟨0, ρ, r, by omega, rfl, GB, κ (by simpa [thenA_nil] using A9.out), F9, κ rfl, I9, H376, H377, H378, H379, H380, H382⟩
    case round =>
      clear GB A9 F9 I9 k8' H376 H377 H378 H379 H380 H382
      obtain ⟨j, ρj, rj, hg0, rfl, Hg, Ha, Ff, Hr, Hi, Jg, Js, Je, Ja, Jp, Ji⟩ := hrel
      by_cases hlt : j < ni
      case pos =>
        obtain ⟨gk', rfl⟩ : ∃ x, gk = x + 1 := ⟨gk - 1, by omega⟩
        have t0 : decide ((j : Int) < (ni : Int)) = true := by simp; omega
        have hjl : j < (Bkw.swI ep y0.b.op).length := by rw [← HNI.out]; exact hlt
        obtain ⟨bA, oA, hA, hbA, hcc⟩ := Ris.at (i := j) Hi.out.1 hjl
        have hc := hcc j hjl
        have HAP := κ hA
        have hsl : (Value.slice Ay ni cy) = .slice (some ⟨bA, oA, none⟩) ni cy := by rw [hA]
        obtain ⟨id, hid⟩ : ∃ z, z = gI (Bkw.swI ep y0.b.op) j := ⟨_, rfl⟩
        rw [← hid] at hc
        have HID := κ hid
        have HJL := κ hjl
        clear hcc hid hbA hA hjl
        simp only [hsl]
        clear hsl
        have ja := Ja.out.1.cell 0
        simp at ja
        have l9 : Hid ((thenA a (((Bkw.swI ep y0.b.op).take j).flatMap (sendL 1))).todo.length ≤ 100000) := κ (by rw [len_then, flat_len]; have := List.length_take_le j (Bkw.swI ep y0.b.op); omega)
        go_wp2_with fail
        refine (send_any base ρj q1 rj g0 g 1 id G1 _ wr Hg Ha l9.out).mono ?_
        rintro e w3 ⟨rfl, ρ3, r3, f3, G3, A3, p3⟩
        have I3 := κ (Ro0.fs Hi.out f3 (by omega))
        have F3 := κ (Fs.trans Ff.out (f3.mono (D := fun c => c = 3 ∨ c = g + 8) fun _ h => .inr h))
        have G3 := κ G3
        have A3 := κ A3
        have p3 := κ p3
        have Lg := κ (B1.fs Jg.out f3 (by omega))
        have Ls := κ (B1.fs Js.out f3 (by omega))
        have Le := κ (B1.fs Je.out f3 (by omega))
        have La := κ (B1.fs Ja.out f3 (by omega))
        have Lp := κ (B1.fs Jp.out f3 (by omega))
        have Li := κ (B1.fs Ji.out f3 (by omega))
        clear f3 ja
        go_wp2_with fail
        simp only [← HAP.out]
        go_roundg gk'
        case measure => omega
        case rel => exact ⟨j + 1, ρ3, r3, by omega, by rw [Int.natCast_add]; rfl, G3, κ (by have h9 := A3.out; rw [thenA_app, HID.out, flat_take HJL.out] at h9; exact h9), F3, κ (p3.out.trans Hr.out), I3, Lg, Ls, Le, La, Lp, Li⟩
      case neg =>
        have t0 : decide ((j : Int) < (ni : Int)) = false := by simp; omega
        have hjn : j = ni := by omega
        have Ha2 : Hid (Ac ρj wr g0 g rj (thenA a ((Bkw.swI ep y0.b.op).flatMap (sendL 1)))) := κ (by have h9 := Ha.out; rw [hjn, HNI.out, List.take_length] at h9; exact h9)
        have l9 : Hid ((thenA a ((Bkw.swI ep y0.b.op).flatMap (sendL 1))).todo.length + 1 ≤ 1000000) := κ (by rw [len_then, flat_len, ← HNI.out]; omega)
        clear hjn Ha
        go_upto_region 8 with fail
        have b383 : Below wr.heap.size wr wr.drew := (Below.refl _ _).drew
        have H384 := κ (Gt.ext Hg.out b383)
        have H385 := κ (Ac.ext Ha2.out b383)
        have H386 := κ (B1.ext Jg.out b383)
        have H387 := κ (B1.ext Js.out b383)
        have H388 := κ (B1.ext Je.out b383)
        have H389 := κ (B1.ext Ja.out b383)
        have H390 := κ (B1.ext Jp.out b383)
        have H391 := κ (B1.ext Ji.out b383)
        have F392 := κ (Ff.out.trans (Fs.quiet b383))
        let T393 : World → Prop := fun w' => w'.cell? ⟨b4, 0, none⟩ = some (.pointer (some ⟨g, 0, none⟩)) ∧ w'.cell? ⟨b2, 0, none⟩ = some (.int .i64 (sn : Int))
        have P394 : Hid (T393 wr.drew) := κ ⟨(H389.out.1.cell 0), (H387.out.1.cell 0)⟩
        refine Ω T393 [] ?_
        generalize wr.drew = wd395 at H384 H385 H386 H387 H388 H389 H390 H391 F392 P394 ⊢
        refine jB 0 P394.out ?_
        refine jB 1 P394.out ?_
        refine jB 2 P394.out ?_
        refine jA 5 P394.out ?_
        refine jN 3 fun K' hK => ?_
        go_simp
        refine (shardLatch_any (sn : Int) wd395 (by omega) (by omega)).mono ?_
        rintro e w9 ⟨rfl, rfl⟩
        refine hK.out _ _ P394.out ?_
        clear hK K'
        refine jP ?_
        refine jN 4 fun K' hK => ?_
        go_simp
        refine (free_acc g0 rj.gp H384.out.new (2 + (sn : Int))).mono ?_
        rintro e w398 ⟨k396, cap397, rfl, i399, b400⟩
        have H401 := κ (Gt.ext H384.out b400)
        have H402 := κ (Ac.ext H385.out b400)
        have H403 := κ (B1.ext H386.out b400)
        have H404 := κ (B1.ext H387.out b400)
        have H405 := κ (B1.ext H388.out b400)
        have H406 := κ (B1.ext H389.out b400)
        have H407 := κ (B1.ext H390.out b400)
        have H408 := κ (B1.ext H391.out b400)
        have i399 := κ i399
        have F409 := κ (F392.out.trans (Fs.quiet b400))
        have P410 : Hid (T393 w398) := κ ⟨(H406.out.1.cell 0), (H404.out.1.cell 0)⟩
        refine hK.out _ _ P410.out ?_
        clear hK K'
        refine jP ?_
        refine jN 6 fun K' hK => ?_
        go_simp
        refine (after_acc g0 rj.gp H401.out.new (.free (shL (sn : Int))) (.swp1 (sn : Int) ep pl ((Bkw.swI ep y0.b.op).length : Int)) k396 172 cap397 #[pv b1, pv b5, pv x8, pv b4, pv b2, pv b3] i399.out ⟨_, _, _, _, _, _, Ay, cy, rfl, H403.out, H407.out, ⟨(by rw [← HNI.out]; exact H408.out), by omega⟩, H406.out, H404.out, H405.out⟩).mono ?_
        rintro e w413 ⟨k411, cap412, rfl, i414, b415⟩
        have I416 := κ (IsAcc.ext i399.out b415)
        have H417 := κ (Gt.ext H401.out b415)
        have H418 := κ (Ac.ext H402.out b415)
        have H419 := κ (B1.ext H403.out b415)
        have H420 := κ (B1.ext H404.out b415)
        have H421 := κ (B1.ext H405.out b415)
        have H422 := κ (B1.ext H406.out b415)
        have H423 := κ (B1.ext H407.out b415)
        have H424 := κ (B1.ext H408.out b415)
        have i414 := κ i414
        have F425 := κ (F409.out.trans (Fs.quiet b415))
        have P426 : Hid (T393 w413) := κ ⟨(H422.out.1.cell 0), (H420.out.1.cell 0)⟩
        refine hK.out _ _ P426.out ?_
        clear hK K'
        refine jP ?_
        refine jN 7 fun K' hK => ?_
        go_simp
        have b428 := β (w413) (.cells #[(.func (.func k411) #[] cap412)] 126)
        have K429 := κ (Blk.fresh (w413) 126 #[(.func (.func k411) #[] cap412)])
        have H432 := κ (Gt.ext H417.out b428)
        have H433 := κ (Ac.ext H418.out b428)
        have H434 := κ (B1.ext H419.out b428)
        have H435 := κ (B1.ext H420.out b428)
        have H436 := κ (B1.ext H421.out b428)
        have H437 := κ (B1.ext H422.out b428)
        have H438 := κ (B1.ext H423.out b428)
        have H439 := κ (B1.ext H424.out b428)
        have L440 : Hid (Are (IsAcc ρj ((w413).alloc (.cells #[(.func (.func k411) #[] cap412)] 126)) g0 g rj.gp) [.aft (.free (shL (sn : Int))) (.swp1 (sn : Int) ep pl ((Bkw.swI ep y0.b.op).length : Int))] [(.func (.func k411) #[] cap412)]) := κ (.cons (IsAcc.ext i414.out b428) (.nil))
        obtain ⟨g430, e431⟩ : ∃ x, x = w413.heap.size := ⟨_, rfl⟩
        simp only [← e431] at K429 ⊢
        clear e431
        have F441 := κ (F425.out.trans (Fs.quiet b428))
        generalize (w413).alloc (.cells #[(.func (.func k411) #[] cap412)] 126) = w427 at H432 H433 H434 H435 H436 H437 H438 H439 L440 K429 F441 ⊢
        have P442 : Hid (T393 w427) := κ ⟨(H437.out.1.cell 0), (H435.out.1.cell 0)⟩
        refine hK.out _ _ P442.out ?_
        clear hK K'
        refine jP ?_
        refine jN 8 fun K' hK => ?_
        go_simp
        refine (then_any base ρj q1 rj g0 g g430 1 G1 (thenA a ((Bkw.swI ep y0.b.op).flatMap (sendL 1))) _ _ w427 H432 H433 K429 L440 (κ rfl) (by decide) l9.out).mono ?_
        rintro e w445 ⟨rfl, ρ443, r444, f446, H447, H448, p449⟩
        have H450 := κ (B1.fs H434.out f446 (by omega))
        have H451 := κ (B1.fs H435.out f446 (by omega))
        have H452 := κ (B1.fs H436.out f446 (by omega))
        have H453 := κ (B1.fs H437.out f446 (by omega))
        have H454 := κ (B1.fs H438.out f446 (by omega))
        have H455 := κ (B1.fs H439.out f446 (by omega))
        have H447 := κ H447
        have H448 := κ H448
        have p449 := κ p449
        have F456 := κ (Fs.trans F441.out (f446.mono (D := fun c => c = 3 ∨ c = g + 8) (fun _ h => .inr h)))
        have P457 : Hid (T393 w445) := κ ⟨(H453.out.1.cell 0), (H451.out.1.cell 0)⟩
        refine hK.out _ _ P457.out ?_
        clear hK K'
        refine jP ?_
        refine Δ ?_
        go_wp2_with fail
        exact bodyPost_ret (v := .tuple #[]) (by simp [results, Tryz.results170, go_sem]) rfl ⟨rfl, ρ443, q1, r444, F456.out, (by have h9 := H447.out; rw [HG1.out, HYB.out, HXB.out] at h9; exact h9), (by have h9 := H448.out; rw [thenA_app, HXB.out] at h9; exact h9), p449.out.trans Hr.out⟩
end Gx7
end Go.Proofs.YtaeddnjjeholgaaGreat
