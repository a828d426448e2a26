/- Texts side by side. -/
import Derived.Test.YtaeddnjjeholgaaGreatUgbo
set_option linter.unusedVariables false
set_option linter.unusedSimpArgs false
set_option maxRecDepth 100000
set_option maxHeartbeats 16000000
namespace Go.Proofs.YtaeddnjjeholgaaGreat
open Go.ChangeShapes Go.WideShapes Go.ChangeAt Go.RowKit Mem Bkp Hpa Gbe
namespace Gcl
open Tre Ref3 Law3 Crd Dlk Bcl Gx2
theorem int_info : (Tryz.prog.info? 3).map (fun i => (i.zero, i.size, i.bytes)) = some (some (.int .i64 0), 1, 8) := by kernel_rfl
theorem cloneO (A : Option Addr) (n c : Nat) (l : List (Int × Int)) (w : World) (hn : Hid (n = l.length)) (hl : Hid (Rd w w.heap.size A (nds l))) (hmax : (n : Int) ≤ 1000000) :
    Calls Tryz.prog 44 #[.slice A n c] w (MadeOw 93 2 n (nds l) w) := by
  obtain ⟨i0, hi, hz0, hz1, hz2⟩ := info_parts out_info
  have hq := fun (W : World) (n c : Nat) => Lib.run_eql_slice_nil (P := Tryz.prog) W 47 93 A n c 0 0 Tryz.underlying47
  have hln : Hid ((nds l).length = n * 2) := by show _ = _; rw [hn.out]; exact nds_len l
  cases A with
  | none =>
    have hl0 : nds l = [] := by
      rcases hl.out with h | ⟨b, o, h, _⟩
      · exact h
      · cases h
    have hn0 : n = 0 := by have := hln.out; rw [hl0] at this; simp at this; omega
    have HL := Lib.hid hl0
    clear hn hln hl0
    subst hn0
    go_enter Tryz.func44, Tryz.ntmps44
    go_wp2_with fail
    go_ret
    rw [HL.out]
    exact ⟨none, 0, rfl, World.ownsRow_nil _ _ _ _, Below.refl _ _⟩
  | some ad =>
    have hl1 : Hid (Rd (w.alloc (.cells #[] 93)) w.heap.size (some ad) (nds l)) := Rd.below hl.out ((Below.refl _ _).alloc (Nat.le_refl _) _)
    have how : Hid ((w.alloc (.cells #[] 93)).ownsRow w.heap.size 93 2 (.slice (some ⟨w.heap.size, 0, none⟩) 0 0) 0 []) := own_empty (Blk.fresh w _ _) (Nat.le_refl _)
    have hb0 : Below w.heap.size w (w.alloc (.cells #[] 93)) := (Below.refl _ _).alloc (Nat.le_refl _) _
    go_enter Tryz.func44, Tryz.ntmps44
    go_wp2_with (at_builtin; go_loud (refine wpList_appR (nm := n) how hb0 hl1 (by simp) rfl _ _ _ rfl i0 (.agg #[.int .i64 0, .int .i64 0]) 16 Tryz.underlying47 hi hz0 hz1 hz2 rfl (by decide) rfl rfl hln.out (nds_one l) (by unfold maxLen; omega) (by omega) (Nat.le_refl _) (by simp) (by simp) ?_); intro A1 c1 w1 hown1 hbel1 hsz1)
    go_ret
    exact ⟨A1, c1, rfl, hown1, hbel1⟩
theorem cloneT (A : Option Addr) (n c : Nat) (l : List Int) (w : World) (hn : Hid (n = l.length)) (hl : Hid (Rd w w.heap.size A (ints l))) (hmax : (n : Int) ≤ 1000000) :
    Calls Tryz.prog 45 #[.slice A n c] w (MadeOw 3 1 n (ints l) w) := by
  obtain ⟨i0, hi, hz0, hz1, hz2⟩ := info_parts int_info
  have hq := fun (W : World) (n c : Nat) => Lib.run_eql_slice_nil (P := Tryz.prog) W 23 3 A n c 0 0 Tryz.underlying23
  have hln : Hid ((ints l).length = n * 1) := by show _ = _; rw [hn.out]; exact ints_len1 l
  cases A with
  | none =>
    have hl0 : ints l = [] := by
      rcases hl.out with h | ⟨b, o, h, _⟩
      · exact h
      · cases h
    have hn0 : n = 0 := by have := hln.out; rw [hl0] at this; simp at this; omega
    have HL := Lib.hid hl0
    clear hn hln hl0
    subst hn0
    go_enter Tryz.func45, Tryz.ntmps45
    go_wp2_with fail
    go_ret
    rw [HL.out]
    exact ⟨none, 0, rfl, World.ownsRow_nil _ _ _ _, Below.refl _ _⟩
  | some ad =>
    have hl1 : Hid (Rd (w.alloc (.cells #[] 3)) w.heap.size (some ad) (ints l)) := Rd.below hl.out ((Below.refl _ _).alloc (Nat.le_refl _) _)
    have how : Hid ((w.alloc (.cells #[] 3)).ownsRow w.heap.size 3 1 (.slice (some ⟨w.heap.size, 0, none⟩) 0 0) 0 []) := own_empty (Blk.fresh w _ _) (Nat.le_refl _)
    have hb0 : Below w.heap.size w (w.alloc (.cells #[] 3)) := (Below.refl _ _).alloc (Nat.le_refl _) _
    go_enter Tryz.func45, Tryz.ntmps45
    go_wp2_with (at_builtin; go_loud (refine wpList_appR (nm := n) how hb0 hl1 (by simp) rfl _ _ _ rfl i0 (.int .i64 0) 8 Tryz.underlying23 hi hz0 hz1 hz2 rfl (by decide) rfl rfl hln.out (ints_one l) (by unfold maxLen; omega) (by omega) (Nat.le_refl _) (by simp) (by simp) ?_); intro A1 c1 w1 hown1 hbel1 hsz1)
    go_ret
    exact ⟨A1, c1, rfl, hown1, hbel1⟩
theorem cloneL (A : Option Addr) (n c : Nat) (l : List He) (w : World) (hn : Hid (n = l.length)) (hl : Hid (Rd w w.heap.size A (hrow l))) (hmax : (n : Int) ≤ 1000000) :
    Calls Tryz.prog 51 #[.slice A n c] w (MadeOw 123 21 n (hrow l) w) := by
  obtain ⟨i0, hi, hz0, hz1, hz2⟩ := info_parts log_info
  have hq := fun (W : World) (n c : Nat) => Lib.run_eql_slice_nil (P := Tryz.prog) W 58 123 A n c 0 0 Tryz.underlying58
  have hln : Hid ((hrow l).length = n * 21) := by show _ = _; rw [hn.out]; exact hrow_len l
  cases A with
  | none =>
    have hl0 : hrow l = [] := by
      rcases hl.out with h | ⟨b, o, h, _⟩
      · exact h
      · cases h
    have hn0 : n = 0 := by have := hln.out; rw [hl0] at this; simp at this; omega
    have HL := Lib.hid hl0
    clear hn hln hl0
    subst hn0
    go_enter Tryz.func51, Tryz.ntmps51
    go_wp2_with fail
    go_ret
    rw [HL.out]
    exact ⟨none, 0, rfl, World.ownsRow_nil _ _ _ _, Below.refl _ _⟩
  | some ad =>
    have hl1 : Hid (Rd (w.alloc (.cells #[] 123)) w.heap.size (some ad) (hrow l)) := Rd.below hl.out ((Below.refl _ _).alloc (Nat.le_refl _) _)
    have how : Hid ((w.alloc (.cells #[] 123)).ownsRow w.heap.size 123 21 (.slice (some ⟨w.heap.size, 0, none⟩) 0 0) 0 []) := own_empty (Blk.fresh w _ _) (Nat.le_refl _)
    have hb0 : Below w.heap.size w (w.alloc (.cells #[] 123)) := (Below.refl _ _).alloc (Nat.le_refl _) _
    go_enter Tryz.func51, Tryz.ntmps51
    go_wp2_with (at_builtin; go_loud (refine wpList_appR (nm := n) how hb0 hl1 (by simp) rfl _ _ _ rfl i0 (.agg (hv he0).toArray) 168 Tryz.underlying58 hi hz0 hz1 hz2 rfl (by decide) rfl rfl hln.out (hrow_one l) (by unfold maxLen; omega) (by omega) (Nat.le_refl _) (by simp) (by simp) ?_); intro A1 c1 w1 hown1 hbel1 hsz1)
    go_ret
    exact ⟨A1, c1, rfl, hown1, hbel1⟩
end Gcl
namespace Gaz
open Kap Lat Lax Go.Lib Cel Bks Wpl Gpl Mdp Cfg Gow Gac Gat Gup Gex Gma Gth Gmz Gsn Gsm
open Cn (ToldV toldV_mk)
theorem bound_any (w : World) : Calls Tryz.prog 32 #[] w (ToldV (.int .i64 4096) w) := by
  go_enter Tryz.func32, Tryz.ntmps32
  go_wp2_with fail
  go_ret
  exact toldV_mk rfl
theorem cells_nil (w : World) : Calls Tryz.prog 14 #[.pointer none] w (ToldV (.pointer none) w) := by
  go_enter Tryz.func14, Tryz.ntmps14
  go_wp2_with fail
  go_ret
  exact toldV_mk rfl
theorem used_nil (n : Int) (w : World) : Calls Tryz.prog 15 #[.pointer none, .int .i64 n] w (ToldV (.int .i64 0) w) := by
  go_enter Tryz.func15, Tryz.ntmps15
  go_wp2_with fail
  go_ret
  exact toldV_mk rfl
theorem log_nil (w : World) : Calls Tryz.prog 16 #[.pointer none] w (ToldV (.slice none 0 0) w) := by
  go_enter Tryz.func16, Tryz.ntmps16
  go_wp2_with fail
  go_ret
  exact toldV_mk rfl
theorem out_nil (w : World) : Calls Tryz.prog 11 #[.pointer none] w (ToldV (.tuple #[.slice none 0 0, .slice none 0 0]) w) := by
  go_enter Tryz.func11, Tryz.ntmps11
  go_wp2_with fail
  exact bodyPost_ret (v := .tuple #[.slice none 0 0, .slice none 0 0]) (by simp [results, Tryz.results11, go_sem]) rfl (toldV_mk rfl)
theorem book_nil (n : Int) (w : World) : Calls Tryz.prog 17 #[.pointer none, .int .i64 n] w (MadeV (.agg #[.int .i64 0, .int .i64 0, .slice none 0 0, .slice none 0 0]) w) := by
  have b0 : Hid (Below w.heap.size w (w.alloc (.cells #[.int .i64 0, .int .i64 0, .slice none 0 0, .slice none 0 0] 63))) := κ (β _ _)
  have K := Blk.fresh w 63 #[.int .i64 0, .int .i64 0, .slice none 0 0, .slice none 0 0]
  go_enter Tryz.func17, Tryz.ntmps17
  go_wp2_with fail
  have k0 := K.cell 0
  have k1 := K.cell 1
  have k2 := K.cell 2
  have k3 := K.cell 3
  simp at k0 k1 k2 k3
  exact bodyPost_ret (v := .agg #[.int .i64 0, .int .i64 0, .slice none 0 0, .slice none 0 0]) (by simp [results, Tryz.results17, go_sem, k0, k1, k2, k3]) rfl ⟨rfl, b0.out⟩
theorem step_nil (w : World) : Calls Tryz.prog 18 #[.pointer none] w (ToldV (.bool true) w) := by
  go_enter Tryz.func18, Tryz.ntmps18
  go_wp2_with fail
  refine (over_nil w).mono ?_
  rintro e w2 ⟨rfl, rfl⟩
  go_wp2_with fail
  go_ret
  exact toldV_mk rfl
theorem do_nil (who : Int) (m : M) (w : World) : Calls Tryz.prog 12 #[.pointer none, .int .i64 who, .agg (mvs m).toArray] w (MadeV (.pointer none) w) := by
  have b0 : Hid (Below w.heap.size w (w.alloc (.cells (mvs m).toArray 53))) := κ (β _ _)
  go_enter Tryz.func12, Tryz.ntmps12
  go_wp2_with fail
  go_ret
  exact ⟨rfl, b0.out⟩
theorem answer_nil (w : World) : Calls Tryz.prog 20 #[.pointer none] w (MadeV (.agg #[.int .i64 0, .int .i64 0]) w) := by
  have b0 : Hid (Below w.heap.size w (w.alloc (.cells #[.int .i64 0, .int .i64 0] 66))) := κ (β _ _)
  have K := Blk.fresh w 66 #[.int .i64 0, .int .i64 0]
  go_enter Tryz.func20, Tryz.ntmps20
  go_wp2_with fail
  have k0 := K.cell 0
  have k1 := K.cell 1
  simp at k0 k1
  exact bodyPost_ret (v := .agg #[.int .i64 0, .int .i64 0]) (by simp [results, Tryz.results20, go_sem, k0, k1]) rfl ⟨rfl, b0.out⟩
theorem answer_any (ρ : Nat → Nat) (g0 g : Nat) (r : Aq) (a : Ap) (w : World) (ha : Hid (Ac ρ w g0 g r a)) (h0 : a.todo = []) : Calls Tryz.prog 20 #[pv g] w (MadeV (.agg #[.int .i64 a.c, .int .i64 a.d]) w) := by
  have b0 : Below w.heap.size w (w.alloc (.cells #[.int .i64 0, .int .i64 0] 66)) := β _ _
  have K := Blk.fresh w 66 #[.int .i64 0, .int .i64 0]
  have A1 := κ (Ac.ext ha.out b0)
  have OV := over_any ρ g0 g r a _ A1
  rw [h0, show decide (([] : List Acc).length = 0) = true from rfl] at OV
  have b0 := κ b0
  go_enter Tryz.func20, Tryz.ntmps20
  go_wp2_with fail
  refine OV.mono ?_
  rintro e w2 ⟨rfl, rfl⟩
  have y4 := Ac.c4 A1.out
  have y5 := Ac.c5 A1.out
  have LW : Hid (w.heap.size ≤ w.heap.size) := κ (Nat.le_refl _)
  obtain ⟨gr, hgr⟩ : ∃ y, y = w.heap.size := ⟨_, rfl⟩
  have HGR := κ hgr
  simp only [← hgr] at K ⊢
  clear hgr
  have k0 := K.cell 0
  have k1 := K.cell 1
  have z0 := K.thaw 0
  have z1 := K.thaw 1
  simp at k0 k1
  have K2 := κ (blk_set (blk_set K 0 (.int .i64 a.c)) 1 (.int .i64 a.d))
  have B2 := κ ((b0.out.setCell (p := ⟨gr, 0, none⟩) (Nat.le_of_eq HGR.out.symm) (.int .i64 a.c)).setCell (p := ⟨gr, 1, none⟩) (Nat.le_of_eq HGR.out.symm) (.int .i64 a.d))
  go_wp2_with fail
  have e0 := K2.out.cell 0
  have e1 := K2.out.cell 1
  simp at e0 e1
  exact bodyPost_ret (v := .agg #[.int .i64 a.c, .int .i64 a.d]) (by simp [results, Tryz.results20, go_sem, e0, e1]) rfl ⟨rfl, B2.out⟩
end Gaz
namespace Gay
open Kap Lat Lax Go.Lib Cel Bks Wpl Gpl Mdp Cfg Gow Gac Gat Gup Gex Gma Gth Gmz Gsn Gsm
open Cn (ToldV toldV_mk)
theorem do_out (base : Nat) (ρ : Nat → Nat) (q : Gq) (g0 : Nat) (who : Int) (m : M) (G : Gp) (w : World) (HG : Hid (Gt base ρ w g0 q G)) (h : inR G.lp.length who = false) : Calls Tryz.prog 12 #[pv g0, .int .i64 who, .agg (mvs m).toArray] w (MadeV (.pointer none) w) := by
  have b0 : Below w.heap.size w (w.alloc (.cells (mvs m).toArray 53)) := β _ _
  have G1 := κ (Gt.ext HG.out b0)
  have b0 := κ b0
  have t9 := Gt.c9 G1.out
  have HA := fun W => hasA_any (some ⟨q.lb, 0, none⟩) G.lp.length G.lp.length who W
  rw [h] at HA
  go_enter Tryz.func12, Tryz.ntmps12
  go_wp2_with fail
  refine (HA _).mono ?_
  rintro e w2 ⟨rfl, rfl⟩
  go_wp2_with fail
  go_ret
  exact ⟨rfl, b0.out⟩
theorem used_any (base : Nat) (ρ : Nat → Nat) (q : Gq) (g0 n : Nat) (G : Gp) (w : World) (HG : Hid (Gt base ρ w g0 q G)) (hv : Vs G) (h : n < G.nd.length) (h1 : n ≤ 1000) : Calls Tryz.prog 15 #[pv g0, .int .i64 (n : Int)] w (MadeV (.int .i64 (peekF G.cs (1 + 2 * (n : Int)))) w) := by
  have hwl := hv.wl
  have hhl := hv.hl
  have b0 : Below w.heap.size w w.drew := (Below.refl _ _).drew
  have GD := κ (Gt.ext HG.out b0)
  have b0 := κ b0
  have t4 := Gt.c4 HG.out
  have HA := hasN_any q.A G.nd.length q.c (n : Int) w
  rw [inR_t (by omega) (by omega)] at HA
  let T : World → Prop := fun w' => w'.cell? ⟨g0, 7, none⟩ = some (.pointer (some ⟨q.gc, 0, none⟩)) ∧ True
  have HT : Hid (T w.drew) := κ ⟨Gt.c7 GD.out, trivial⟩
  have CP := Cn.peek_any q.gc q.gw q.gh G.cs (1 + 2 * (n : Int)) w.drew (κ GD.out.cs) (by omega) (by omega)
  go_enter Tryz.func15, Tryz.ntmps15
  go_wp2_with fail
  refine HA.mono ?_
  rintro e w2 ⟨rfl, rfl⟩
  clear t4
  go_upto_region 3 with fail
  refine Ω T [] ?_
  generalize w.drew = wd at GD b0 HT CP ⊢
  refine jA 0 HT.out ?_
  refine jA 1 HT.out ?_
  refine jA 2 HT.out ?_
  refine jB 3 HT.out ?_
  refine jA 4 HT.out ?_
  refine jN 5 fun K' hK => ?_
  go_simp
  refine (usedWord_any (n : Int) wd (by omega) (by omega)).mono ?_
  rintro e _ ⟨rfl, rfl⟩
  refine hK.out _ _ HT.out ?_
  clear hK K'
  refine jP ?_
  refine jN 6 fun K' hK => ?_
  go_simp
  refine CP.mono ?_
  rintro e _ ⟨rfl, rfl⟩
  refine hK.out _ _ HT.out ?_
  clear hK K'
  refine jP ?_
  refine jA 7 HT.out ?_
  refine Δ ?_
  go_wp2_with fail
  go_ret
  exact ⟨rfl, b0.out⟩
end Gay
namespace Glo
open Kap Lat Lax Go.Lib Cel Bks Wpl Gpl Mdp Cfg Gow Gac Gat Gup Gex Gma Gth Gmz Gsn Gsm Bcl Gcl
open Cn (ToldV toldV_mk)
theorem own_new {w : World} {base : Nat} {e : TypeId} {size n c : Nat} {A : Option Addr} {xs : List Value} (h : w.ownsRow base e size (.slice A n c) n xs) : ∀ a, A = some a → base ≤ a.block := by
  intro a ha
  obtain ⟨h0, h | ⟨g, cap, cur, hv, hb, hg, hr⟩⟩ := h
  · injection h.1 with h1; rw [ha] at h1; cases h1
  · injection hv with h1; rw [ha] at h1; injection h1 with h1; rw [h1]; first | exact hb | exact hg
theorem log_any (base : Nat) (ρ : Nat → Nat) (q : Gq) (g0 : Nat) (G : Gp) (w : World) (HG : Hid (Gt base ρ w g0 q G)) (hl : G.log.length ≤ 1000000) : Calls Tryz.prog 16 #[pv g0] w (MadeOw 123 21 G.log.length (hrow G.log) w) := by
  have t := Gt.c10 HG.out
  have CL := cloneL q.Al G.log.length q.cl G.log w (κ rfl) (κ (Rd.of_own HG.out.log.1)) (by omega)
  go_enter Tryz.func16, Tryz.ntmps16
  go_wp2_with fail
  refine CL.mono ?_
  rintro e w2 ⟨A, c, rfl, h1, h2⟩
  have h1 := κ h1
  have h2 := κ h2
  go_wp2_with fail
  go_ret
  exact ⟨A, c, rfl, h1.out, h2.out⟩
def MadeOu (G : Gp) (w : World) (e : Ending) (w' : World) : Prop := ∃ A c B d, e = .returned (.tuple #[.slice A G.out.length c, .slice B G.at'.length d]) ∧ Rd w' w'.heap.size A (nds G.out) ∧ Rd w' w'.heap.size B (ints G.at') ∧ Below w.heap.size w w' ∧ ∀ a, A = some a → w.heap.size ≤ a.block
theorem out_any (base : Nat) (ρ : Nat → Nat) (q : Gq) (g0 : Nat) (G : Gp) (w : World) (HG : Hid (Gt base ρ w g0 q G)) (hl : G.out.length ≤ 1000000) (hl2 : G.at'.length ≤ 1000000) : Calls Tryz.prog 11 #[pv g0] w (MadeOu G w) := by
  have b0 : Below w.heap.size w w.drew := (Below.refl _ _).drew
  have GD := κ (Gt.ext HG.out b0)
  have b0 := κ b0
  let T : World → Prop := fun w' => w'.cell? ⟨g0, 11, none⟩ = some (.slice q.Ao G.out.length q.co) ∧ w'.cell? ⟨g0, 12, none⟩ = some (.slice q.At G.at'.length q.ct)
  have HT : Hid (T w.drew) := κ ⟨Gt.c11 GD.out, Gt.c12 GD.out⟩
  go_enter Tryz.func11, Tryz.ntmps11
  go_upto_region 3 with fail
  refine Ω T [] ?_
  generalize w.drew = wd at GD b0 HT ⊢
  refine jA 0 HT.out ?_
  refine jA 1 HT.out ?_
  refine jA 2 HT.out ?_
  refine jB 3 HT.out ?_
  refine jA 5 HT.out ?_
  refine jA 6 HT.out ?_
  refine jA 7 HT.out ?_
  refine jB 8 HT.out ?_
  refine jN 4 fun K' hK => ?_
  go_simp
  refine (cloneO q.Ao G.out.length q.co G.out wd (κ rfl) (κ (Rd.of_own GD.out.out.1)) (by omega)).mono ?_
  rintro e w2 ⟨A, c, rfl, h1, h2⟩
  have G2 := κ (Gt.ext GD.out h2)
  have b2 := κ (CrdB.below_step b0.out h2)
  have FA := κ (own_new h1)
  have LS : Hid (w.heap.size ≤ wd.heap.size) := κ b0.out.size
  have R2 : Hid (Rd w2 w2.heap.size A (nds G.out)) := κ (Rd.of_own h1)
  have H2 : Hid (T w2) := κ ⟨Gt.c11 G2.out, Gt.c12 G2.out⟩
  clear h1 h2
  refine hK.out _ _ H2.out ?_
  clear hK K'
  refine jP ?_
  refine jN 9 fun K' hK => ?_
  go_simp
  refine (cloneT q.At G.at'.length q.ct G.at' w2 (κ rfl) (κ (Rd.of_own G2.out.at'.1)) (by omega)).mono ?_
  rintro e w3 ⟨B, d, rfl, h1, h2⟩
  have G3 := κ (Gt.ext G2.out h2)
  have b3 := κ (CrdB.below_step b2.out h2)
  have R3 : Hid (Rd w3 w3.heap.size B (ints G.at')) := κ (Rd.of_own h1)
  have R4 : Hid (Rd w3 w3.heap.size A (nds G.out)) := κ (Rd.below' R2.out h2 h2.size)
  have H3 : Hid (T w3) := κ ⟨Gt.c11 G3.out, Gt.c12 G3.out⟩
  clear h1 h2
  refine hK.out _ _ H3.out ?_
  clear hK K'
  refine jP ?_
  refine jA 10 H3.out ?_
  refine jA 11 H3.out ?_
  refine Δ ?_
  go_wp2_with fail
  exact bodyPost_ret (v := .tuple #[.slice A G.out.length c, .slice B G.at'.length d]) (by simp [results, Tryz.results11, go_sem]) rfl ⟨A, c, B, d, rfl, R4.out, R3.out, b3.out, fun a ha => Nat.le_trans LS.out (FA.out a ha)⟩
end Glo
namespace Gnb
open Kap Lat Lax Go.Lib Cel Bks Wpl Gpl Mdp Cfg Gow Gac Gat Gup Gex Gma Gth Gmz Gsn Gsm
open Cn (ToldV toldV_mk)
theorem new_bad (sh wi ra ta : Int) (A B C : Option Addr) (nl al sl c d f : Nat) (k : Int) (w : World) (h : k < 1 ∨ 8 < k) :
    Calls Tryz.prog 8 #[.agg #[.int .i64 sh, .int .i64 wi, .int .i64 ra, .int .i64 ta, .slice A nl c, .slice B al d, .slice C sl f], .int .i64 k] w (MadeV (.tuple #[.pointer none, .int .i64 1]) w) := by
  have b0 : Hid (Below w.heap.size w (w.alloc (.cells #[.int .i64 sh, .int .i64 wi, .int .i64 ra, .int .i64 ta, .slice A nl c, .slice B al d, .slice C sl f] 43))) := κ (β _ _)
  by_cases h1 : k < 1
  · have t0 : decide (k < 1) = true := by simp [h1]
    clear h
    go_enter Tryz.func8, Tryz.ntmps8
    go_wp2_with fail
    exact bodyPost_ret (v := .tuple #[.pointer none, .int .i64 1]) (by simp [results, Tryz.results8, go_sem]) rfl ⟨rfl, b0.out⟩
  · have t0 : decide (k < 1) = false := by simp [h1]
    have h2 : 8 < k := by omega
    have t1 : decide (k > 8) = true := by simp; omega
    clear h
    go_enter Tryz.func8, Tryz.ntmps8
    go_wp2_with fail
    exact bodyPost_ret (v := .tuple #[.pointer none, .int .i64 1]) (by simp [results, Tryz.results8, go_sem]) rfl ⟨rfl, b0.out⟩
theorem book_out (base : Nat) (ρ : Nat → Nat) (q : Gq) (g0 : Nat) (n : Int) (G : Gp) (w : World) (HG : Hid (Gt base ρ w g0 q G)) (h : inR G.bs.length n = false) : Calls Tryz.prog 17 #[pv g0, .int .i64 n] w (MadeV (.agg #[.int .i64 0, .int .i64 0, .slice none 0 0, .slice none 0 0]) w) := by
  have b0 : Below w.heap.size w (w.alloc (.cells #[.int .i64 0, .int .i64 0, .slice none 0 0, .slice none 0 0] 63)) := β _ _
  have G1 := κ (Gt.ext HG.out b0)
  have b0 := κ b0
  have K := κ (Blk.fresh w 63 #[.int .i64 0, .int .i64 0, .slice none 0 0, .slice none 0 0])
  have t8 := Gt.c8 G1.out
  have HA := fun W => hasK_any q.Ab G.bs.length q.cb n W
  rw [h] at HA
  go_enter Tryz.func17, Tryz.ntmps17
  go_wp2_with fail
  refine (HA _).mono ?_
  rintro e w2 ⟨rfl, rfl⟩
  go_wp2_with fail
  have k0 := K.out.cell 0
  have k1 := K.out.cell 1
  have k2 := K.out.cell 2
  have k3 := K.out.cell 3
  simp at k0 k1 k2 k3
  exact bodyPost_ret (v := .agg #[.int .i64 0, .int .i64 0, .slice none 0 0, .slice none 0 0]) (by simp [results, Tryz.results17, go_sem, k0, k1, k2, k3]) rfl ⟨rfl, b0.out⟩
end Gnb
end Go.Proofs.YtaeddnjjeholgaaGreat
