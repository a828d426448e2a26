/- Texts side by side. -/
import Derived.Test.YtmjkhejfhpgiiaaDoorSrqm
set_option linter.unusedVariables false
set_option linter.unusedSimpArgs false
set_option maxRecDepth 100000
set_option maxHeartbeats 16000000
namespace Go.Proofs.YtmjkhejfhpgiiaaDoor
open Kap Go.ChangeShapes Go.WideShapes Go.ChangeAt Go.RowKit Go.Lib Mem Tre Crd CrdC Fix3 Cfg Stk Lat Lap Lar Apt Mdb Bko Wpl Wmr Wal Wtk Sc2 Sc3 Scf Srd Lst Rby St7 Law3 Rcr
namespace Rrd
theorem rnode_info : (Tryd.prog.info? 61).map (fun i => (i.zero, i.size, i.bytes)) = some (some (.agg #[.int .i64 0, .int .i64 0]), 2, 16) := by kernel_rfl
def paF (i : Nat) : Int := [-1, 0, 1, 1].getD i 0
def tiF (i : Nat) : Int := [100, 100, 50, 50].getD i 0
theorem cfN_at (l : List UInt8) {i : Nat} (hi : i < 4) : nP (cfN l) i = paF i ∧ nC (cfN l) i = tiF i * (1 + (nb l (4 + i) : Int)) := by
  match i, hi with
  | 0, _ => exact ⟨rfl, rfl⟩
  | 1, _ => exact ⟨rfl, rfl⟩
  | 2, _ => exact ⟨rfl, rfl⟩
  | 3, _ => exact ⟨rfl, rfl⟩
theorem ti_in {i : Nat} (hi : i < 4) : tiF i = 100 ∨ tiF i = 50 := by
  match i, hi with
  | 0, _ => exact .inl rfl
  | 1, _ => exact .inl rfl
  | 2, _ => exact .inr rfl
  | 3, _ => exact .inr rfl
theorem pa_at {i : Nat} (hi : i < 4) : (#[Value.int .i64 (-1), .int .i64 0, .int .i64 1, .int .i64 1] : Array Value)[i]? = some (.int .i64 (paF i)) := by
  match i, hi with
  | 0, _ => rfl
  | 1, _ => rfl
  | 2, _ => rfl
  | 3, _ => rfl
theorem ti_at {i : Nat} (hi : i < 4) : (#[Value.int .i64 100, .int .i64 100, .int .i64 50, .int .i64 50] : Array Value)[i]? = some (.int .i64 (tiF i)) := by
  match i, hi with
  | 0, _ => rfl
  | 1, _ => rfl
  | 2, _ => rfl
  | 3, _ => rfl
theorem rread_any (l : List UInt8) (A : Option Addr) (c : Nat) (w : World) (hl : Hid (By w w.heap.size A l)) (hm : l.length ≤ 300) : Calls Tryd.prog 5 #[.slice A l.length c] w (MadeRr l w) := by
  have b0 := κ (β w (.cells #[.int .i64 0, .int .i64 0, .int .i64 0, .int .i64 0, .slice none 0 0, .slice none 0 0, .slice none 0 0, .slice none 0 0, .slice none 0 0] 38))
  have z0 := κ (δ w 38 #[.int .i64 0, .int .i64 0, .int .i64 0, .int .i64 0, .slice none 0 0, .slice none 0 0, .slice none 0 0, .slice none 0 0, .slice none 0 0] w.heap.size rfl)
  have l0 := κ (Rd.below' hl.out b0.out b0.out.size)
  go_enter Tryd.func5, Tryd.ntmps5
  go_upto_region 1 with fail
  generalize w.alloc (.cells #[.int .i64 0, .int .i64 0, .int .i64 0, .int .i64 0, .slice none 0 0, .slice none 0 0, .slice none 0 0, .slice none 0 0, .slice none 0 0] 38) = w0 at b0 z0 l0 ⊢
  have hg : Hid (w.heap.size ≤ w.heap.size) := κ (Nat.le_refl _)
  generalize hgR : w.heap.size = gR at z0 ⊢
  have hg : Hid (w.heap.size ≤ gR) := κ (by omega)
  clear hgR
  have R := κ (show ∀ (k : Nat), k ≤ 1000 → ∀ w', Below w0.heap.size w0 w' → Calls Tryd.prog 13 #[.slice A l.length c, .int .i64 k] w' (fun e w'' => e = .returned (.int .i64 (nb l k)) ∧ w' = w'') from fun k hk w' hb => (rat_any l A c k w' (κ (Rd.below' l0.out hb hb.size)) hk (by omega)).mono (by rintro e w'' ⟨rfl, rfl⟩; exact ⟨rfl, rfl⟩))
  have R0 : Hid (∀ w', Below w0.heap.size w0 w' → Calls Tryd.prog 13 #[.slice A l.length c, .int .i64 0] w' (fun e w'' => e = .returned (.int .i64 (nb l 0)) ∧ w' = w'')) := κ (R.out 0 (by omega))
  have R1 : Hid (∀ w', Below w0.heap.size w0 w' → Calls Tryd.prog 13 #[.slice A l.length c, .int .i64 1] w' (fun e w'' => e = .returned (.int .i64 (nb l 1)) ∧ w' = w'')) := κ (R.out 1 (by omega))
  have R2 : Hid (∀ w', Below w0.heap.size w0 w' → Calls Tryd.prog 13 #[.slice A l.length c, .int .i64 2] w' (fun e w'' => e = .returned (.int .i64 (nb l 2)) ∧ w' = w'')) := κ (R.out 2 (by omega))
  have R3 : Hid (∀ w', Below w0.heap.size w0 w' → Calls Tryd.prog 13 #[.slice A l.length c, .int .i64 3] w' (fun e w'' => e = .returned (.int .i64 (nb l 3)) ∧ w' = w'')) := κ (R.out 3 (by omega))
  have p0 := nb_lt l 0
  generalize e0 : nb l 0 = x0 at R0 p0
  have E0 := κ e0
  clear e0
  have p1 := nb_lt l 1
  generalize e1 : nb l 1 = x1 at R1 p1
  have E1 := κ e1
  clear e1
  have p2 := nb_lt l 2
  generalize e2 : nb l 2 = x2 at R2 p2
  have E2 := κ e2
  clear e2
  have p3 := nb_lt l 3
  generalize e3 : nb l 3 = x3 at R3 p3
  have E3 := κ e3
  clear e3
  have HT : Hid (Below w0.heap.size w0 w0) := κ (Below.refl _ _)
  go_wp2_with fail
  refine (R0.out _ HT.out).mono ?_
  rintro e _ ⟨rfl, rfl⟩
  go_wp2_with fail
  refine (R1.out _ HT.out).mono ?_
  rintro e _ ⟨rfl, rfl⟩
  go_wp2_with fail
  refine (R2.out _ HT.out).mono ?_
  rintro e _ ⟨rfl, rfl⟩
  go_wp2_with fail
  refine (R3.out _ HT.out).mono ?_
  rintro e _ ⟨rfl, rfl⟩
  go_upto_region 4 with fail
  have v1 := κ ((Below.refl w0.heap.size w0).alloc (Nat.le_refl _) (.cells #[.int .i64 2, .int .i64 3, .int .i64 2] 3))
  have v2 := κ (v1.out.alloc v1.out.size (.cells #[.int .i64 (1 + ((x0 : Nat) : Int) % 3), .int .i64 (((x1 : Nat) : Int) % 4), .int .i64 (1 + ((x2 : Nat) : Int) % 6), .int .i64 (1 + ((x3 : Nat) : Int) % 6), .slice none 0 0, .slice (some ⟨w0.heap.size, 0, none⟩) 3 3, .slice none 0 0] 35))
  have v3 := κ (v2.out.alloc v2.out.size (.cells #[.int .i64 (-1), .int .i64 0, .int .i64 1, .int .i64 1] 3))
  have v4 := κ (v3.out.alloc v3.out.size (.cells #[.int .i64 100, .int .i64 100, .int .i64 50, .int .i64 50] 3))
  have z4 := κ (z0.out.below' v4.out)
  have b4 := κ (Rul1.below_step b0.out v4.out)
  have qB : Hid (Blk ((((w0.alloc (.cells #[.int .i64 2, .int .i64 3, .int .i64 2] 3)).alloc (.cells #[.int .i64 (1 + ((x0 : Nat) : Int) % 3), .int .i64 (((x1 : Nat) : Int) % 4), .int .i64 (1 + ((x2 : Nat) : Int) % 6), .int .i64 (1 + ((x3 : Nat) : Int) % 6), .slice none 0 0, .slice (some ⟨w0.heap.size, 0, none⟩) 3 3, .slice none 0 0] 35)).alloc (.cells #[.int .i64 (-1), .int .i64 0, .int .i64 1, .int .i64 1] 3)).alloc (.cells #[.int .i64 100, .int .i64 100, .int .i64 50, .int .i64 50] 3)) w0.heap.size 3 #[.int .i64 2, .int .i64 3, .int .i64 2]) := κ (((Rul6.blk_at (w := w0) rfl).alloc (.cells #[.int .i64 (1 + ((x0 : Nat) : Int) % 3), .int .i64 (((x1 : Nat) : Int) % 4), .int .i64 (1 + ((x2 : Nat) : Int) % 6), .int .i64 (1 + ((x3 : Nat) : Int) % 6), .slice none 0 0, .slice (some ⟨w0.heap.size, 0, none⟩) 3 3, .slice none 0 0] 35)).alloc (.cells #[.int .i64 (-1), .int .i64 0, .int .i64 1, .int .i64 1] 3) |>.alloc (.cells #[.int .i64 100, .int .i64 100, .int .i64 50, .int .i64 50] 3))
  have zC : Hid (Blk ((((w0.alloc (.cells #[.int .i64 2, .int .i64 3, .int .i64 2] 3)).alloc (.cells #[.int .i64 (1 + ((x0 : Nat) : Int) % 3), .int .i64 (((x1 : Nat) : Int) % 4), .int .i64 (1 + ((x2 : Nat) : Int) % 6), .int .i64 (1 + ((x3 : Nat) : Int) % 6), .slice none 0 0, .slice (some ⟨w0.heap.size, 0, none⟩) 3 3, .slice none 0 0] 35)).alloc (.cells #[.int .i64 (-1), .int .i64 0, .int .i64 1, .int .i64 1] 3)).alloc (.cells #[.int .i64 100, .int .i64 100, .int .i64 50, .int .i64 50] 3)) (w0.heap.size + 1) 35 #[.int .i64 (1 + ((x0 : Nat) : Int) % 3), .int .i64 (((x1 : Nat) : Int) % 4), .int .i64 (1 + ((x2 : Nat) : Int) % 6), .int .i64 (1 + ((x3 : Nat) : Int) % 6), .slice none 0 0, .slice (some ⟨w0.heap.size, 0, none⟩) 3 3, .slice none 0 0]) := κ ((Rul6.blk_at (w := (w0.alloc (.cells #[.int .i64 2, .int .i64 3, .int .i64 2] 3))) (by simp)).alloc (.cells #[.int .i64 (-1), .int .i64 0, .int .i64 1, .int .i64 1] 3) |>.alloc (.cells #[.int .i64 100, .int .i64 100, .int .i64 50, .int .i64 50] 3))
  have qp : Hid (Blk ((((w0.alloc (.cells #[.int .i64 2, .int .i64 3, .int .i64 2] 3)).alloc (.cells #[.int .i64 (1 + ((x0 : Nat) : Int) % 3), .int .i64 (((x1 : Nat) : Int) % 4), .int .i64 (1 + ((x2 : Nat) : Int) % 6), .int .i64 (1 + ((x3 : Nat) : Int) % 6), .slice none 0 0, .slice (some ⟨w0.heap.size, 0, none⟩) 3 3, .slice none 0 0] 35)).alloc (.cells #[.int .i64 (-1), .int .i64 0, .int .i64 1, .int .i64 1] 3)).alloc (.cells #[.int .i64 100, .int .i64 100, .int .i64 50, .int .i64 50] 3)) (w0.heap.size + 1 + 1) 3 #[.int .i64 (-1), .int .i64 0, .int .i64 1, .int .i64 1]) := κ ((Rul6.blk_at (w := ((w0.alloc (.cells #[.int .i64 2, .int .i64 3, .int .i64 2] 3)).alloc (.cells #[.int .i64 (1 + ((x0 : Nat) : Int) % 3), .int .i64 (((x1 : Nat) : Int) % 4), .int .i64 (1 + ((x2 : Nat) : Int) % 6), .int .i64 (1 + ((x3 : Nat) : Int) % 6), .slice none 0 0, .slice (some ⟨w0.heap.size, 0, none⟩) 3 3, .slice none 0 0] 35))) (by simp)).alloc (.cells #[.int .i64 100, .int .i64 100, .int .i64 50, .int .i64 50] 3))
  have qt : Hid (Blk ((((w0.alloc (.cells #[.int .i64 2, .int .i64 3, .int .i64 2] 3)).alloc (.cells #[.int .i64 (1 + ((x0 : Nat) : Int) % 3), .int .i64 (((x1 : Nat) : Int) % 4), .int .i64 (1 + ((x2 : Nat) : Int) % 6), .int .i64 (1 + ((x3 : Nat) : Int) % 6), .slice none 0 0, .slice (some ⟨w0.heap.size, 0, none⟩) 3 3, .slice none 0 0] 35)).alloc (.cells #[.int .i64 (-1), .int .i64 0, .int .i64 1, .int .i64 1] 3)).alloc (.cells #[.int .i64 100, .int .i64 100, .int .i64 50, .int .i64 50] 3)) (w0.heap.size + 1 + 1 + 1) 3 #[.int .i64 100, .int .i64 100, .int .i64 50, .int .i64 50]) := κ (Rul6.blk_at (w := (((w0.alloc (.cells #[.int .i64 2, .int .i64 3, .int .i64 2] 3)).alloc (.cells #[.int .i64 (1 + ((x0 : Nat) : Int) % 3), .int .i64 (((x1 : Nat) : Int) % 4), .int .i64 (1 + ((x2 : Nat) : Int) % 6), .int .i64 (1 + ((x3 : Nat) : Int) % 6), .slice none 0 0, .slice (some ⟨w0.heap.size, 0, none⟩) 3 3, .slice none 0 0] 35)).alloc (.cells #[.int .i64 (-1), .int .i64 0, .int .i64 1, .int .i64 1] 3))) (by simp))
  have lC : Hid (w.heap.size ≤ w0.heap.size + 1) := κ (by have := b0.out.size; omega)
  have lB : Hid (w.heap.size ≤ w0.heap.size) := κ b0.out.size
  clear v1 v2 v3 v4 z0 b0 HT R R0 R1 R2 R3 l0
  generalize ((((w0.alloc (.cells #[.int .i64 2, .int .i64 3, .int .i64 2] 3)).alloc (.cells #[.int .i64 (1 + ((x0 : Nat) : Int) % 3), .int .i64 (((x1 : Nat) : Int) % 4), .int .i64 (1 + ((x2 : Nat) : Int) % 6), .int .i64 (1 + ((x3 : Nat) : Int) % 6), .slice none 0 0, .slice (some ⟨w0.heap.size, 0, none⟩) 3 3, .slice none 0 0] 35)).alloc (.cells #[.int .i64 (-1), .int .i64 0, .int .i64 1, .int .i64 1] 3)).alloc (.cells #[.int .i64 100, .int .i64 100, .int .i64 50, .int .i64 50] 3)) = wA at z4 b4 qB zC qp qt ⊢
  generalize w0.heap.size + 1 + 1 + 1 = gt at qt ⊢
  generalize w0.heap.size + 1 + 1 = gp at qp ⊢
  generalize w0.heap.size + 1 = gC at zC lC ⊢
  generalize w0.heap.size = gB at zC qB lB ⊢
  obtain ⟨i0, hi0, hz0, hz1, hz2⟩ := info_parts rnode_info
  go_wp2_with fail
  go_loopg [6] 4 (fun g s6 w' => ∃ (i : Nat) (An : Option Addr) (cn : Nat), i + g = 4 ∧ s6 = .int .i64 i ∧ Hid (Blk w' gC 35 #[.int .i64 (1 + ((x0 : Nat) : Int) % 3), .int .i64 (((x1 : Nat) : Int) % 4), .int .i64 (1 + ((x2 : Nat) : Int) % 6), .int .i64 (1 + ((x3 : Nat) : Int) % 6), .slice An i cn, .slice (some ⟨gB, 0, none⟩) 3 3, .slice none 0 0]) ∧ Hid (World.ownsRow w' w.heap.size 61 2 (.slice An i cn) i (nds ((cfN l).take i))) ∧ Hid (Blk w' gB 3 #[.int .i64 2, .int .i64 3, .int .i64 2]) ∧ Hid (Blk w' gp 3 #[.int .i64 (-1), .int .i64 0, .int .i64 1, .int .i64 1]) ∧ Hid (Blk w' gt 3 #[.int .i64 100, .int .i64 100, .int .i64 50, .int .i64 50]) ∧ Hid (Blk w' gR 38 #[.int .i64 0, .int .i64 0, .int .i64 0, .int .i64 0, .slice none 0 0, .slice none 0 0, .slice none 0 0, .slice none 0 0, .slice none 0 0]) ∧ Hid (Below w.heap.size w w'))
  case atStart => exact ⟨0, none, 0, by omega, rfl, zC, κ (World.ownsRow_nil _ _ _ _), qB, qp, qt, z4, b4⟩
  case round =>
    clear zC qB qp qt z4 b4
    obtain ⟨i, An, cn, hig, rfl, zC, oN, qB, qp, qt, z4, b4⟩ := hrel
    rename World => wr
    by_cases hlt : i < 4
    · obtain ⟨g8, rfl⟩ : ∃ g8, gk = g8 + 1 := ⟨gk - 1, by omega⟩
      have t0 : decide ((i : Int) < 4) = true := decide_eq_true (by omega)
      have hpc := (qp.out.cell i).trans (pa_at hlt)
      have htc := (qt.out.cell i).trans (ti_at hlt)
      have hat := κ ((rat_any l A c (4 + i) wr.drew (κ (Rd.below' hl.out b4.out.drew b4.out.drew.size)) (by omega) (by omega)))
      have hN := κ (cfN_at l hlt)
      have hti := ti_in hlt
      have hlti : ((i : Nat) : Int) < 4 := by omega
      have h4i : wrap64 (4 + (i : Int)) = ((4 + i : Nat) : Int) := by unfold wrap64; omega
      have h4k : IntKind.i64.wrap (4 + (i : Int)) = ((4 + i : Nat) : Int) := by rw [IntKind.wrap_i64]; omega
      rw [bt_nb] at hat
      have hx := nb_lt l (4 + i)
      have hpre : Hid (nds ((cfN l).take (i + 1)) = nds ((cfN l).take i) ++ [.int .i64 (nP (cfN l) i), .int .i64 (nC (cfN l) i)]) := by show _ = _; rw [take_snoc (show i < (cfN l).length from hlt), nds_snoc]
      rw [hN.out.1, hN.out.2] at hpre
      clear hN
      generalize paF i = pa at hpc hpre
      generalize tiF i = ti at htc hti hpre
      generalize nb l (4 + i) = x at hat hx hpre
      have hwv : wrap64 (ti * (1 + (x : Int))) = ti * (1 + (x : Int)) := by rcases hti with rfl | rfl <;> (unfold wrap64; omega)
      have h1x : IntKind.i64.wrap (1 + (x : Int)) = 1 + (x : Int) := by rw [IntKind.wrap_i64]; omega
      have HTI := κ hti
      generalize hv : ti * (1 + (x : Int)) = v at hwv hpre
      have HV := κ hv
      have hvb : 0 ≤ v ∧ v ≤ 25700 := by rw [← hv]; rcases hti with rfl | rfl <;> omega
      have hwk : IntKind.i64.wrap v = v := by rw [IntKind.wrap_i64]; omega
      have HVE : IntKind.i64.wrap (ti * (1 + (x : Int))) = v := by rw [hv]; exact hwk
      clear hti
      go_upto_region 7 with fail
      have HT : Hid (wr.drew.cell? ⟨gC, 4, none⟩ = some (.slice An i cn) ∧ wr.drew.cell? ⟨gp, i, none⟩ = some (.int .i64 pa) ∧ wr.drew.cell? ⟨gt, i, none⟩ = some (.int .i64 ti)) := κ ⟨zC.out.cell 4, hpc, htc⟩
      refine wp_region_noPanic ?_
      refine wp_region_L (T := (fun w' => w'.cell? ⟨gC, 4, none⟩ = some (.slice An i cn) ∧ w'.cell? ⟨gp, i, none⟩ = some (.int .i64 pa) ∧ w'.cell? ⟨gt, i, none⟩ = some (.int .i64 ti))) (st := [20]) (by kernel_rfl) ?_
      refine wpL_word (i := 0) (v := ?_) rfl (by kernel_rfl) (fun _ _ _ h => h) (by kernel_rfl) _ _ _ _ (by kernel_rfl) (by kernel_rfl) (Or.inl ⟨by rfl, ?_⟩) (fun _ => HT.out) ?_
      rotate_left
      · intro w' _
        go_simp
        try with_reducible rfl
      (try simp only [Act.put, List.getElem_toArray, List.getElem_cons_succ, List.getElem_cons_zero, List.setIfInBounds_toArray, List.set_cons_zero, List.set_cons_succ])
      refine wpL_load (i := 1) (v := ?_) rfl (by kernel_rfl) (fun _ _ _ h => h) (by kernel_rfl) (by kernel_rfl) _ _ _ _ (by kernel_rfl) (by kernel_rfl) (Or.inl ⟨by rfl, ?_⟩) (by kernel_rfl) HT.out ?_
      rotate_left
      · intro w' hS
        (try dsimp only at hS)
        obtain ⟨n1, n2, n3⟩ := hS
        go_simp
        try with_reducible rfl
      (try simp only [Act.put, List.getElem_toArray, List.getElem_cons_succ, List.getElem_cons_zero, List.setIfInBounds_toArray, List.set_cons_zero, List.set_cons_succ])
      refine wpL_word (i := 2) (v := ?_) rfl (by kernel_rfl) (fun _ _ _ h => h) (by kernel_rfl) _ _ _ _ (by kernel_rfl) (by kernel_rfl) (Or.inl ⟨by rfl, ?_⟩) (fun _ => HT.out) ?_
      rotate_left
      · intro w' _
        go_simp
        try with_reducible rfl
      (try simp only [Act.put, List.getElem_toArray, List.getElem_cons_succ, List.getElem_cons_zero, List.setIfInBounds_toArray, List.set_cons_zero, List.set_cons_succ])
      refine wpL_word (i := 3) (v := ?_) rfl (by kernel_rfl) (fun _ _ _ h => h) (by kernel_rfl) _ _ _ _ (by kernel_rfl) (by kernel_rfl) (Or.inl ⟨by rfl, ?_⟩) (fun _ => HT.out) ?_
      rotate_left
      · intro w' _
        go_simp
        try with_reducible rfl
      (try simp only [Act.put, List.getElem_toArray, List.getElem_cons_succ, List.getElem_cons_zero, List.setIfInBounds_toArray, List.set_cons_zero, List.set_cons_succ])
      refine wpL_word (i := 4) (v := ?_) rfl (by kernel_rfl) (fun _ _ _ h => h) (by kernel_rfl) _ _ _ _ (by kernel_rfl) (by kernel_rfl) (Or.inl ⟨by rfl, ?_⟩) (fun _ => HT.out) ?_
      rotate_left
      · intro w' _
        go_simp
        try with_reducible rfl
      (try simp only [Act.put, List.getElem_toArray, List.getElem_cons_succ, List.getElem_cons_zero, List.setIfInBounds_toArray, List.set_cons_zero, List.set_cons_succ])
      refine wpL_load (i := 5) (v := ?_) rfl (by kernel_rfl) (fun _ _ _ h => h) (by kernel_rfl) (by kernel_rfl) _ _ _ _ (by kernel_rfl) (by kernel_rfl) (Or.inl ⟨by rfl, ?_⟩) (by kernel_rfl) HT.out ?_
      rotate_left
      · intro w' hS
        (try dsimp only at hS)
        obtain ⟨n1, n2, n3⟩ := hS
        go_simp
        try with_reducible rfl
      (try simp only [Act.put, List.getElem_toArray, List.getElem_cons_succ, List.getElem_cons_zero, List.setIfInBounds_toArray, List.set_cons_zero, List.set_cons_succ])
      refine wpL_word (i := 6) (v := ?_) rfl (by kernel_rfl) (fun _ _ _ h => h) (by kernel_rfl) _ _ _ _ (by kernel_rfl) (by kernel_rfl) (Or.inl ⟨by rfl, ?_⟩) (fun _ => HT.out) ?_
      rotate_left
      · intro w' _
        go_simp
        try with_reducible rfl
      (try simp only [Act.put, List.getElem_toArray, List.getElem_cons_succ, List.getElem_cons_zero, List.setIfInBounds_toArray, List.set_cons_zero, List.set_cons_succ])
      refine wpL_word (i := 7) (v := ?_) rfl (by kernel_rfl) (fun _ _ _ h => h) (by kernel_rfl) _ _ _ _ (by kernel_rfl) (by kernel_rfl) (Or.inl ⟨by rfl, ?_⟩) (fun _ => HT.out) ?_
      rotate_left
      · intro w' _
        go_simp
        try with_reducible rfl
      (try simp only [Act.put, List.getElem_toArray, List.getElem_cons_succ, List.getElem_cons_zero, List.setIfInBounds_toArray, List.set_cons_zero, List.set_cons_succ])
      refine wpL_word (i := 8) (v := ?_) rfl (by kernel_rfl) (fun _ _ _ h => h) (by kernel_rfl) _ _ _ _ (by kernel_rfl) (by kernel_rfl) (Or.inl ⟨by rfl, ?_⟩) (fun _ => HT.out) ?_
      rotate_left
      · intro w' _
        go_simp
        try with_reducible rfl
      (try simp only [Act.put, List.getElem_toArray, List.getElem_cons_succ, List.getElem_cons_zero, List.setIfInBounds_toArray, List.set_cons_zero, List.set_cons_succ])
      refine wpL_load (i := 9) (v := ?_) rfl (by kernel_rfl) (fun _ _ _ h => h) (by kernel_rfl) (by kernel_rfl) _ _ _ _ (by kernel_rfl) (by kernel_rfl) (Or.inl ⟨by rfl, ?_⟩) (by kernel_rfl) HT.out ?_
      rotate_left
      · intro w' hS
        (try dsimp only at hS)
        obtain ⟨n1, n2, n3⟩ := hS
        go_simp
        try with_reducible rfl
      (try simp only [Act.put, List.getElem_toArray, List.getElem_cons_succ, List.getElem_cons_zero, List.setIfInBounds_toArray, List.set_cons_zero, List.set_cons_succ])
      refine wpL_word (i := 10) (v := ?_) rfl (by kernel_rfl) (fun _ _ _ h => h) (by kernel_rfl) _ _ _ _ (by kernel_rfl) (by kernel_rfl) (Or.inl ⟨by rfl, ?_⟩) (fun _ => HT.out) ?_
      rotate_left
      · intro w' _
        go_simp
        try with_reducible rfl
      (try simp only [Act.put, List.getElem_toArray, List.getElem_cons_succ, List.getElem_cons_zero, List.setIfInBounds_toArray, List.set_cons_zero, List.set_cons_succ])
      refine wpL_word (i := 11) (v := ?_) rfl (by kernel_rfl) (fun _ _ _ h => h) (by kernel_rfl) _ _ _ _ (by kernel_rfl) (by kernel_rfl) (Or.inl ⟨by rfl, ?_⟩) (fun _ => HT.out) ?_
      rotate_left
      · intro w' _
        go_simp
        try with_reducible rfl
      (try simp only [Act.put, List.getElem_toArray, List.getElem_cons_succ, List.getElem_cons_zero, List.setIfInBounds_toArray, List.set_cons_zero, List.set_cons_succ])
      refine wpL_word (i := 12) (v := ?_) rfl (by kernel_rfl) (fun _ _ _ h => h) (by kernel_rfl) _ _ _ _ (by kernel_rfl) (by kernel_rfl) (Or.inl ⟨by rfl, ?_⟩) (fun _ => HT.out) ?_
      rotate_left
      · intro w' _
        go_simp
        try with_reducible rfl
      (try simp only [Act.put, List.getElem_toArray, List.getElem_cons_succ, List.getElem_cons_zero, List.setIfInBounds_toArray, List.set_cons_zero, List.set_cons_succ])
      refine wpL_next (n := 13) (by kernel_rfl) rfl (fun K' hK => ?_)
      go_simp
      (try rw [h4k])
      refine hat.out.mono ?_
      rintro e _ ⟨rfl, rfl⟩
      have bD : Hid (Below w.heap.size w wr.drew) := κ b4.out.drew
      have zD : Hid (Blk wr.drew gC 35 #[.int .i64 (1 + ((x0 : Nat) : Int) % 3), .int .i64 (((x1 : Nat) : Int) % 4), .int .i64 (1 + ((x2 : Nat) : Int) % 6), .int .i64 (1 + ((x3 : Nat) : Int) % 6), .slice An i cn, .slice (some ⟨gB, 0, none⟩) 3 3, .slice none 0 0]) := zC
      have oD : Hid (World.ownsRow wr.drew w.heap.size 61 2 (.slice An i cn) i (nds ((cfN l).take i))) := own_drew oN
      have qBD : Hid (Blk wr.drew gB 3 #[.int .i64 2, .int .i64 3, .int .i64 2]) := qB
      have qpD : Hid (Blk wr.drew gp 3 #[.int .i64 (-1), .int .i64 0, .int .i64 1, .int .i64 1]) := qp
      have qtD : Hid (Blk wr.drew gt 3 #[.int .i64 100, .int .i64 100, .int .i64 50, .int .i64 50]) := qt
      have zRD : Hid (Blk wr.drew gR 38 #[.int .i64 0, .int .i64 0, .int .i64 0, .int .i64 0, .slice none 0 0, .slice none 0 0, .slice none 0 0, .slice none 0 0, .slice none 0 0]) := z4
      refine hK.out _ _ HT.out ?_
      clear hK K' zC oN qB qp qt z4 b4 hat
      generalize wr.drew = wD at HT bD zD oD qBD qpD qtD zRD ⊢
      (try simp only [Act.put, List.getElem_toArray, List.getElem_cons_succ, List.getElem_cons_zero, List.setIfInBounds_toArray, List.set_cons_zero, List.set_cons_succ])
      refine wpL_word (i := 14) (v := ?_) rfl (by kernel_rfl) (fun _ _ _ h => h) (by kernel_rfl) _ _ _ _ (by kernel_rfl) (by kernel_rfl) (Or.inl ⟨by rfl, ?_⟩) (fun _ => HT.out) ?_
      rotate_left
      · intro w' _
        go_simp
        try with_reducible rfl
      (try simp only [Act.put, List.getElem_toArray, List.getElem_cons_succ, List.getElem_cons_zero, List.setIfInBounds_toArray, List.set_cons_zero, List.set_cons_succ])
      refine wpL_word (i := 15) (v := ?_) rfl (by kernel_rfl) (fun _ _ _ h => h) (by kernel_rfl) _ _ _ _ (by kernel_rfl) (by kernel_rfl) (Or.inl ⟨by rfl, ?_⟩) (fun _ => HT.out) ?_
      rotate_left
      · intro w' _
        go_simp
        try with_reducible rfl
      (try simp only [Act.put, List.getElem_toArray, List.getElem_cons_succ, List.getElem_cons_zero, List.setIfInBounds_toArray, List.set_cons_zero, List.set_cons_succ])
      refine wpL_word (i := 16) (v := ?_) rfl (by kernel_rfl) (fun _ _ _ h => h) (by kernel_rfl) _ _ _ _ (by kernel_rfl) (by kernel_rfl) (Or.inl ⟨by rfl, ?_⟩) (fun _ => HT.out) ?_
      rotate_left
      · intro w' _
        go_simp
        try with_reducible rfl
      (try simp only [Act.put, List.getElem_toArray, List.getElem_cons_succ, List.getElem_cons_zero, List.setIfInBounds_toArray, List.set_cons_zero, List.set_cons_succ])
      refine wpL_next (n := 17) (by kernel_rfl) rfl (fun K' hK => ?_)
      go_simp
      have hu : Below wD.heap.size wD (wD.alloc (.cells #[.int .i64 pa, .int .i64 v] 61)) := (Below.refl _ _).alloc (Nat.le_refl _) _
      have bE := κ (Rul1.below_step bD.out hu)
      have zE := κ (zD.out.below' hu)
      have oE := own_below oD hu
      have qBE := κ (qBD.out.below' hu)
      have qpE := κ (qpD.out.below' hu)
      have qtE := κ (qtD.out.below' hu)
      have zRE := κ (zRD.out.below' hu)
      have R5 : Hid (Rd (wD.alloc (.cells #[.int .i64 pa, .int .i64 v] 61)) (wD.alloc (.cells #[.int .i64 pa, .int .i64 v] 61)).heap.size (some ⟨wD.heap.size, 0, none⟩) [.int .i64 pa, .int .i64 v]) := κ (rd_new rfl)
      have HTE : Hid ((wD.alloc (.cells #[.int .i64 pa, .int .i64 v] 61)).cell? ⟨gC, 4, none⟩ = some (.slice An i cn) ∧ (wD.alloc (.cells #[.int .i64 pa, .int .i64 v] 61)).cell? ⟨gp, i, none⟩ = some (.int .i64 pa) ∧ (wD.alloc (.cells #[.int .i64 pa, .int .i64 v] 61)).cell? ⟨gt, i, none⟩ = some (.int .i64 ti)) := κ ⟨zE.out.cell 4, (qpE.out.cell i).trans ((qpD.out.cell i).symm.trans HT.out.2.1), (qtE.out.cell i).trans ((qtD.out.cell i).symm.trans HT.out.2.2)⟩
      clear hu bD zD oD qBD qpD qtD zRD HT
      generalize wD.alloc (.cells #[.int .i64 pa, .int .i64 v] 61) = wE at bE zE oE qBE qpE qtE zRE R5 HTE ⊢
      generalize wD.heap.size = gQ at R5 ⊢
      refine hK.out _ _ HTE.out ?_
      clear hK K'
      (try simp only [Act.put, List.getElem_toArray, List.getElem_cons_succ, List.getElem_cons_zero, List.setIfInBounds_toArray, List.set_cons_zero, List.set_cons_succ])
      obtain ⟨n6, hn6⟩ : ∃ k, k = i + 1 := ⟨_, rfl⟩
      have HN6 := κ hn6
      clear hn6
      have Z5 : w.heap.size ≤ wE.heap.size := bE.out.size
      refine wpL_next (n := 18) (by kernel_rfl) rfl (fun K' hK => ?_)
      refine step_appA oE R5 HN6.out rfl _ _ _ rfl i0 (.agg #[.int .i64 0, .int .i64 0]) 16 Tryd.underlying32 hi0 hz0 hz1 hz2 rfl (by decide) rfl rfl rfl (by simp [Value.oneCell']) (by unfold maxLen; omega) (by omega) Z5 ?_
      intro A6 c6 wG ho6 hg6 hob6
      have zG := κ (blk_own_grown zE.out oE.out (by decide) hg6.out)
      have qBG := κ (blk_own_grown qBE.out oE.out (by decide) hg6.out)
      have qpG := κ (blk_own_grown qpE.out oE.out (by decide) hg6.out)
      have qtG := κ (blk_own_grown qtE.out oE.out (by decide) hg6.out)
      have zRG := κ (blk_own_grown zRE.out oE.out (by decide) hg6.out)
      have bG := κ (grown_below bE.out oE.out hg6.out (Nat.le_refl _) bE.out.size)
      have HTG : Hid (wG.cell? ⟨gC, 4, none⟩ = some (.slice An i cn) ∧ wG.cell? ⟨gp, i, none⟩ = some (.int .i64 pa) ∧ wG.cell? ⟨gt, i, none⟩ = some (.int .i64 ti)) := κ ⟨zG.out.cell 4, (qpG.out.cell i).trans ((qpE.out.cell i).symm.trans HTE.out.2.1), (qtG.out.cell i).trans ((qtE.out.cell i).symm.trans HTE.out.2.2)⟩
      have yG : wG.frozen? ⟨gC, 4, none⟩ = false := zG.out.thaw 4
      have cG : wG.cell? ⟨gC, 4, none⟩ = some (.slice An i cn) := zG.out.cell 4
      refine hK.out _ _ HTG.out ?_
      clear hK K'
      (try simp only [Act.put, List.getElem_toArray, List.getElem_cons_succ, List.getElem_cons_zero, List.setIfInBounds_toArray, List.set_cons_zero, List.set_cons_succ])
      refine wpL_word (i := 19) (v := ?_) rfl (by kernel_rfl) (fun _ _ _ h => h) (by kernel_rfl) _ _ _ _ (by kernel_rfl) (by kernel_rfl) (Or.inl ⟨by rfl, ?_⟩) (fun _ => HTG.out) ?_
      rotate_left
      · intro w' _
        go_simp
        try with_reducible rfl
      (try simp only [Act.put, List.getElem_toArray, List.getElem_cons_succ, List.getElem_cons_zero, List.setIfInBounds_toArray, List.set_cons_zero, List.set_cons_succ])
      refine wpL_late (n := 20) (by kernel_rfl) rfl (by kernel_rfl) (fun K' hK => ?_)
      go_simp
      refine hK.out _ _ ?_
      clear hK K'
      (try simp only [Act.put, List.getElem_toArray, List.getElem_cons_succ, List.getElem_cons_zero, List.setIfInBounds_toArray, List.set_cons_zero, List.set_cons_succ])
      refine wpL_done (by kernel_rfl) ?_ _
      refine NoPanic.normal ?_
      have hob : Hid (Blk (wG.setCell ⟨gC, 4, none⟩ (.slice A6 n6 c6)) gC 35 #[.int .i64 (1 + ((x0 : Nat) : Int) % 3), .int .i64 (((x1 : Nat) : Int) % 4), .int .i64 (1 + ((x2 : Nat) : Int) % 6), .int .i64 (1 + ((x3 : Nat) : Int) % 6), .slice A6 n6 c6, .slice (some ⟨gB, 0, none⟩) 3 3, .slice none 0 0]) := κ (blk_st zG.out 4 _)
      have o7 := κ (own_st ho6.out zG.out (by decide) 4 (.slice A6 n6 c6))
      have qB7 := κ (far_st qBG.out (blk_ne qBG.out zG.out (by decide)) (i := 4) (.slice A6 n6 c6))
      have qp7 := κ (far_st qpG.out (blk_ne qpG.out zG.out (by decide)) (i := 4) (.slice A6 n6 c6))
      have qt7 := κ (far_st qtG.out (blk_ne qtG.out zG.out (by decide)) (i := 4) (.slice A6 n6 c6))
      have zR7 := κ (far_st zRG.out (blk_ne zRG.out zG.out (by decide)) (i := 4) (.slice A6 n6 c6))
      have b7 := κ (bG.out.setCell (p := ⟨gC, 4, none⟩) lC.out (.slice A6 n6 c6))
      rw [← hpre.out] at o7
      clear zG qBG qpG qtG zRG bG HTG yG cG ho6 hg6 hob6 bE zE oE qBE qpE qtE zRE R5 HTE hpre HV HTI hwv hx
      generalize wG.setCell ⟨gC, 4, none⟩ (.slice A6 n6 c6) = w7 at hob o7 qB7 qp7 qt7 zR7 b7 ⊢
      have ei : wrap64 ((i : Int) + 1) = (i : Int) + 1 := by unfold wrap64; omega
      clear hpc htc h4i h4k hv hvb hwk h1x HVE hlti t0 Z5
      go_wp2_with fail
      go_roundg g8
      case measure => omega
      case rel =>
        have hn7 := HN6.out
        subst hn7
        exact ⟨i + 1, A6, c6, by omega, by rw [Int.natCast_add]; rfl, hob, o7, qB7, qp7, qt7, zR7, b7⟩
    · have t0 : decide ((i : Int) < 4) = false := decide_eq_false (by omega)
      obtain rfl : i = 4 := by omega
      have hu : Below wr.heap.size wr (wr.alloc (.cells #[.int .i64 100, .int .i64 50, .int .i64 3000, .float .f64 4591870180066957722, .int .i64 10, .int .i64 1000, .int .i64 10000, .float .f64 4602678819172646912] 64)) := (Below.refl _ _).alloc (Nat.le_refl _) _
      have zA := κ (zC.out.below' hu)
      have oA := own_below oN hu
      have qA := κ (qB.out.below' hu)
      have rA := κ (z4.out.below' hu)
      have bA := κ (Rul1.below_step b4.out hu)
      have yA := κ (Blk.fresh wr 64 #[.int .i64 100, .int .i64 50, .int .i64 3000, .float .f64 4591870180066957722, .int .i64 10, .int .i64 1000, .int .i64 10000, .float .f64 4602678819172646912])
      have c6 : (wr.alloc (.cells #[.int .i64 100, .int .i64 50, .int .i64 3000, .float .f64 4591870180066957722, .int .i64 10, .int .i64 1000, .int .i64 10000, .float .f64 4602678819172646912] 64)).cell? ⟨gC, 6, none⟩ = some (.slice none 0 0) := zA.out.cell 6
      have y6 : (wr.alloc (.cells #[.int .i64 100, .int .i64 50, .int .i64 3000, .float .f64 4591870180066957722, .int .i64 10, .int .i64 1000, .int .i64 10000, .float .f64 4602678819172646912] 64)).frozen? ⟨gC, 6, none⟩ = false := zA.out.thaw 6
      clear hu zC oN qB qp qt z4 b4 lB
      go_upto_region 9 with fail
      clear c6 y6
      generalize wr.alloc (.cells #[.int .i64 100, .int .i64 50, .int .i64 3000, .float .f64 4591870180066957722, .int .i64 10, .int .i64 1000, .int .i64 10000, .float .f64 4602678819172646912] 64) = wA at zA oA qA rA bA yA ⊢
      generalize wr.heap.size = gY at yA ⊢
      have zB : Hid (Blk (wA.setCell ⟨gC, 6, none⟩ (.slice (some ⟨gY, 0, none⟩) 2 2)) gC 35 #[.int .i64 (1 + ((x0 : Nat) : Int) % 3), .int .i64 (((x1 : Nat) : Int) % 4), .int .i64 (1 + ((x2 : Nat) : Int) % 6), .int .i64 (1 + ((x3 : Nat) : Int) % 6), .slice An 4 cn, .slice (some ⟨gB, 0, none⟩) 3 3, .slice (some ⟨gY, 0, none⟩) 2 2]) := κ (blk_st zA.out 6 _)
      have K0 : Hid (Cr l w (wA.setCell ⟨gC, 6, none⟩ (.slice (some ⟨gY, 0, none⟩) 2 2)) An cn gB gY gR) := κ ⟨own_st oA.out zA.out (by decide) 6 _, far_st qA.out (blk_ne qA.out zA.out (by decide)) _, far_st yA.out (blk_ne yA.out zA.out (by decide)) _, far_st rA.out (blk_ne rA.out zA.out (by decide)) _, bA.out.setCell (p := ⟨gC, 6, none⟩) lC.out _⟩
      clear zA oA qA rA bA yA lC
      generalize wA.setCell ⟨gC, 6, none⟩ (.slice (some ⟨gY, 0, none⟩) 2 2) = wB at zB K0 ⊢
      go_cut [7] (fun s7 wx => ∃ gS gL, s7 = .pointer (some ⟨gS, 0, none⟩) ∧ Hid (Blk wx gS 38 #[.int .i64 (1 + ((x0 : Nat) : Int) % 3), .int .i64 (((x1 : Nat) : Int) % 4), .int .i64 (1 + ((x2 : Nat) : Int) % 6), .int .i64 (1 + ((x3 : Nat) : Int) % 6), .slice An 4 cn, .slice (some ⟨gB, 0, none⟩) 3 3, .slice (some ⟨gY, 0, none⟩) 2 2, .slice (some ⟨gL, 0, none⟩) 3 3, .slice none 0 0]) ∧ Hid (Blk wx gL 46 #[.slice none 0 0, .slice none 0 0, .slice none 0 0]) ∧ Hid (Cr l w wx An cn gB gY gR) ∧ Hid (w.heap.size ≤ gS) ∧ Hid (w.heap.size ≤ gL) ∧ Hid (gR ≠ gS))
      case first =>
        refine wp_region_noPanic ?_
        refine wp_region_L (T := (fun w' => w'.cell? ⟨gC, 0, none⟩ = some (.int .i64 (1 + ((x0 : Nat) : Int) % 3)) ∧ w'.cell? ⟨gC, 1, none⟩ = some (.int .i64 (((x1 : Nat) : Int) % 4)) ∧ w'.cell? ⟨gC, 2, none⟩ = some (.int .i64 (1 + ((x2 : Nat) : Int) % 6)) ∧ w'.cell? ⟨gC, 3, none⟩ = some (.int .i64 (1 + ((x3 : Nat) : Int) % 6)) ∧ w'.cell? ⟨gC, 4, none⟩ = some (.slice An 4 cn) ∧ w'.cell? ⟨gC, 5, none⟩ = some (.slice (some ⟨gB, 0, none⟩) 3 3) ∧ w'.cell? ⟨gC, 6, none⟩ = some (.slice (some ⟨gY, 0, none⟩) 2 2))) (st := [4]) (by kernel_rfl) ?_
        have zD : Hid (Blk wB.drew gC 35 #[.int .i64 (1 + ((x0 : Nat) : Int) % 3), .int .i64 (((x1 : Nat) : Int) % 4), .int .i64 (1 + ((x2 : Nat) : Int) % 6), .int .i64 (1 + ((x3 : Nat) : Int) % 6), .slice An 4 cn, .slice (some ⟨gB, 0, none⟩) 3 3, .slice (some ⟨gY, 0, none⟩) 2 2]) := zB
        have KD := κ K0.out.drew
        clear zB K0
        generalize wB.drew = wD at zD KD ⊢
        have HT : Hid (wD.cell? ⟨gC, 0, none⟩ = some (.int .i64 (1 + ((x0 : Nat) : Int) % 3)) ∧ wD.cell? ⟨gC, 1, none⟩ = some (.int .i64 (((x1 : Nat) : Int) % 4)) ∧ wD.cell? ⟨gC, 2, none⟩ = some (.int .i64 (1 + ((x2 : Nat) : Int) % 6)) ∧ wD.cell? ⟨gC, 3, none⟩ = some (.int .i64 (1 + ((x3 : Nat) : Int) % 6)) ∧ wD.cell? ⟨gC, 4, none⟩ = some (.slice An 4 cn) ∧ wD.cell? ⟨gC, 5, none⟩ = some (.slice (some ⟨gB, 0, none⟩) 3 3) ∧ wD.cell? ⟨gC, 6, none⟩ = some (.slice (some ⟨gY, 0, none⟩) 2 2)) := κ ⟨zD.out.cell 0, zD.out.cell 1, zD.out.cell 2, zD.out.cell 3, zD.out.cell 4, zD.out.cell 5, zD.out.cell 6⟩
        have mk := rmk3
        refine wpL_load (i := 0) (v := ?_) rfl (by kernel_rfl) (fun _ _ _ h => h) (by kernel_rfl) (by kernel_rfl) _ _ _ _ (by kernel_rfl) (by kernel_rfl) (Or.inl ⟨by rfl, ?_⟩) (by kernel_rfl) HT.out ?_
        rotate_left
        · intro w' hS
          (try dsimp only at hS)
          obtain ⟨n1, n2, n3, n4, n5, n6, n7⟩ := hS
          go_simp
          try with_reducible rfl
        (try simp only [Act.put, List.getElem_toArray, List.getElem_cons_succ, List.getElem_cons_zero, List.setIfInBounds_toArray, List.set_cons_zero, List.set_cons_succ])
        have zwD := zD
        have KwD := KD
        have HTwD := HT
        clear zD KD HT
        refine wpL_two (m := 1) (n := 3) (by kernel_rfl) rfl rfl ?_ ?_
        · intro K' hK
          go_simp
          have hu : Below wD.heap.size wD (wD.alloc (.cells #[.slice none 0 0, .slice none 0 0, .slice none 0 0] 46)) := (Below.refl _ _).alloc (Nat.le_refl _) _
          have zwE := κ (zwD.out.below' hu)
          have KwE := κ (KwD.out.below hu)
          have fL := κ (Blk.fresh wD 46 #[.slice none 0 0, .slice none 0 0, .slice none 0 0])
          have lL : Hid (w.heap.size ≤ wD.heap.size) := κ KwD.out.b.size
          clear hu zwD KwD HTwD
          generalize wD.alloc (.cells #[.slice none 0 0, .slice none 0 0, .slice none 0 0] 46) = wE at zwE KwE fL ⊢
          generalize wD.heap.size = gL at fL lL ⊢
          have HTwE : Hid (wE.cell? ⟨gC, 0, none⟩ = some (.int .i64 (1 + ((x0 : Nat) : Int) % 3)) ∧ wE.cell? ⟨gC, 1, none⟩ = some (.int .i64 (((x1 : Nat) : Int) % 4)) ∧ wE.cell? ⟨gC, 2, none⟩ = some (.int .i64 (1 + ((x2 : Nat) : Int) % 6)) ∧ wE.cell? ⟨gC, 3, none⟩ = some (.int .i64 (1 + ((x3 : Nat) : Int) % 6)) ∧ wE.cell? ⟨gC, 4, none⟩ = some (.slice An 4 cn) ∧ wE.cell? ⟨gC, 5, none⟩ = some (.slice (some ⟨gB, 0, none⟩) 3 3) ∧ wE.cell? ⟨gC, 6, none⟩ = some (.slice (some ⟨gY, 0, none⟩) 2 2)) := κ ⟨zwE.out.cell 0, zwE.out.cell 1, zwE.out.cell 2, zwE.out.cell 3, zwE.out.cell 4, zwE.out.cell 5, zwE.out.cell 6⟩
          refine hK.out _ _ HTwE.out ?_
          clear hK K'
          (try simp only [Act.put, List.getElem_toArray, List.getElem_cons_succ, List.getElem_cons_zero, List.setIfInBounds_toArray, List.set_cons_zero, List.set_cons_succ])
          refine wpL_word (i := 2) (v := ?_) rfl (by kernel_rfl) (fun _ _ _ h => h) (by kernel_rfl) _ _ _ _ (by kernel_rfl) (by kernel_rfl) (Or.inl ⟨by rfl, ?_⟩) (fun _ => HTwE.out) ?_
          rotate_left
          · intro w' _
            go_simp
            try with_reducible rfl
          (try simp only [Act.put, List.getElem_toArray, List.getElem_cons_succ, List.getElem_cons_zero, List.setIfInBounds_toArray, List.set_cons_zero, List.set_cons_succ])
          refine wpL_next (n := 3) (by kernel_rfl) rfl (fun K' hK => ?_)
          go_simp
          have hu : Below wE.heap.size wE (wE.alloc (.cells #[.int .i64 0, .int .i64 0, .int .i64 0, .int .i64 0, .slice none 0 0, .slice none 0 0, .slice none 0 0, .slice none 0 0, .slice none 0 0] 38)) := (Below.refl _ _).alloc (Nat.le_refl _) _
          have zwF := κ (zwE.out.below' hu)
          have KwF := κ (KwE.out.below hu)
          have fS := κ (Blk.fresh wE 38 #[.int .i64 0, .int .i64 0, .int .i64 0, .int .i64 0, .slice none 0 0, .slice none 0 0, .slice none 0 0, .slice none 0 0, .slice none 0 0])
          have lS : Hid (w.heap.size ≤ wE.heap.size) := κ KwE.out.b.size
          have dS : Hid (gR ≠ wE.heap.size) := κ (by have := KwE.out.r.lt; omega)
          have fL2 := κ (fL.out.below' hu)
          clear fL
          clear hu zwE KwE HTwE
          generalize wE.alloc (.cells #[.int .i64 0, .int .i64 0, .int .i64 0, .int .i64 0, .slice none 0 0, .slice none 0 0, .slice none 0 0, .slice none 0 0, .slice none 0 0] 38) = wF at zwF KwF fS fL2 ⊢
          generalize wE.heap.size = gS at fS lS dS ⊢
          have fL := fL2
          clear fL2
          have HTwF : Hid (wF.cell? ⟨gC, 0, none⟩ = some (.int .i64 (1 + ((x0 : Nat) : Int) % 3)) ∧ wF.cell? ⟨gC, 1, none⟩ = some (.int .i64 (((x1 : Nat) : Int) % 4)) ∧ wF.cell? ⟨gC, 2, none⟩ = some (.int .i64 (1 + ((x2 : Nat) : Int) % 6)) ∧ wF.cell? ⟨gC, 3, none⟩ = some (.int .i64 (1 + ((x3 : Nat) : Int) % 6)) ∧ wF.cell? ⟨gC, 4, none⟩ = some (.slice An 4 cn) ∧ wF.cell? ⟨gC, 5, none⟩ = some (.slice (some ⟨gB, 0, none⟩) 3 3) ∧ wF.cell? ⟨gC, 6, none⟩ = some (.slice (some ⟨gY, 0, none⟩) 2 2)) := κ ⟨zwF.out.cell 0, zwF.out.cell 1, zwF.out.cell 2, zwF.out.cell 3, zwF.out.cell 4, zwF.out.cell 5, zwF.out.cell 6⟩
          refine hK.out _ _ HTwF.out ?_
          clear hK K'
          (try simp only [Act.put, List.getElem_toArray, List.getElem_cons_succ, List.getElem_cons_zero, List.setIfInBounds_toArray, List.set_cons_zero, List.set_cons_succ])
          obtain ⟨s0, s1, s2, s3, s4, s5, s6, s7, s8, y0, y1, y2, y3, y4, y5, y6, y7, y8⟩ := z9_of fS.out
          refine wpL_late (n := 4) (by kernel_rfl) rfl (by kernel_rfl) (fun K' hK => ?_)
          go_simp
          refine hK.out _ _ ?_
          clear hK K'
          (try simp only [Act.put, List.getElem_toArray, List.getElem_cons_succ, List.getElem_cons_zero, List.setIfInBounds_toArray, List.set_cons_zero, List.set_cons_succ])
          refine wpL_done (by kernel_rfl) ?_ _
          refine NoPanic.normal ?_
          clear s0 y0 s1 y1 s2 y2 s3 y3 s4 y4 s5 y5 s6 y6 s7 y7 s8 y8
          have hB := st9_blk (v0 := .int .i64 (1 + ((x0 : Nat) : Int) % 3)) (v1 := .int .i64 (((x1 : Nat) : Int) % 4)) (v2 := .int .i64 (1 + ((x2 : Nat) : Int) % 6)) (v3 := .int .i64 (1 + ((x3 : Nat) : Int) % 6)) (v4 := .slice An 4 cn) (v5 := .slice (some ⟨gB, 0, none⟩) 3 3) (v6 := .slice (some ⟨gY, 0, none⟩) 2 2) (v7 := .slice (some ⟨gL, 0, none⟩) 3 3) (v8 := .slice none 0 0) fS.out
          have hL : Blk (st9 wF gS (.int .i64 (1 + ((x0 : Nat) : Int) % 3)) (.int .i64 (((x1 : Nat) : Int) % 4)) (.int .i64 (1 + ((x2 : Nat) : Int) % 6)) (.int .i64 (1 + ((x3 : Nat) : Int) % 6)) (.slice An 4 cn) (.slice (some ⟨gB, 0, none⟩) 3 3) (.slice (some ⟨gY, 0, none⟩) 2 2) (.slice (some ⟨gL, 0, none⟩) 3 3) (.slice none 0 0)) gL 46 #[.slice none 0 0, .slice none 0 0, .slice none 0 0] := st9_far fL.out (blk_ne fL.out fS.out (by decide))
          have hK : Cr l w (st9 wF gS (.int .i64 (1 + ((x0 : Nat) : Int) % 3)) (.int .i64 (((x1 : Nat) : Int) % 4)) (.int .i64 (1 + ((x2 : Nat) : Int) % 6)) (.int .i64 (1 + ((x3 : Nat) : Int) % 6)) (.slice An 4 cn) (.slice (some ⟨gB, 0, none⟩) 3 3) (.slice (some ⟨gY, 0, none⟩) 2 2) (.slice (some ⟨gL, 0, none⟩) 3 3) (.slice none 0 0)) An cn gB gY gR := KwF.out.st9 fS.out (by decide) (by decide) (by decide) dS.out lS.out
          clear fS fL KwF HTwF zwF
          unfold st9 at hB hL hK
          go_wp2_with fail
          go_meet
          exact ⟨gS, gL, rfl, κ hB, κ hL, κ hK, lS, lL, dS⟩
        · intro K' hK
          go_simp
          have hu : Below wD.heap.size wD (wD.alloc (.cells #[.int .i64 0, .int .i64 0, .int .i64 0, .int .i64 0, .slice none 0 0, .slice none 0 0, .slice none 0 0, .slice none 0 0, .slice none 0 0] 38)) := (Below.refl _ _).alloc (Nat.le_refl _) _
          have zwE := κ (zwD.out.below' hu)
          have KwE := κ (KwD.out.below hu)
          have fS := κ (Blk.fresh wD 38 #[.int .i64 0, .int .i64 0, .int .i64 0, .int .i64 0, .slice none 0 0, .slice none 0 0, .slice none 0 0, .slice none 0 0, .slice none 0 0])
          have lS : Hid (w.heap.size ≤ wD.heap.size) := κ KwD.out.b.size
          have dS : Hid (gR ≠ wD.heap.size) := κ (by have := KwD.out.r.lt; omega)
          clear hu zwD KwD HTwD
          generalize wD.alloc (.cells #[.int .i64 0, .int .i64 0, .int .i64 0, .int .i64 0, .slice none 0 0, .slice none 0 0, .slice none 0 0, .slice none 0 0, .slice none 0 0] 38) = wE at zwE KwE fS ⊢
          generalize wD.heap.size = gS at fS lS dS ⊢
          have HTwE : Hid (wE.cell? ⟨gC, 0, none⟩ = some (.int .i64 (1 + ((x0 : Nat) : Int) % 3)) ∧ wE.cell? ⟨gC, 1, none⟩ = some (.int .i64 (((x1 : Nat) : Int) % 4)) ∧ wE.cell? ⟨gC, 2, none⟩ = some (.int .i64 (1 + ((x2 : Nat) : Int) % 6)) ∧ wE.cell? ⟨gC, 3, none⟩ = some (.int .i64 (1 + ((x3 : Nat) : Int) % 6)) ∧ wE.cell? ⟨gC, 4, none⟩ = some (.slice An 4 cn) ∧ wE.cell? ⟨gC, 5, none⟩ = some (.slice (some ⟨gB, 0, none⟩) 3 3) ∧ wE.cell? ⟨gC, 6, none⟩ = some (.slice (some ⟨gY, 0, none⟩) 2 2)) := κ ⟨zwE.out.cell 0, zwE.out.cell 1, zwE.out.cell 2, zwE.out.cell 3, zwE.out.cell 4, zwE.out.cell 5, zwE.out.cell 6⟩
          refine hK.out _ _ HTwE.out ?_
          clear hK K'
          (try simp only [Act.put, List.getElem_toArray, List.getElem_cons_succ, List.getElem_cons_zero, List.setIfInBounds_toArray, List.set_cons_zero, List.set_cons_succ])
          refine wpL_next (n := 1) (by kernel_rfl) rfl (fun K' hK => ?_)
          go_simp
          have hu : Below wE.heap.size wE (wE.alloc (.cells #[.slice none 0 0, .slice none 0 0, .slice none 0 0] 46)) := (Below.refl _ _).alloc (Nat.le_refl _) _
          have zwF := κ (zwE.out.below' hu)
          have KwF := κ (KwE.out.below hu)
          have fL := κ (Blk.fresh wE 46 #[.slice none 0 0, .slice none 0 0, .slice none 0 0])
          have lL : Hid (w.heap.size ≤ wE.heap.size) := κ KwE.out.b.size
          have fS2 := κ (fS.out.below' hu)
          clear fS
          clear hu zwE KwE HTwE
          generalize wE.alloc (.cells #[.slice none 0 0, .slice none 0 0, .slice none 0 0] 46) = wF at zwF KwF fL fS2 ⊢
          generalize wE.heap.size = gL at fL lL ⊢
          have fS := fS2
          clear fS2
          have HTwF : Hid (wF.cell? ⟨gC, 0, none⟩ = some (.int .i64 (1 + ((x0 : Nat) : Int) % 3)) ∧ wF.cell? ⟨gC, 1, none⟩ = some (.int .i64 (((x1 : Nat) : Int) % 4)) ∧ wF.cell? ⟨gC, 2, none⟩ = some (.int .i64 (1 + ((x2 : Nat) : Int) % 6)) ∧ wF.cell? ⟨gC, 3, none⟩ = some (.int .i64 (1 + ((x3 : Nat) : Int) % 6)) ∧ wF.cell? ⟨gC, 4, none⟩ = some (.slice An 4 cn) ∧ wF.cell? ⟨gC, 5, none⟩ = some (.slice (some ⟨gB, 0, none⟩) 3 3) ∧ wF.cell? ⟨gC, 6, none⟩ = some (.slice (some ⟨gY, 0, none⟩) 2 2)) := κ ⟨zwF.out.cell 0, zwF.out.cell 1, zwF.out.cell 2, zwF.out.cell 3, zwF.out.cell 4, zwF.out.cell 5, zwF.out.cell 6⟩
          refine hK.out _ _ HTwF.out ?_
          clear hK K'
          (try simp only [Act.put, List.getElem_toArray, List.getElem_cons_succ, List.getElem_cons_zero, List.setIfInBounds_toArray, List.set_cons_zero, List.set_cons_succ])
          refine wpL_word (i := 2) (v := ?_) rfl (by kernel_rfl) (fun _ _ _ h => h) (by kernel_rfl) _ _ _ _ (by kernel_rfl) (by kernel_rfl) (Or.inl ⟨by rfl, ?_⟩) (fun _ => HTwF.out) ?_
          rotate_left
          · intro w' _
            go_simp
            try with_reducible rfl
          (try simp only [Act.put, List.getElem_toArray, List.getElem_cons_succ, List.getElem_cons_zero, List.setIfInBounds_toArray, List.set_cons_zero, List.set_cons_succ])
          obtain ⟨s0, s1, s2, s3, s4, s5, s6, s7, s8, y0, y1, y2, y3, y4, y5, y6, y7, y8⟩ := z9_of fS.out
          refine wpL_late (n := 4) (by kernel_rfl) rfl (by kernel_rfl) (fun K' hK => ?_)
          go_simp
          refine hK.out _ _ ?_
          clear hK K'
          (try simp only [Act.put, List.getElem_toArray, List.getElem_cons_succ, List.getElem_cons_zero, List.setIfInBounds_toArray, List.set_cons_zero, List.set_cons_succ])
          refine wpL_done (by kernel_rfl) ?_ _
          refine NoPanic.normal ?_
          clear s0 y0 s1 y1 s2 y2 s3 y3 s4 y4 s5 y5 s6 y6 s7 y7 s8 y8
          have hB := st9_blk (v0 := .int .i64 (1 + ((x0 : Nat) : Int) % 3)) (v1 := .int .i64 (((x1 : Nat) : Int) % 4)) (v2 := .int .i64 (1 + ((x2 : Nat) : Int) % 6)) (v3 := .int .i64 (1 + ((x3 : Nat) : Int) % 6)) (v4 := .slice An 4 cn) (v5 := .slice (some ⟨gB, 0, none⟩) 3 3) (v6 := .slice (some ⟨gY, 0, none⟩) 2 2) (v7 := .slice (some ⟨gL, 0, none⟩) 3 3) (v8 := .slice none 0 0) fS.out
          have hL : Blk (st9 wF gS (.int .i64 (1 + ((x0 : Nat) : Int) % 3)) (.int .i64 (((x1 : Nat) : Int) % 4)) (.int .i64 (1 + ((x2 : Nat) : Int) % 6)) (.int .i64 (1 + ((x3 : Nat) : Int) % 6)) (.slice An 4 cn) (.slice (some ⟨gB, 0, none⟩) 3 3) (.slice (some ⟨gY, 0, none⟩) 2 2) (.slice (some ⟨gL, 0, none⟩) 3 3) (.slice none 0 0)) gL 46 #[.slice none 0 0, .slice none 0 0, .slice none 0 0] := st9_far fL.out (blk_ne fL.out fS.out (by decide))
          have hK : Cr l w (st9 wF gS (.int .i64 (1 + ((x0 : Nat) : Int) % 3)) (.int .i64 (((x1 : Nat) : Int) % 4)) (.int .i64 (1 + ((x2 : Nat) : Int) % 6)) (.int .i64 (1 + ((x3 : Nat) : Int) % 6)) (.slice An 4 cn) (.slice (some ⟨gB, 0, none⟩) 3 3) (.slice (some ⟨gY, 0, none⟩) 2 2) (.slice (some ⟨gL, 0, none⟩) 3 3) (.slice none 0 0)) An cn gB gY gR := KwF.out.st9 fS.out (by decide) (by decide) (by decide) dS.out lS.out
          clear fS fL KwF HTwF zwF
          unfold st9 at hB hL hK
          go_wp2_with fail
          go_meet
          exact ⟨gS, gL, rfl, κ hB, κ hL, κ hK, lS, lL, dS⟩
      case rest =>
        obtain ⟨gS, gL, rfl, s6, l6, K6, hgS, hgL, dRS⟩ := hcut
        rename World => w6
        have m6 : Hid (Ls w.heap.size 46 50 w6 gL (fun _ => none) (fun _ => 0) (lsF l 0)) := κ (Ls.new l6.out)
        obtain ⟨i2, hi2, hx0, hx1, hx2⟩ := info_parts rmsg_info
        obtain ⟨i3, hi3, hy0, hy1, hy2⟩ := info_parts Rul6.int_info6
        clear l6 zB K0
        go_wp2_with fail
        have hcn : cnF l ≤ 30 ∧ cnF l * 4 ≤ l.length - 12 := by unfold cnF; omega
        generalize hcN : cnF l = cN at hcn
        have HCN := κ hcN
        clear hcN
        have HN := κ hcn
        clear hcn
        go_loopg [8, 9] cN (fun g s8 s9 w' => ∃ (j : Nat) (P : Nat → Option Addr) (p : Nat → Nat), j + g = cN ∧ s8 = .int .i64 j ∧ s9 = .int .i64 ((12 + 4 * j : Nat) : Int) ∧ Hid (Ls w.heap.size 46 50 w' gL P p (lsF l j)) ∧ Hid (Blk w' gS 38 #[.int .i64 (1 + ((x0 : Nat) : Int) % 3), .int .i64 (((x1 : Nat) : Int) % 4), .int .i64 (1 + ((x2 : Nat) : Int) % 6), .int .i64 (1 + ((x3 : Nat) : Int) % 6), .slice An 4 cn, .slice (some ⟨gB, 0, none⟩) 3 3, .slice (some ⟨gY, 0, none⟩) 2 2, .slice (some ⟨gL, 0, none⟩) 3 3, .slice none 0 0]) ∧ Hid (Cr l w w' An cn gB gY gR))
        case atStart => exact ⟨0, _, _, by omega, rfl, rfl, m6, s6, K6⟩
        case round =>
          clear m6 s6 K6
          obtain ⟨j, P, p, hjg, rfl, rfl, mr, sr, Kr⟩ := hrel
          rename World => wr
          by_cases hlt : j < cN
          · obtain ⟨g8, rfl⟩ : ∃ g8, gk = g8 + 1 := ⟨gk - 1, by omega⟩
            have hq : 12 + 4 * j + 4 ≤ l.length ∧ j < 30 := by have := HN.out; omega
            obtain ⟨b, o, rfl, -⟩ : ∃ b o, A = some ⟨b, o, none⟩ ∧ True := by
              obtain ⟨b, o, h, _⟩ := Rd.at hl.out (by intro e; have h := congrArg List.length e; rw [bts_len] at h; have h' : l.length = 0 := h; omega)
              exact ⟨b, o, h, trivial⟩
            obtain ⟨k0, hk0⟩ : ∃ k, k = 12 + 4 * j := ⟨_, rfl⟩
            obtain ⟨k1, hk1⟩ : ∃ k, k = k0 + 1 := ⟨_, rfl⟩
            obtain ⟨k2, hk2⟩ : ∃ k, k = k0 + 2 := ⟨_, rfl⟩
            obtain ⟨k3, hk3⟩ : ∃ k, k = k0 + 3 := ⟨_, rfl⟩
            have lr := κ (Rd.below' hl.out Kr.out.b Kr.out.b.size)
            have e0c : wr.cell? ⟨b, o + k0, none⟩ = some (.int .u8 (nb l k0)) := by_c lr.out (by omega)
            have e1c : wr.cell? ⟨b, o + k1, none⟩ = some (.int .u8 (nb l k1)) := by_c lr.out (by omega)
            have e2c : wr.cell? ⟨b, o + k2, none⟩ = some (.int .u8 (nb l k2)) := by_c lr.out (by omega)
            have e3c : wr.cell? ⟨b, o + k3, none⟩ = some (.int .u8 (nb l k3)) := by_c lr.out (by omega)
            have i0l : ((k0 : Nat) : Int) < ((l.length : Nat) : Int) := by omega
            have i1l : ((k1 : Nat) : Int) < ((l.length : Nat) : Int) := by omega
            have i2l : ((k2 : Nat) : Int) < ((l.length : Nat) : Int) := by omega
            have i3l : ((k3 : Nat) : Int) < ((l.length : Nat) : Int) := by omega
            have W1 : IntKind.i64.wrap ((k0 : Int) + 1) = ((k1 : Nat) : Int) := by rw [IntKind.wrap_i64]; omega
            have W2 : IntKind.i64.wrap ((k0 : Int) + 2) = ((k2 : Nat) : Int) := by rw [IntKind.wrap_i64]; omega
            have W3 : IntKind.i64.wrap ((k0 : Int) + 3) = ((k3 : Nat) : Int) := by rw [IntKind.wrap_i64]; omega
            have hw3k : wrap64 ((k0 : Int) + 3) = ((k3 : Nat) : Int) := by unfold wrap64; omega
            have t1 : decide (((k3 : Nat) : Int) < ((l.length : Nat) : Int)) = true := decide_eq_true i3l
            have t2 : decide (((j : Nat) : Int) < 30) = true := decide_eq_true (by omega)
            have hmB : Hid (mB l j = mF (nb l k0) (nb l k1) (nb l k2) (nb l k3)) := κ (by rw [hk3, hk2, hk1, hk0]; show mF (nb l (12 + j * 4)) (nb l (12 + j * 4 + 1)) (nb l (12 + j * 4 + 2)) (nb l (12 + j * 4 + 3)) = _; rw [Nat.mul_comm])
            have hwF : Hid (whF l j = nb l k0 / 16 % 3) := κ (by rw [hk0]; show nb l (12 + j * 4) / 16 % 3 = _; rw [Nat.mul_comm])
            have hm0 := nb_lt l k0
            generalize nb l k0 = m0 at *
            have hm1 := nb_lt l k1
            generalize nb l k1 = m1 at *
            have hm2 := nb_lt l k2
            generalize nb l k2 = m2 at *
            have hm3 := nb_lt l k3
            generalize nb l k3 = m3 at *
            have HM4 := κ (And.intro hm0 (And.intro hm1 (And.intro hm2 hm3)))
            have HK4 := κ hk0
            rw [← hk0]
            clear hm0 hm1 hm2 hm3 hk0 hk1 hk2 hk3 hq lr
            have hv0 : wrap64 ((m0 : Nat) : Int) = (m0 : Int) := by have := HM4.out.1; unfold wrap64; omega
            have hv2 : wrap64 ((m0 : Int) / 16) = (m0 : Int) / 16 := by have := HM4.out.1; unfold wrap64; omega
            go_upto_region 15 with fail
            have hwi : ((m0 : Nat) : Int) / 16 % 3 = ((whF l j : Nat) : Int) := by rw [hwF.out]; omega
            rw [hwi]
            have hw3 : Hid (whF l j < 3) := κ (wh_lt l j)
            clear hwi hwF hv0 hv2 hw3k t1 t2
            generalize hwh : whF l j = wh at hw3 ⊢
            have HW := κ hwh
            clear hwh
            have hw3i : ((wh : Nat) : Int) < 3 := by have := hw3.out; omega
            have hw3n : wh < 3 := hw3.out
            have V0 : IntKind.i64.wrap ((m0 : Nat) : Int) = ((m0 : Nat) : Int) := by rw [IntKind.wrap_i64]; have := HM4.out; omega
            have V1 : IntKind.i64.wrap ((m1 : Nat) : Int) = ((m1 : Nat) : Int) := by rw [IntKind.wrap_i64]; have := HM4.out; omega
            have V2 : IntKind.i64.wrap ((m2 : Nat) : Int) = ((m2 : Nat) : Int) := by rw [IntKind.wrap_i64]; have := HM4.out; omega
            have V3 : IntKind.i64.wrap ((m3 : Nat) : Int) = ((m3 : Nat) : Int) := by rw [IntKind.wrap_i64]; have := HM4.out; omega
            have ec : Hid (wr.cell? ⟨b, o + k0, none⟩ = some (.int .u8 m0) ∧ wr.cell? ⟨b, o + k1, none⟩ = some (.int .u8 m1) ∧ wr.cell? ⟨b, o + k2, none⟩ = some (.int .u8 m2) ∧ wr.cell? ⟨b, o + k3, none⟩ = some (.int .u8 m3)) := κ ⟨e0c, e1c, e2c, e3c⟩
            have hbl : Hid (b < w.heap.size) := κ (by have h := Rd.at hl.out (by intro e; have h := congrArg List.length e; rw [bts_len] at h; have h' : l.length = 0 := h; omega); obtain ⟨b', o', h1, h2, _⟩ := h; injection h1 with h1; injection h1 with h1 _; rw [h1]; exact h2)
            clear e0c e1c e2c e3c
            refine wp_region_noPanic ?_
            refine wp_region_L (T := (fun w' => w'.cell? ⟨gS, 7, none⟩ = some (.slice (some ⟨gL, 0, none⟩) 3 3) ∧ w'.cell? ⟨gL, wh, none⟩ = some (.slice (P wh) (lsF l j wh).length (p wh)) ∧ w'.cell? ⟨b, o + k0, none⟩ = some (.int .u8 m0) ∧ w'.cell? ⟨b, o + k1, none⟩ = some (.int .u8 m1) ∧ w'.cell? ⟨b, o + k2, none⟩ = some (.int .u8 m2) ∧ w'.cell? ⟨b, o + k3, none⟩ = some (.int .u8 m3))) (st := [35]) (by kernel_rfl) ?_
            have mD := κ (Ls_drew mr.out)
            have sD : Hid (Blk wr.drew gS 38 #[.int .i64 (1 + ((x0 : Nat) : Int) % 3), .int .i64 (((x1 : Nat) : Int) % 4), .int .i64 (1 + ((x2 : Nat) : Int) % 6), .int .i64 (1 + ((x3 : Nat) : Int) % 6), .slice An 4 cn, .slice (some ⟨gB, 0, none⟩) 3 3, .slice (some ⟨gY, 0, none⟩) 2 2, .slice (some ⟨gL, 0, none⟩) 3 3, .slice none 0 0]) := sr
            have KD := κ Kr.out.drew
            have cD : Hid (∀ W, Below w.heap.size wr.drew W → (W.cell? ⟨b, o + k0, none⟩ = some (.int .u8 m0) ∧ W.cell? ⟨b, o + k1, none⟩ = some (.int .u8 m1) ∧ W.cell? ⟨b, o + k2, none⟩ = some (.int .u8 m2) ∧ W.cell? ⟨b, o + k3, none⟩ = some (.int .u8 m3))) := κ (fun W hb => ⟨(hb.cell (p := ⟨b, o + k0, none⟩) hbl.out).trans ec.out.1, (hb.cell (p := ⟨b, o + k1, none⟩) hbl.out).trans ec.out.2.1, (hb.cell (p := ⟨b, o + k2, none⟩) hbl.out).trans ec.out.2.2.1, (hb.cell (p := ⟨b, o + k3, none⟩) hbl.out).trans ec.out.2.2.2⟩)
            clear mr sr Kr ec
            have bl0 : Hid (Below w.heap.size wr.drew wr.drew) := κ (Below.refl _ _)
            have lz : Hid (w.heap.size ≤ wr.drew.heap.size) := κ KD.out.b.size
            have HT : Hid (wr.drew.cell? ⟨gS, 7, none⟩ = some (.slice (some ⟨gL, 0, none⟩) 3 3) ∧ wr.drew.cell? ⟨gL, wh, none⟩ = some (.slice (P wh) (lsF l j wh).length (p wh)) ∧ wr.drew.cell? ⟨b, o + k0, none⟩ = some (.int .u8 m0) ∧ wr.drew.cell? ⟨b, o + k1, none⟩ = some (.int .u8 m1) ∧ wr.drew.cell? ⟨b, o + k2, none⟩ = some (.int .u8 m2) ∧ wr.drew.cell? ⟨b, o + k3, none⟩ = some (.int .u8 m3)) := κ ⟨sD.out.cell 7, Ls.cell mD.out hw3n, cD.out _ bl0.out⟩
            generalize wr.drew = wD at mD sD KD cD bl0 lz HT ⊢
            refine wpL_word (i := 0) (v := ?_) rfl (by kernel_rfl) (fun _ _ _ h => h) (by kernel_rfl) _ _ _ _ (by kernel_rfl) (by kernel_rfl) (Or.inl ⟨by rfl, ?_⟩) (fun _ => HT.out) ?_
            rotate_left
            · intro w' _
              go_simp
              try with_reducible rfl
            (try simp only [Act.put, List.getElem_toArray, List.getElem_cons_succ, List.getElem_cons_zero, List.setIfInBounds_toArray, List.set_cons_zero, List.set_cons_succ])
            refine wpL_load (i := 1) (v := ?_) rfl (by kernel_rfl) (fun _ _ _ h => h) (by kernel_rfl) (by kernel_rfl) _ _ _ _ (by kernel_rfl) (by kernel_rfl) (Or.inl ⟨by rfl, ?_⟩) (by kernel_rfl) HT.out ?_
            rotate_left
            · intro w' hS
              (try dsimp only at hS)
              obtain ⟨n1, n2, n3, n4, n5, n6⟩ := hS
              go_simp
              try with_reducible rfl
            (try simp only [Act.put, List.getElem_toArray, List.getElem_cons_succ, List.getElem_cons_zero, List.setIfInBounds_toArray, List.set_cons_zero, List.set_cons_succ])
            refine wpL_word (i := 2) (v := ?_) rfl (by kernel_rfl) (fun _ _ _ h => h) (by kernel_rfl) _ _ _ _ (by kernel_rfl) (by kernel_rfl) (Or.inl ⟨by rfl, ?_⟩) (fun _ => HT.out) ?_
            rotate_left
            · intro w' _
              go_simp
              try with_reducible rfl
            (try simp only [Act.put, List.getElem_toArray, List.getElem_cons_succ, List.getElem_cons_zero, List.setIfInBounds_toArray, List.set_cons_zero, List.set_cons_succ])
            refine wpL_word (i := 3) (v := ?_) rfl (by kernel_rfl) (fun _ _ _ h => h) (by kernel_rfl) _ _ _ _ (by kernel_rfl) (by kernel_rfl) (Or.inl ⟨by rfl, ?_⟩) (fun _ => HT.out) ?_
            rotate_left
            · intro w' _
              go_simp
              try with_reducible rfl
            (try simp only [Act.put, List.getElem_toArray, List.getElem_cons_succ, List.getElem_cons_zero, List.setIfInBounds_toArray, List.set_cons_zero, List.set_cons_succ])
            refine wpL_load (i := 4) (v := ?_) rfl (by kernel_rfl) (fun _ _ _ h => h) (by kernel_rfl) (by kernel_rfl) _ _ _ _ (by kernel_rfl) (by kernel_rfl) (Or.inl ⟨by rfl, ?_⟩) (by kernel_rfl) HT.out ?_
            rotate_left
            · intro w' hS
              (try dsimp only at hS)
              obtain ⟨n1, n2, n3, n4, n5, n6⟩ := hS
              go_simp
              try with_reducible rfl
            (try simp only [Act.put, List.getElem_toArray, List.getElem_cons_succ, List.getElem_cons_zero, List.setIfInBounds_toArray, List.set_cons_zero, List.set_cons_succ])
            refine wpL_word (i := 5) (v := ?_) rfl (by kernel_rfl) (fun _ _ _ h => h) (by kernel_rfl) _ _ _ _ (by kernel_rfl) (by kernel_rfl) (Or.inl ⟨by rfl, ?_⟩) (fun _ => HT.out) ?_
            rotate_left
            · intro w' _
              go_simp
              try with_reducible rfl
            (try simp only [Act.put, List.getElem_toArray, List.getElem_cons_succ, List.getElem_cons_zero, List.setIfInBounds_toArray, List.set_cons_zero, List.set_cons_succ])
            refine wpL_word (i := 6) (v := ?_) rfl (by kernel_rfl) (fun _ _ _ h => h) (by kernel_rfl) _ _ _ _ (by kernel_rfl) (by kernel_rfl) (Or.inl ⟨by rfl, ?_⟩) (fun _ => HT.out) ?_
            rotate_left
            · intro w' _
              go_simp
              try with_reducible rfl
            (try simp only [Act.put, List.getElem_toArray, List.getElem_cons_succ, List.getElem_cons_zero, List.setIfInBounds_toArray, List.set_cons_zero, List.set_cons_succ])
            refine wpL_load (i := 7) (v := ?_) rfl (by kernel_rfl) (fun _ _ _ h => h) (by kernel_rfl) (by kernel_rfl) _ _ _ _ (by kernel_rfl) (by kernel_rfl) (Or.inl ⟨by rfl, ?_⟩) (by kernel_rfl) HT.out ?_
            rotate_left
            · intro w' hS
              (try dsimp only at hS)
              obtain ⟨n1, n2, n3, n4, n5, n6⟩ := hS
              go_simp
              try with_reducible rfl
            (try simp only [Act.put, List.getElem_toArray, List.getElem_cons_succ, List.getElem_cons_zero, List.setIfInBounds_toArray, List.set_cons_zero, List.set_cons_succ])
            refine wpL_word (i := 8) (v := ?_) rfl (by kernel_rfl) (fun _ _ _ h => h) (by kernel_rfl) _ _ _ _ (by kernel_rfl) (by kernel_rfl) (Or.inl ⟨by rfl, ?_⟩) (fun _ => HT.out) ?_
            rotate_left
            · intro w' _
              go_simp
              try with_reducible rfl
            (try simp only [Act.put, List.getElem_toArray, List.getElem_cons_succ, List.getElem_cons_zero, List.setIfInBounds_toArray, List.set_cons_zero, List.set_cons_succ])
            refine wpL_word (i := 9) (v := ?_) rfl (by kernel_rfl) (fun _ _ _ h => h) (by kernel_rfl) _ _ _ _ (by kernel_rfl) (by kernel_rfl) (Or.inl ⟨by rfl, ?_⟩) (fun _ => HT.out) ?_
            rotate_left
            · intro w' _
              go_simp
              try with_reducible rfl
            (try simp only [Act.put, List.getElem_toArray, List.getElem_cons_succ, List.getElem_cons_zero, List.setIfInBounds_toArray, List.set_cons_zero, List.set_cons_succ])
            refine wpL_word (i := 10) (v := ?_) rfl (by kernel_rfl) (fun _ _ _ h => h) (by kernel_rfl) _ _ _ _ (by kernel_rfl) (by kernel_rfl) (Or.inl ⟨by rfl, ?_⟩) (fun _ => HT.out) ?_
            rotate_left
            · intro w' _
              go_simp
              try with_reducible rfl
            (try simp only [Act.put, List.getElem_toArray, List.getElem_cons_succ, List.getElem_cons_zero, List.setIfInBounds_toArray, List.set_cons_zero, List.set_cons_succ])
            refine wpL_load (i := 11) (v := ?_) rfl (by kernel_rfl) (fun _ _ _ h => h) (by kernel_rfl) (by kernel_rfl) _ _ _ _ (by kernel_rfl) (by kernel_rfl) (Or.inl ⟨by rfl, ?_⟩) (by kernel_rfl) HT.out ?_
            rotate_left
            · intro w' hS
              (try dsimp only at hS)
              obtain ⟨n1, n2, n3, n4, n5, n6⟩ := hS
              go_simp
              try with_reducible rfl
            (try simp only [Act.put, List.getElem_toArray, List.getElem_cons_succ, List.getElem_cons_zero, List.setIfInBounds_toArray, List.set_cons_zero, List.set_cons_succ])
            refine wpL_word (i := 12) (v := ?_) rfl (by kernel_rfl) (fun _ _ _ h => h) (by kernel_rfl) _ _ _ _ (by kernel_rfl) (by kernel_rfl) (Or.inl ⟨by rfl, ?_⟩) (fun _ => HT.out) ?_
            rotate_left
            · intro w' _
              go_simp
              try with_reducible rfl
            (try simp only [Act.put, List.getElem_toArray, List.getElem_cons_succ, List.getElem_cons_zero, List.setIfInBounds_toArray, List.set_cons_zero, List.set_cons_succ])
            refine wpL_word (i := 13) (v := ?_) rfl (by kernel_rfl) (fun _ _ _ h => h) (by kernel_rfl) _ _ _ _ (by kernel_rfl) (by kernel_rfl) (Or.inl ⟨by rfl, ?_⟩) (fun _ => HT.out) ?_
            rotate_left
            · intro w' _
              go_simp
              try with_reducible rfl
            (try simp only [Act.put, List.getElem_toArray, List.getElem_cons_succ, List.getElem_cons_zero, List.setIfInBounds_toArray, List.set_cons_zero, List.set_cons_succ])
            refine wpL_word (i := 14) (v := ?_) rfl (by kernel_rfl) (fun _ _ _ h => h) (by kernel_rfl) _ _ _ _ (by kernel_rfl) (by kernel_rfl) (Or.inl ⟨by rfl, ?_⟩) (fun _ => HT.out) ?_
            rotate_left
            · intro w' _
              go_simp
              try with_reducible rfl
            (try simp only [Act.put, List.getElem_toArray, List.getElem_cons_succ, List.getElem_cons_zero, List.setIfInBounds_toArray, List.set_cons_zero, List.set_cons_succ])
            refine wpL_word (i := 15) (v := ?_) rfl (by kernel_rfl) (fun _ _ _ h => h) (by kernel_rfl) _ _ _ _ (by kernel_rfl) (by kernel_rfl) (Or.inl ⟨by rfl, ?_⟩) (fun _ => HT.out) ?_
            rotate_left
            · intro w' _
              go_simp
              try with_reducible rfl
            (try simp only [Act.put, List.getElem_toArray, List.getElem_cons_succ, List.getElem_cons_zero, List.setIfInBounds_toArray, List.set_cons_zero, List.set_cons_succ])
            refine wpL_word (i := 16) (v := ?_) rfl (by kernel_rfl) (fun _ _ _ h => h) (by kernel_rfl) _ _ _ _ (by kernel_rfl) (by kernel_rfl) (Or.inl ⟨by rfl, ?_⟩) (fun _ => HT.out) ?_
            rotate_left
            · intro w' _
              go_simp
              try with_reducible rfl
            (try simp only [Act.put, List.getElem_toArray, List.getElem_cons_succ, List.getElem_cons_zero, List.setIfInBounds_toArray, List.set_cons_zero, List.set_cons_succ])
            refine wpL_load (i := 17) (v := ?_) rfl (by kernel_rfl) (fun _ _ _ h => h) (by kernel_rfl) (by kernel_rfl) _ _ _ _ (by kernel_rfl) (by kernel_rfl) (Or.inl ⟨by rfl, ?_⟩) (by kernel_rfl) HT.out ?_
            rotate_left
            · intro w' hS
              (try dsimp only at hS)
              obtain ⟨n1, n2, n3, n4, n5, n6⟩ := hS
              go_simp
              try with_reducible rfl
            (try simp only [Act.put, List.getElem_toArray, List.getElem_cons_succ, List.getElem_cons_zero, List.setIfInBounds_toArray, List.set_cons_zero, List.set_cons_succ])
            refine wpL_word (i := 18) (v := ?_) rfl (by kernel_rfl) (fun _ _ _ h => h) (by kernel_rfl) _ _ _ _ (by kernel_rfl) (by kernel_rfl) (Or.inl ⟨by rfl, ?_⟩) (fun _ => HT.out) ?_
            rotate_left
            · intro w' _
              go_simp
              try with_reducible rfl
            (try simp only [Act.put, List.getElem_toArray, List.getElem_cons_succ, List.getElem_cons_zero, List.setIfInBounds_toArray, List.set_cons_zero, List.set_cons_succ])
            refine wpL_word (i := 19) (v := ?_) rfl (by kernel_rfl) (fun _ _ _ h => h) (by kernel_rfl) _ _ _ _ (by kernel_rfl) (by kernel_rfl) (Or.inl ⟨by rfl, ?_⟩) (fun _ => HT.out) ?_
            rotate_left
            · intro w' _
              go_simp
              try with_reducible rfl
            (try simp only [Act.put, List.getElem_toArray, List.getElem_cons_succ, List.getElem_cons_zero, List.setIfInBounds_toArray, List.set_cons_zero, List.set_cons_succ])
            refine wpL_word (i := 20) (v := ?_) rfl (by kernel_rfl) (fun _ _ _ h => h) (by kernel_rfl) _ _ _ _ (by kernel_rfl) (by kernel_rfl) (Or.inl ⟨by rfl, ?_⟩) (fun _ => HT.out) ?_
            rotate_left
            · intro w' _
              go_simp
              try with_reducible rfl
            (try simp only [Act.put, List.getElem_toArray, List.getElem_cons_succ, List.getElem_cons_zero, List.setIfInBounds_toArray, List.set_cons_zero, List.set_cons_succ])
            refine wpL_word (i := 21) (v := ?_) rfl (by kernel_rfl) (fun _ _ _ h => h) (by kernel_rfl) _ _ _ _ (by kernel_rfl) (by kernel_rfl) (Or.inl ⟨by rfl, ?_⟩) (fun _ => HT.out) ?_
            rotate_left
            · intro w' _
              go_simp
              try with_reducible rfl
            (try simp only [Act.put, List.getElem_toArray, List.getElem_cons_succ, List.getElem_cons_zero, List.setIfInBounds_toArray, List.set_cons_zero, List.set_cons_succ])
            refine wpL_word (i := 22) (v := ?_) rfl (by kernel_rfl) (fun _ _ _ h => h) (by kernel_rfl) _ _ _ _ (by kernel_rfl) (by kernel_rfl) (Or.inl ⟨by rfl, ?_⟩) (fun _ => HT.out) ?_
            rotate_left
            · intro w' _
              go_simp
              try with_reducible rfl
            (try simp only [Act.put, List.getElem_toArray, List.getElem_cons_succ, List.getElem_cons_zero, List.setIfInBounds_toArray, List.set_cons_zero, List.set_cons_succ])
            refine wpL_load (i := 23) (v := ?_) rfl (by kernel_rfl) (fun _ _ _ h => h) (by kernel_rfl) (by kernel_rfl) _ _ _ _ (by kernel_rfl) (by kernel_rfl) (Or.inl ⟨by rfl, ?_⟩) (by kernel_rfl) HT.out ?_
            rotate_left
            · intro w' hS
              (try dsimp only at hS)
              obtain ⟨n1, n2, n3, n4, n5, n6⟩ := hS
              go_simp
              try with_reducible rfl
            (try simp only [Act.put, List.getElem_toArray, List.getElem_cons_succ, List.getElem_cons_zero, List.setIfInBounds_toArray, List.set_cons_zero, List.set_cons_succ])
            refine wpL_word (i := 24) (v := ?_) rfl (by kernel_rfl) (fun _ _ _ h => h) (by kernel_rfl) _ _ _ _ (by kernel_rfl) (by kernel_rfl) (Or.inl ⟨by rfl, ?_⟩) (fun _ => HT.out) ?_
            rotate_left
            · intro w' _
              go_simp
              try with_reducible rfl
            (try simp only [Act.put, List.getElem_toArray, List.getElem_cons_succ, List.getElem_cons_zero, List.setIfInBounds_toArray, List.set_cons_zero, List.set_cons_succ])
            refine wpL_word (i := 25) (v := ?_) rfl (by kernel_rfl) (fun _ _ _ h => h) (by kernel_rfl) _ _ _ _ (by kernel_rfl) (by kernel_rfl) (Or.inl ⟨by rfl, ?_⟩) (fun _ => HT.out) ?_
            rotate_left
            · intro w' _
              go_simp
              try with_reducible rfl
            (try simp only [Act.put, List.getElem_toArray, List.getElem_cons_succ, List.getElem_cons_zero, List.setIfInBounds_toArray, List.set_cons_zero, List.set_cons_succ])
            refine wpL_word (i := 26) (v := ?_) rfl (by kernel_rfl) (fun _ _ _ h => h) (by kernel_rfl) _ _ _ _ (by kernel_rfl) (by kernel_rfl) (Or.inl ⟨by rfl, ?_⟩) (fun _ => HT.out) ?_
            rotate_left
            · intro w' _
              go_simp
              try with_reducible rfl
            (try simp only [Act.put, List.getElem_toArray, List.getElem_cons_succ, List.getElem_cons_zero, List.setIfInBounds_toArray, List.set_cons_zero, List.set_cons_succ])
            refine wpL_word (i := 27) (v := ?_) rfl (by kernel_rfl) (fun _ _ _ h => h) (by kernel_rfl) _ _ _ _ (by kernel_rfl) (by kernel_rfl) (Or.inl ⟨by rfl, ?_⟩) (fun _ => HT.out) ?_
            rotate_left
            · intro w' _
              go_simp
              try with_reducible rfl
            (try simp only [Act.put, List.getElem_toArray, List.getElem_cons_succ, List.getElem_cons_zero, List.setIfInBounds_toArray, List.set_cons_zero, List.set_cons_succ])
            refine wpL_word (i := 28) (v := ?_) rfl (by kernel_rfl) (fun _ _ _ h => h) (by kernel_rfl) _ _ _ _ (by kernel_rfl) (by kernel_rfl) (Or.inl ⟨by rfl, ?_⟩) (fun _ => HT.out) ?_
            rotate_left
            · intro w' _
              go_simp
              try with_reducible rfl
            (try simp only [Act.put, List.getElem_toArray, List.getElem_cons_succ, List.getElem_cons_zero, List.setIfInBounds_toArray, List.set_cons_zero, List.set_cons_succ])
            refine wpL_load (i := 29) (v := ?_) rfl (by kernel_rfl) (fun _ _ _ h => h) (by kernel_rfl) (by kernel_rfl) _ _ _ _ (by kernel_rfl) (by kernel_rfl) (Or.inl ⟨by rfl, ?_⟩) (by kernel_rfl) HT.out ?_
            rotate_left
            · intro w' hS
              (try dsimp only at hS)
              obtain ⟨n1, n2, n3, n4, n5, n6⟩ := hS
              go_simp
              try with_reducible rfl
            (try simp only [Act.put, List.getElem_toArray, List.getElem_cons_succ, List.getElem_cons_zero, List.setIfInBounds_toArray, List.set_cons_zero, List.set_cons_succ])
            refine wpL_word (i := 30) (v := ?_) rfl (by kernel_rfl) (fun _ _ _ h => h) (by kernel_rfl) _ _ _ _ (by kernel_rfl) (by kernel_rfl) (Or.inl ⟨by rfl, ?_⟩) (fun _ => HT.out) ?_
            rotate_left
            · intro w' _
              go_simp
              try with_reducible rfl
            (try simp only [Act.put, List.getElem_toArray, List.getElem_cons_succ, List.getElem_cons_zero, List.setIfInBounds_toArray, List.set_cons_zero, List.set_cons_succ])
            refine wpL_next (n := 31) (by kernel_rfl) rfl (fun K' hK => ?_)
            go_simp
            (try simp only [V0, V1, V2, V3])
            refine (rmsg_any m0 m1 m2 m3 HM4.out.1 HM4.out.2.1 HM4.out.2.2.1 HM4.out.2.2.2 wD).mono ?_
            rintro e wE ⟨rfl, hb⟩
            rw [← hmB.out]
            generalize hmm : mB l j = mm
            have HM := κ hmm
            clear hmm hmB
            obtain ⟨q0, q1, q2, q3, q4, q5, q6, q7, q8, q9, q10, q11⟩ := mm
            unfold mvl
            have mE := κ (Ls.below mD.out hb)
            have sE := κ (sD.out.below' hb)
            have KE := κ (KD.out.below hb)
            have blE : Hid (Below w.heap.size wD wE) := κ (bl0.out.trans (hb.mono (show w.heap.size ≤ wD.heap.size from KD.out.b.size)))
            have HTE : Hid (wE.cell? ⟨gS, 7, none⟩ = some (.slice (some ⟨gL, 0, none⟩) 3 3) ∧ wE.cell? ⟨gL, wh, none⟩ = some (.slice (P wh) (lsF l j wh).length (p wh)) ∧ wE.cell? ⟨b, o + k0, none⟩ = some (.int .u8 m0) ∧ wE.cell? ⟨b, o + k1, none⟩ = some (.int .u8 m1) ∧ wE.cell? ⟨b, o + k2, none⟩ = some (.int .u8 m2) ∧ wE.cell? ⟨b, o + k3, none⟩ = some (.int .u8 m3)) := κ ⟨sE.out.cell 7, Ls.cell mE.out hw3n, cD.out _ blE.out⟩
            clear hb mD sD KD bl0 HT
            refine hK.out _ _ HTE.out ?_
            clear hK K'
            (try simp only [Act.put, List.getElem_toArray, List.getElem_cons_succ, List.getElem_cons_zero, List.setIfInBounds_toArray, List.set_cons_zero, List.set_cons_succ])
            refine wpL_next (n := 32) (by kernel_rfl) rfl (fun K' hK => ?_)
            go_simp
            have hu : Below wE.heap.size wE (wE.alloc (.cells #[.int .i64 q0, .int .i64 q1, .int .i64 q2, .bool q3, .int .i64 q4, .int .i64 q5, .int .i64 q6, .int .i64 q7, .int .i64 q8, .int .i64 q9, .int .i64 q10, .int .i64 q11] 50)) := (Below.refl _ _).alloc (Nat.le_refl _) _
            have mF := κ (Ls.below mE.out hu)
            have sF := κ (sE.out.below' hu)
            have KF := κ (KE.out.below hu)
            have blF : Hid (Below w.heap.size wD (wE.alloc (.cells #[.int .i64 q0, .int .i64 q1, .int .i64 q2, .bool q3, .int .i64 q4, .int .i64 q5, .int .i64 q6, .int .i64 q7, .int .i64 q8, .int .i64 q9, .int .i64 q10, .int .i64 q11] 50))) := κ (blE.out.trans (hu.mono (show w.heap.size ≤ wE.heap.size from KE.out.b.size)))
            have R5 : Hid (Rd (wE.alloc (.cells #[.int .i64 q0, .int .i64 q1, .int .i64 q2, .bool q3, .int .i64 q4, .int .i64 q5, .int .i64 q6, .int .i64 q7, .int .i64 q8, .int .i64 q9, .int .i64 q10, .int .i64 q11] 50)) (wE.alloc (.cells #[.int .i64 q0, .int .i64 q1, .int .i64 q2, .bool q3, .int .i64 q4, .int .i64 q5, .int .i64 q6, .int .i64 q7, .int .i64 q8, .int .i64 q9, .int .i64 q10, .int .i64 q11] 50)).heap.size (some ⟨wE.heap.size, 0, none⟩) [.int .i64 q0, .int .i64 q1, .int .i64 q2, .bool q3, .int .i64 q4, .int .i64 q5, .int .i64 q6, .int .i64 q7, .int .i64 q8, .int .i64 q9, .int .i64 q10, .int .i64 q11]) := κ (rd_new rfl)
            clear hu mE sE KE blE HTE
            generalize wE.alloc (.cells #[.int .i64 q0, .int .i64 q1, .int .i64 q2, .bool q3, .int .i64 q4, .int .i64 q5, .int .i64 q6, .int .i64 q7, .int .i64 q8, .int .i64 q9, .int .i64 q10, .int .i64 q11] 50) = wF at mF sF KF blF R5 ⊢
            generalize wE.heap.size = gQ at R5 ⊢
            have HTF : Hid (wF.cell? ⟨gS, 7, none⟩ = some (.slice (some ⟨gL, 0, none⟩) 3 3) ∧ wF.cell? ⟨gL, wh, none⟩ = some (.slice (P wh) (lsF l j wh).length (p wh)) ∧ wF.cell? ⟨b, o + k0, none⟩ = some (.int .u8 m0) ∧ wF.cell? ⟨b, o + k1, none⟩ = some (.int .u8 m1) ∧ wF.cell? ⟨b, o + k2, none⟩ = some (.int .u8 m2) ∧ wF.cell? ⟨b, o + k3, none⟩ = some (.int .u8 m3)) := κ ⟨sF.out.cell 7, Ls.cell mF.out hw3n, cD.out _ blF.out⟩
            refine hK.out _ _ HTF.out ?_
            clear hK K'
            (try simp only [Act.put, List.getElem_toArray, List.getElem_cons_succ, List.getElem_cons_zero, List.setIfInBounds_toArray, List.set_cons_zero, List.set_cons_succ])
            have O5 : Hid (World.ownsRow wF w.heap.size 50 12 (.slice (P wh) (lsF l j wh).length (p wh)) (lsF l j wh).length (mrow (lsF l j wh))) := κ (mF.out.o wh hw3n)
            have hL : (lsF l j wh).length ≤ 30 := by have := lsF_len l j wh; have := HN.out.1; omega
            have Z5 : w.heap.size ≤ wF.heap.size := KF.out.b.size
            obtain ⟨n6, hn6⟩ : ∃ k, k = (lsF l j wh).length + 1 := ⟨_, rfl⟩
            have HN6 := κ hn6
            clear hn6
            refine wpL_next (n := 33) (by kernel_rfl) rfl (fun K' hK => ?_)
            refine step_appA O5 R5 HN6.out rfl _ _ _ rfl i2 (.agg #[.int .i64 0, .int .i64 0, .int .i64 0, .bool false, .int .i64 0, .int .i64 0, .int .i64 0, .int .i64 0, .int .i64 0, .int .i64 0, .int .i64 0, .int .i64 0]) 96 Tryd.underlying46 hi2 hx0 hx1 hx2 rfl (by decide) rfl rfl rfl (by simp [Value.oneCell']) (by unfold maxLen; omega) (by omega) Z5 ?_
            intro A6 c6 wG ho6 hg6 hob6
            have mG := κ (Ls.push mF.out (by decide) hw3n ⟨q0, q1, q2, q3, q4, q5, q6, q7, q8, q9, q10, q11⟩ HN6.out ho6.out hg6.out hob6.out)
            have bG : Hid (Blk wG gL 46 #[slV (P 0) (lsF l j 0) (p 0), slV (P 1) (lsF l j 1) (p 1), slV (P 2) (lsF l j 2) (p 2)]) := κ (mF.out.off hw3n hg6.out mF.out.b (by decide))
            have sG := κ (mF.out.off hw3n hg6.out sF.out (by decide))
            have KG := κ (KF.out.gr (mF.out.o wh hw3n) (by decide) (by decide) (by decide) (by decide) hg6.out (Nat.le_refl _))
            have blG : Hid (Below w.heap.size wD wG) := κ (mF.out.bel hw3n hg6.out blF.out (Nat.le_refl _) KF.out.b.size)
            have cG : wG.cell? ⟨gL, wh, none⟩ = some (.slice (P wh) (lsF l j wh).length (p wh)) := (bG.out.cell wh).trans ((mF.out.b.cell wh).symm.trans (Ls.cell mF.out hw3n))
            have yG : wG.frozen? ⟨gL, wh, none⟩ = false := bG.out.thaw wh
            have HTG : Hid (wG.cell? ⟨gS, 7, none⟩ = some (.slice (some ⟨gL, 0, none⟩) 3 3) ∧ wG.cell? ⟨gL, wh, none⟩ = some (.slice (P wh) (lsF l j wh).length (p wh)) ∧ wG.cell? ⟨b, o + k0, none⟩ = some (.int .u8 m0) ∧ wG.cell? ⟨b, o + k1, none⟩ = some (.int .u8 m1) ∧ wG.cell? ⟨b, o + k2, none⟩ = some (.int .u8 m2) ∧ wG.cell? ⟨b, o + k3, none⟩ = some (.int .u8 m3)) := κ ⟨sG.out.cell 7, cG, cD.out _ blG.out⟩
            refine hK.out _ _ HTG.out ?_
            clear hK K'
            (try simp only [Act.put, List.getElem_toArray, List.getElem_cons_succ, List.getElem_cons_zero, List.setIfInBounds_toArray, List.set_cons_zero, List.set_cons_succ])
            refine wpL_word (i := 34) (v := ?_) rfl (by kernel_rfl) (fun _ _ _ h => h) (by kernel_rfl) _ _ _ _ (by kernel_rfl) (by kernel_rfl) (Or.inl ⟨by rfl, ?_⟩) (fun _ => HTG.out) ?_
            rotate_left
            · intro w' _
              go_simp
              try with_reducible rfl
            (try simp only [Act.put, List.getElem_toArray, List.getElem_cons_succ, List.getElem_cons_zero, List.setIfInBounds_toArray, List.set_cons_zero, List.set_cons_succ])
            refine wpL_late (n := 35) (by kernel_rfl) rfl (by kernel_rfl) (fun K' hK => ?_)
            go_simp
            refine hK.out _ _ ?_
            clear hK K'
            (try simp only [Act.put, List.getElem_toArray, List.getElem_cons_succ, List.getElem_cons_zero, List.setIfInBounds_toArray, List.set_cons_zero, List.set_cons_succ])
            refine wpL_done (by kernel_rfl) ?_ _
            refine NoPanic.normal ?_
            have eL : up (lsF l j) wh (lsF l j wh ++ [(⟨q0, q1, q2, q3, q4, q5, q6, q7, q8, q9, q10, q11⟩ : M)]) = lsF l (j + 1) := by
              show _ = up (lsF l j) (whF l j) (lsF l j (whF l j) ++ [mB l j])
              rw [HW.out, HM.out]
            rw [eL] at mG
            have s7 := κ (far_st sG.out (blk_ne sG.out bG.out (by decide)) (i := wh) (.slice A6 n6 c6))
            have K7 := κ (KG.out.st bG.out (by decide) (by decide) (by decide) (blk_ne KG.out.r bG.out (by decide)) hgL.out wh (.slice A6 n6 c6))
            have ek : Hid ((12 + 4 * (j + 1) : Nat) = k0 + 4) := κ (by rw [HK4.out]; omega)
            have hk4 : wrap64 ((k0 : Int) + 4) = (k0 : Int) + 4 := by have := HN.out; have := HK4.out; unfold wrap64; omega
            have ej : wrap64 ((j : Int) + 1) = (j : Int) + 1 := by have := HN.out.1; unfold wrap64; omega
            clear sG KG bG cG yG HTG HTF O5 R5 mF sF KF ho6 hg6 hob6 HM HW eL HN6 hw3 hw3i hw3n HM4 V0 V1 V2 V3 W1 W2 W3 i0l i1l i2l i3l cD blF blG HK4 Z5 hL
            generalize wG.setCell ⟨gL, wh, none⟩ (.slice A6 n6 c6) = w7 at mG s7 K7 ⊢
            go_wp2_with fail
            go_roundg g8
            case measure => omega
            case rel => exact ⟨j + 1, _, _, by omega, by first | (rw [ej, Int.natCast_add]; rfl) | (rw [Int.natCast_add]; rfl), by rw [ek.out]; first | (rw [hk4, Int.natCast_add]; rfl) | (rw [Int.natCast_add]; rfl), mG, s7, K7⟩
          · obtain rfl : j = cN := by omega
            obtain ⟨k0, hk0⟩ : ∃ k, k = 12 + 4 * j := ⟨_, rfl⟩
            obtain ⟨k3, hk3⟩ : ∃ k, k = k0 + 3 := ⟨_, rfl⟩
            have hw3k : wrap64 ((k0 : Int) + 3) = ((k3 : Nat) : Int) := by have := HN.out; unfold wrap64; omega
            have hx : ((((k3 : Nat) : Int) < ((l.length : Nat) : Int)) ∧ ¬ (((j : Nat) : Int) < 30)) ∨ ¬ (((k3 : Nat) : Int) < ((l.length : Nat) : Int)) := by
              have h := HCN.out
              unfold cnF at h
              by_cases q : k3 < l.length
              · exact .inl ⟨by omega, by omega⟩
              · exact .inr (by omega)
            rw [← hk0]
            obtain ⟨B3, hB3⟩ : ∃ B, B = wr.heap.size := ⟨_, rfl⟩
            have HB : Hid (gB < B3 ∧ w.heap.size ≤ B3) := κ ⟨by rw [hB3]; exact Kr.out.a.lt, by rw [hB3]; exact Kr.out.b.size⟩
            have HB2 : Hid (B3 ≤ wr.heap.size) := κ (by omega)
            clear hk0 hk3 hB3
            rcases hx with ⟨t1, t2⟩ | t1
            all_goals
              go_wp2_with fail
              go_loopg [11] (l.length - 12) (fun g s11 w' => ∃ (q : Nat) (Ap : Option Addr) (cp : Nat), q + g = l.length - 12 ∧ s11 = .int .i64 ((12 + q : Nat) : Int) ∧ Hid (Ls w.heap.size 46 50 w' gL P p (lsF l j)) ∧ Hid (Blk w' gS 38 #[.int .i64 (1 + ((x0 : Nat) : Int) % 3), .int .i64 (((x1 : Nat) : Int) % 4), .int .i64 (1 + ((x2 : Nat) : Int) % 6), .int .i64 (1 + ((x3 : Nat) : Int) % 6), .slice An 4 cn, .slice (some ⟨gB, 0, none⟩) 3 3, .slice (some ⟨gY, 0, none⟩) 2 2, .slice (some ⟨gL, 0, none⟩) 3 3, .slice Ap q cp]) ∧ Hid (Cr l w w' An cn gB gY gR) ∧ Hid (World.ownsRow w' B3 3 1 (.slice Ap q cp) q (ints ((piF l).take q))) ∧ Hid (B3 ≤ w'.heap.size))
              case atStart => exact ⟨0, none, 0, by omega, rfl, mr, sr, Kr, κ (World.ownsRow_nil _ _ _ _), HB2⟩
              case round =>
                clear mr sr Kr HB2
                obtain ⟨q, Ap, cp, hqg, rfl, mr, sr, Kr, Or, HB2⟩ := hrel
                rename World => wq
                obtain ⟨kq, hkq⟩ : ∃ k, k = 12 + q := ⟨_, rfl⟩
                rw [← hkq]
                have HKQ := κ hkq
                by_cases hlt2 : kq < l.length
                · obtain ⟨g8, rfl⟩ : ∃ g8, gk = g8 + 1 := ⟨gk - 1, by omega⟩
                  have t3 : decide ((kq : Int) < ((l.length : Nat) : Int)) = true := decide_eq_true (by omega)
                  obtain ⟨b, o, rfl, -⟩ : ∃ b o, A = some ⟨b, o, none⟩ ∧ True := by
                    obtain ⟨b, o, h, _⟩ := Rd.at hl.out (by intro e; have h := congrArg List.length e; rw [bts_len] at h; have h' : l.length = 0 := h; omega)
                    exact ⟨b, o, h, trivial⟩
                  have lr := κ (Rd.below' hl.out Kr.out.b Kr.out.b.size)
                  have e0c : wq.cell? ⟨b, o + kq, none⟩ = some (.int .u8 (nb l kq)) := by_c lr.out (by omega)
                  have i0l : ((kq : Nat) : Int) < ((l.length : Nat) : Int) := by omega
                  have hpi : Hid (ints ((piF l).take (q + 1)) = ints ((piF l).take q) ++ [.int .i64 (nb l kq)]) := κ (by rw [hkq]; exact piF_snoc l (by omega))
                  have hm0 := nb_lt l kq
                  generalize nb l kq = m0 at *
                  have V0 : IntKind.i64.wrap ((m0 : Nat) : Int) = ((m0 : Nat) : Int) := by rw [IntKind.wrap_i64]; omega
                  have hbl : Hid (b < w.heap.size) := κ (by have h := Rd.at hl.out (by intro e; have h := congrArg List.length e; rw [bts_len] at h; have h' : l.length = 0 := h; omega); obtain ⟨b', o', h1, h2, _⟩ := h; injection h1 with h1; injection h1 with h1 _; rw [h1]; exact h2)
                  clear lr hm0 hkq
                  go_upto_region 20 with fail
                  clear t3
                  have ec := κ e0c
                  clear e0c
                  refine wp_region_noPanic ?_
                  refine wp_region_L (T := (fun w' => w'.cell? ⟨gS, 8, none⟩ = some (.slice Ap q cp) ∧ w'.cell? ⟨b, o + kq, none⟩ = some (.int .u8 m0))) (st := [10]) (by kernel_rfl) ?_
                  have mD := κ (Ls_drew mr.out)
                  have sD : Hid (Blk wq.drew gS 38 #[.int .i64 (1 + ((x0 : Nat) : Int) % 3), .int .i64 (((x1 : Nat) : Int) % 4), .int .i64 (1 + ((x2 : Nat) : Int) % 6), .int .i64 (1 + ((x3 : Nat) : Int) % 6), .slice An 4 cn, .slice (some ⟨gB, 0, none⟩) 3 3, .slice (some ⟨gY, 0, none⟩) 2 2, .slice (some ⟨gL, 0, none⟩) 3 3, .slice Ap q cp]) := sr
                  have KD := κ Kr.out.drew
                  have OD := own_drew Or
                  have cD : Hid (∀ W, Below w.heap.size wq.drew W → W.cell? ⟨b, o + kq, none⟩ = some (.int .u8 m0)) := κ (fun W hb => (hb.cell (p := ⟨b, o + kq, none⟩) hbl.out).trans ec.out)
                  have bl0 : Hid (Below w.heap.size wq.drew wq.drew) := κ (Below.refl _ _)
                  have zD : Hid (B3 ≤ wq.drew.heap.size) := HB2
                  clear mr sr Kr ec Or HB2
                  have HT : Hid (wq.drew.cell? ⟨gS, 8, none⟩ = some (.slice Ap q cp) ∧ wq.drew.cell? ⟨b, o + kq, none⟩ = some (.int .u8 m0)) := κ ⟨sD.out.cell 8, cD.out _ bl0.out⟩
                  generalize wq.drew = wD at mD sD KD OD cD bl0 zD HT ⊢
                  refine wpL_word (i := 0) (v := ?_) rfl (by kernel_rfl) (fun _ _ _ h => h) (by kernel_rfl) _ _ _ _ (by kernel_rfl) (by kernel_rfl) (Or.inl ⟨by rfl, ?_⟩) (fun _ => HT.out) ?_
                  rotate_left
                  · intro w' _
                    go_simp
                    try with_reducible rfl
                  (try simp only [Act.put, List.getElem_toArray, List.getElem_cons_succ, List.getElem_cons_zero, List.setIfInBounds_toArray, List.set_cons_zero, List.set_cons_succ])
                  refine wpL_load (i := 1) (v := ?_) rfl (by kernel_rfl) (fun _ _ _ h => h) (by kernel_rfl) (by kernel_rfl) _ _ _ _ (by kernel_rfl) (by kernel_rfl) (Or.inl ⟨by rfl, ?_⟩) (by kernel_rfl) HT.out ?_
                  rotate_left
                  · intro w' hS
                    (try dsimp only at hS)
                    obtain ⟨n1, n2⟩ := hS
                    go_simp
                    try with_reducible rfl
                  (try simp only [Act.put, List.getElem_toArray, List.getElem_cons_succ, List.getElem_cons_zero, List.setIfInBounds_toArray, List.set_cons_zero, List.set_cons_succ])
                  refine wpL_word (i := 2) (v := ?_) rfl (by kernel_rfl) (fun _ _ _ h => h) (by kernel_rfl) _ _ _ _ (by kernel_rfl) (by kernel_rfl) (Or.inl ⟨by rfl, ?_⟩) (fun _ => HT.out) ?_
                  rotate_left
                  · intro w' _
                    go_simp
                    try with_reducible rfl
                  (try simp only [Act.put, List.getElem_toArray, List.getElem_cons_succ, List.getElem_cons_zero, List.setIfInBounds_toArray, List.set_cons_zero, List.set_cons_succ])
                  refine wpL_word (i := 3) (v := ?_) rfl (by kernel_rfl) (fun _ _ _ h => h) (by kernel_rfl) _ _ _ _ (by kernel_rfl) (by kernel_rfl) (Or.inl ⟨by rfl, ?_⟩) (fun _ => HT.out) ?_
                  rotate_left
                  · intro w' _
                    go_simp
                    try with_reducible rfl
                  (try simp only [Act.put, List.getElem_toArray, List.getElem_cons_succ, List.getElem_cons_zero, List.setIfInBounds_toArray, List.set_cons_zero, List.set_cons_succ])
                  refine wpL_word (i := 4) (v := ?_) rfl (by kernel_rfl) (fun _ _ _ h => h) (by kernel_rfl) _ _ _ _ (by kernel_rfl) (by kernel_rfl) (Or.inl ⟨by rfl, ?_⟩) (fun _ => HT.out) ?_
                  rotate_left
                  · intro w' _
                    go_simp
                    try with_reducible rfl
                  (try simp only [Act.put, List.getElem_toArray, List.getElem_cons_succ, List.getElem_cons_zero, List.setIfInBounds_toArray, List.set_cons_zero, List.set_cons_succ])
                  refine wpL_load (i := 5) (v := ?_) rfl (by kernel_rfl) (fun _ _ _ h => h) (by kernel_rfl) (by kernel_rfl) _ _ _ _ (by kernel_rfl) (by kernel_rfl) (Or.inl ⟨by rfl, ?_⟩) (by kernel_rfl) HT.out ?_
                  rotate_left
                  · intro w' hS
                    (try dsimp only at hS)
                    obtain ⟨n1, n2⟩ := hS
                    go_simp
                    try with_reducible rfl
                  (try simp only [Act.put, List.getElem_toArray, List.getElem_cons_succ, List.getElem_cons_zero, List.setIfInBounds_toArray, List.set_cons_zero, List.set_cons_succ])
                  refine wpL_word (i := 6) (v := ?_) rfl (by kernel_rfl) (fun _ _ _ h => h) (by kernel_rfl) _ _ _ _ (by kernel_rfl) (by kernel_rfl) (Or.inl ⟨by rfl, ?_⟩) (fun _ => HT.out) ?_
                  rotate_left
                  · intro w' _
                    go_simp
                    try with_reducible rfl
                  (try simp only [Act.put, List.getElem_toArray, List.getElem_cons_succ, List.getElem_cons_zero, List.setIfInBounds_toArray, List.set_cons_zero, List.set_cons_succ])
                  refine wpL_next (n := 7) (by kernel_rfl) rfl (fun K' hK => ?_)
                  go_simp
                  (try simp only [V0])
                  have hu : Below wD.heap.size wD (wD.alloc (.cells #[.int .i64 m0] 3)) := (Below.refl _ _).alloc (Nat.le_refl _) _
                  have mF := κ (Ls.below mD.out hu)
                  have sF := κ (sD.out.below' hu)
                  have KF := κ (KD.out.below hu)
                  have OF := own_below OD hu
                  have blF : Hid (Below w.heap.size wD (wD.alloc (.cells #[.int .i64 m0] 3))) := κ (bl0.out.trans (hu.mono (show w.heap.size ≤ wD.heap.size from KD.out.b.size)))
                  have zF : Hid (B3 ≤ (wD.alloc (.cells #[.int .i64 m0] 3)).heap.size) := κ (Nat.le_trans zD.out hu.size)
                  have R5 : Hid (Rd (wD.alloc (.cells #[.int .i64 m0] 3)) (wD.alloc (.cells #[.int .i64 m0] 3)).heap.size (some ⟨wD.heap.size, 0, none⟩) [.int .i64 m0]) := κ (rd_new rfl)
                  have HTF : Hid ((wD.alloc (.cells #[.int .i64 m0] 3)).cell? ⟨gS, 8, none⟩ = some (.slice Ap q cp) ∧ (wD.alloc (.cells #[.int .i64 m0] 3)).cell? ⟨b, o + kq, none⟩ = some (.int .u8 m0)) := κ ⟨sF.out.cell 8, cD.out _ blF.out⟩
                  clear hu mD sD KD OD bl0 HT zD
                  refine hK.out _ _ HTF.out ?_
                  clear hK K'
                  (try simp only [Act.put, List.getElem_toArray, List.getElem_cons_succ, List.getElem_cons_zero, List.setIfInBounds_toArray, List.set_cons_zero, List.set_cons_succ])
                  generalize wD.alloc (.cells #[.int .i64 m0] 3) = wF at mF sF KF OF blF R5 HTF zF ⊢
                  generalize wD.heap.size = gQ at R5 ⊢
                  have hL : q ≤ 300 := by omega
                  obtain ⟨n6, hn6⟩ : ∃ k, k = q + 1 := ⟨_, rfl⟩
                  have HN6 := κ hn6
                  clear hn6
                  refine wpL_next (n := 8) (by kernel_rfl) rfl (fun K' hK => ?_)
                  refine step_appA OF R5 HN6.out rfl _ _ _ rfl i3 (.int .i64 0) 8 Tryd.underlying24 hi3 hy0 hy1 hy2 rfl (by decide) rfl rfl rfl (by simp [Value.oneCell']) (by unfold maxLen; omega) (by omega) zF.out ?_
                  intro A6 c6 wG ho6 hg6 hob6
                  have mG := κ (Ls_gr mF.out OF.out (by decide) (by decide) hg6.out)
                  have sG := κ (blk_own_grown sF.out OF.out (by decide) hg6.out)
                  have KG := κ (KF.out.grI OF.out (by decide) HB.out.1 (by decide) (by decide) hg6.out HB.out.2)
                  have blG : Hid (Below w.heap.size wD wG) := κ (grown_below blF.out OF.out hg6.out HB.out.2 KF.out.b.size)
                  have zG : Hid (B3 ≤ wG.heap.size) := κ (Nat.le_trans zF.out hg6.out.size)
                  have cG : wG.cell? ⟨gS, 8, none⟩ = some (.slice Ap q cp) := sG.out.cell 8
                  have yG : wG.frozen? ⟨gS, 8, none⟩ = false := sG.out.thaw 8
                  have HTG : Hid (wG.cell? ⟨gS, 8, none⟩ = some (.slice Ap q cp) ∧ wG.cell? ⟨b, o + kq, none⟩ = some (.int .u8 m0)) := κ ⟨cG, cD.out _ blG.out⟩
                  refine hK.out _ _ HTG.out ?_
                  clear hK K'
                  (try simp only [Act.put, List.getElem_toArray, List.getElem_cons_succ, List.getElem_cons_zero, List.setIfInBounds_toArray, List.set_cons_zero, List.set_cons_succ])
                  refine wpL_word (i := 9) (v := ?_) rfl (by kernel_rfl) (fun _ _ _ h => h) (by kernel_rfl) _ _ _ _ (by kernel_rfl) (by kernel_rfl) (Or.inl ⟨by rfl, ?_⟩) (fun _ => HTG.out) ?_
                  rotate_left
                  · intro w' _
                    go_simp
                    try with_reducible rfl
                  (try simp only [Act.put, List.getElem_toArray, List.getElem_cons_succ, List.getElem_cons_zero, List.setIfInBounds_toArray, List.set_cons_zero, List.set_cons_succ])
                  refine wpL_late (n := 10) (by kernel_rfl) rfl (by kernel_rfl) (fun K' hK => ?_)
                  go_simp
                  refine hK.out _ _ ?_
                  clear hK K'
                  (try simp only [Act.put, List.getElem_toArray, List.getElem_cons_succ, List.getElem_cons_zero, List.setIfInBounds_toArray, List.set_cons_zero, List.set_cons_succ])
                  refine wpL_done (by kernel_rfl) ?_ _
                  refine NoPanic.normal ?_
                  have s7 : Hid (Blk (wG.setCell ⟨gS, 8, none⟩ (.slice A6 n6 c6)) gS 38 #[.int .i64 (1 + ((x0 : Nat) : Int) % 3), .int .i64 (((x1 : Nat) : Int) % 4), .int .i64 (1 + ((x2 : Nat) : Int) % 6), .int .i64 (1 + ((x3 : Nat) : Int) % 6), .slice An 4 cn, .slice (some ⟨gB, 0, none⟩) 3 3, .slice (some ⟨gY, 0, none⟩) 2 2, .slice (some ⟨gL, 0, none⟩) 3 3, .slice A6 n6 c6]) := κ (blk_st sG.out 8 _)
                  have m7 := κ (mG.out.st sG.out (by decide) (by decide) 8 (.slice A6 n6 c6))
                  have K7 := κ (KG.out.st sG.out (by decide) (by decide) (by decide) dRS.out hgS.out 8 (.slice A6 n6 c6))
                  have o7 := κ (own_st ho6.out sG.out (by decide) 8 (.slice A6 n6 c6))
                  have z7 : Hid (B3 ≤ (wG.setCell ⟨gS, 8, none⟩ (.slice A6 n6 c6)).heap.size) := κ (by simpa using zG.out)
                  rw [← hpi.out] at o7
                  have ek : Hid ((12 + (q + 1) : Nat) = kq + 1) := κ (by rw [HKQ.out]; omega)
                  have hk4 : wrap64 ((kq : Int) + 1) = (kq : Int) + 1 := by have := HKQ.out; unfold wrap64; omega
                  clear mG sG KG blG cG yG HTG HTF R5 mF sF KF OF blF ho6 hg6 hob6 cD zF zG V0 i0l hpi hL hlt2
                  generalize wG.setCell ⟨gS, 8, none⟩ (.slice A6 n6 c6) = w7 at m7 s7 K7 o7 z7 ⊢
                  go_wp2_with fail
                  go_roundg g8
                  case measure => omega
                  case rel =>
                    have hn6 := HN6.out
                    subst hn6
                    exact ⟨q + 1, A6, c6, by omega, by rw [ek.out]; first | (rw [hk4, Int.natCast_add]; rfl) | (rw [Int.natCast_add]; rfl), m7, s7, K7, o7, z7⟩
                · have t3 : decide ((kq : Int) < ((l.length : Nat) : Int)) = false := decide_eq_false (by omega)
                  obtain rfl : q = l.length - 12 := by omega
                  have hR : Ris wq wq.heap.size Ap (piF l) := by
                    have h := Rd.of_own Or.out
                    rwa [List.take_of_length_le (by rw [piF_len]; omega)] at h
                  obtain ⟨j0, j1, j2, j3, j4, j5, j6, j7, j8⟩ := q9_of sr.out
                  obtain ⟨s0, s1, s2, s3, s4, s5, s6, s7, s8, y0, y1, y2, y3, y4, y5, y6, y7, y8⟩ := z9_of Kr.out.r
                  have hR0 := κ hR
                  clear hR HKQ hkq
                  go_wp2_with fail
                  have f3 := st9_blk (v0 := .int .i64 (1 + ((x0 : Nat) : Int) % 3)) (v1 := .int .i64 (((x1 : Nat) : Int) % 4)) (v2 := .int .i64 (1 + ((x2 : Nat) : Int) % 6)) (v3 := .int .i64 (1 + ((x3 : Nat) : Int) % 6)) (v4 := .slice An 4 cn) (v5 := .slice (some ⟨gB, 0, none⟩) 3 3) (v6 := .slice (some ⟨gY, 0, none⟩) 2 2) (v7 := .slice (some ⟨gL, 0, none⟩) 3 3) (v8 := .slice Ap (l.length - 12) cp) Kr.out.r
                  have hM := Ls.st9 (v0 := .int .i64 (1 + ((x0 : Nat) : Int) % 3)) (v1 := .int .i64 (((x1 : Nat) : Int) % 4)) (v2 := .int .i64 (1 + ((x2 : Nat) : Int) % 6)) (v3 := .int .i64 (1 + ((x3 : Nat) : Int) % 6)) (v4 := .slice An 4 cn) (v5 := .slice (some ⟨gB, 0, none⟩) 3 3) (v6 := .slice (some ⟨gY, 0, none⟩) 2 2) (v7 := .slice (some ⟨gL, 0, none⟩) 3 3) (v8 := .slice Ap (l.length - 12) cp) mr.out Kr.out.r (by decide) (by decide)
                  have hF := Cr.fin (v0 := .int .i64 (1 + ((x0 : Nat) : Int) % 3)) (v1 := .int .i64 (((x1 : Nat) : Int) % 4)) (v2 := .int .i64 (1 + ((x2 : Nat) : Int) % 6)) (v3 := .int .i64 (1 + ((x3 : Nat) : Int) % 6)) (v4 := .slice An 4 cn) (v5 := .slice (some ⟨gB, 0, none⟩) 3 3) (v6 := .slice (some ⟨gY, 0, none⟩) 2 2) (v7 := .slice (some ⟨gL, 0, none⟩) 3 3) (v8 := .slice Ap (l.length - 12) cp) Kr.out hg.out
                  have hO := own_st9 (v0 := .int .i64 (1 + ((x0 : Nat) : Int) % 3)) (v1 := .int .i64 (((x1 : Nat) : Int) % 4)) (v2 := .int .i64 (1 + ((x2 : Nat) : Int) % 6)) (v3 := .int .i64 (1 + ((x3 : Nat) : Int) % 6)) (v4 := .slice An 4 cn) (v5 := .slice (some ⟨gB, 0, none⟩) 3 3) (v6 := .slice (some ⟨gY, 0, none⟩) 2 2) (v7 := .slice (some ⟨gL, 0, none⟩) 3 3) (v8 := .slice Ap (l.length - 12) cp) Or.out Kr.out.r (by decide)
                  clear j0 s0 y0 j1 s1 y1 j2 s2 y2 j3 s3 y3 j4 s4 y4 j5 s5 y5 j6 s6 y6 j7 s7 y7 j8 s8 y8
                  obtain ⟨d0, d1, d2, d3, d4, d5, d6, d7, d8⟩ := q9_of f3
                  unfold st9 at d0 d1 d2 d3 d4 d5 d6 d7 d8 hM hF hO
                  refine bodyPost_ret (v := .agg #[.int .i64 (1 + ((x0 : Nat) : Int) % 3), .int .i64 (((x1 : Nat) : Int) % 4), .int .i64 (1 + ((x2 : Nat) : Int) % 6), .int .i64 (1 + ((x3 : Nat) : Int) % 6), .slice An 4 cn, .slice (some ⟨gB, 0, none⟩) 3 3, .slice (some ⟨gY, 0, none⟩) 2 2, .slice (some ⟨gL, 0, none⟩) 3 3, .slice Ap (l.length - 12) cp]) (by simp [results, Tryd.results5, go_sem, d0, d1, d2, d3, d4, d5, d6, d7, d8]) rfl ⟨An, cn, gB, gY, gL, Ap, cp, P, p, ?_, Rd.of_own hF.1, hF.2.1, hF.2.2.1, by rw [HCN.out]; exact hM, ?_, hF.2.2.2⟩
                  · unfold rcV
                    rw [E0.out, E1.out, E2.out, E3.out]
                  · have h := Rd.of_own hO
                    rwa [List.take_of_length_le (by rw [piF_len]; omega)] at h
end Rrd
end Go.Proofs.YtmjkhejfhpgiiaaDoor
