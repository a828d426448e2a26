/- Texts side by side. -/
import Derived.Test.YtmjkhejfhpgiiaaDoorSrqm
set_option linter.unusedVariables false
set_option linter.unusedSimpArgs false
set_option maxRecDepth 100000
set_option maxHeartbeats 16000000
namespace Go.Proofs.YtmjkhejfhpgiiaaDoor
open Kap Go.ChangeShapes Go.WideShapes Go.ChangeAt Go.RowKit Go.Lib Mem Tre Crd CrdC Fix3 Cfg Stk Rul1 Wpl Scf Srd St7 Rcr
namespace Lcf
open Lat Lap Apt Mdb Bko Sc3 Lst Law3
attribute [local go_sem] run_store_float
theorem rnode_i : (Tryd.prog.info? 61).map (fun i => (i.zero, i.size, i.bytes)) = some (some (.agg #[.int .i64 0, .int .i64 0]), 2, 16) := by kernel_rfl
theorem rsym_i : (Tryd.prog.info? 64).map (fun i => (i.zero, i.size, i.bytes)) = some (some (.agg #[.int .i64 0, .int .i64 0, .int .i64 0, .float .f64 0]), 4, 32) := by kernel_rfl
structure Lk (l : List UInt8) (w W : World) (gA gB gC gP gR gO : Nat) (An : Option Addr) (i cn : Nat) (B5 : Option Addr) (b5 : Nat) (Cs : Option Addr) (j cs : Nat) : Prop where
  p : Blk W gP 27 #[.int .i64 (1 + bt l 0 % 3), .int .i64 (bt l 1 % 4), .int .i64 (1 + bt l 2 % 6), .int .i64 (1 + bt l 3 % 6), .slice (some ⟨gA, 0, none⟩) 4 4, .slice (some ⟨gB, 0, none⟩) 3 3, .slice (some ⟨gC, 0, none⟩) 2 2]
  o : Blk W gO 35 #[.int .i64 (1 + bt l 0 % 3), .int .i64 (bt l 1 % 4), .int .i64 (1 + bt l 2 % 6), .int .i64 (1 + bt l 3 % 6), .slice An i cn, .slice B5 3 b5, .slice Cs j cs]
  r : Blk W gR 35 #[.int .i64 0, .int .i64 0, .int .i64 0, .int .i64 0, .slice none 0 0, .slice none 0 0, .slice none 0 0]
  n : W.ownsRow w.heap.size 61 2 (.slice An i cn) i (nds ((cfN l).take i))
  a : W.ownsRow w.heap.size 3 1 (.slice B5 3 b5) 3 (ints cfA)
  s : W.ownsRow w.heap.size 64 4 (.slice Cs j cs) j (smbs (cfS.take j))
  b : Below w.heap.size w W
  d : gR ≠ gO
  lo : w.heap.size ≤ gO
section
variable {l : List UInt8} {w W W' : World} {gA gB gC gP gR gO i cn b5 j cs i' cn' : Nat} {An B5 Cs An' : Option Addr}
theorem Lk.below (h : Lk l w W gA gB gC gP gR gO An i cn B5 b5 Cs j cs) (hb : Below W.heap.size W W') : Lk l w W' gA gB gC gP gR gO An i cn B5 b5 Cs j cs :=
  ⟨h.p.below' hb, h.o.below' hb, h.r.below' hb, (own_below (κ h.n) hb).out, (own_below (κ h.a) hb).out, (own_below (κ h.s) hb).out, Rul1.below_step h.b hb, h.d, h.lo⟩
theorem Lk.drew (h : Lk l w W gA gB gC gP gR gO An i cn B5 b5 Cs j cs) : Lk l w W.drew gA gB gC gP gR gO An i cn B5 b5 Cs j cs :=
  ⟨h.p, h.o, h.r, h.n, h.a, h.s, h.b.drew, h.d, h.lo⟩
theorem Lk.pushN (h : Lk l w W gA gB gC gP gR gO An i cn B5 b5 Cs j cs) (ho : W'.ownsRow w.heap.size 61 2 (.slice An' i' cn') i' (nds ((cfN l).take i'))) (hg : W.grownBy W' (Value.slice An i cn).ownBlock) : Lk l w (W'.setCell ⟨gO, 4, none⟩ (.slice An' i' cn')) gA gB gC gP gR gO An' i' cn' B5 b5 Cs j cs :=
  have k := blk_own_grown h.o h.n (by decide) hg
  have kp := blk_own_grown h.p h.n (by decide) hg
  ⟨far_st kp (blk_ne kp k (by decide)) _, blk_st k 4 _, far_st (blk_own_grown h.r h.n (by decide) hg) h.d _, own_st ho k (by decide) 4 _, own_st (Apt.own_grown h.a h.n (by decide) hg) k (by decide) 4 _, own_st (Apt.own_grown h.s h.n (by decide) hg) k (by decide) 4 _, (grown_below h.b h.n hg (Nat.le_refl _) h.b.size).setCell (p := ⟨gO, 4, none⟩) h.lo _, h.d, h.lo⟩
theorem Lk.pushS (h : Lk l w W gA gB gC gP gR gO An i cn B5 b5 Cs j cs) (ho : W'.ownsRow w.heap.size 64 4 (.slice An' i' cn') i' (smbs (cfS.take i'))) (hg : W.grownBy W' (Value.slice Cs j cs).ownBlock) : Lk l w (W'.setCell ⟨gO, 6, none⟩ (.slice An' i' cn')) gA gB gC gP gR gO An i cn B5 b5 An' i' cn' :=
  have k := blk_own_grown h.o h.s (by decide) hg
  have kp := blk_own_grown h.p h.s (by decide) hg
  ⟨far_st kp (blk_ne kp k (by decide)) _, blk_st k 6 _, far_st (blk_own_grown h.r h.s (by decide) hg) h.d _, own_st (Apt.own_grown h.n h.s (by decide) hg) k (by decide) 6 _, own_st (Apt.own_grown h.a h.s (by decide) hg) k (by decide) 6 _, own_st ho k (by decide) 6 _, (grown_below h.b h.s hg (Nat.le_refl _) h.b.size).setCell (p := ⟨gO, 6, none⟩) h.lo _, h.d, h.lo⟩
end
def MadeLc (l : List UInt8) (w : World) (e : Ending) (w' : World) : Prop := ∃ An cn B5 b5 Cs cs, e = .returned (.agg #[.int .i64 (1 + bt l 0 % 3), .int .i64 (bt l 1 % 4), .int .i64 (1 + bt l 2 % 6), .int .i64 (1 + bt l 3 % 6), .slice An 4 cn, .slice B5 3 b5, .slice Cs 2 cs]) ∧ Nds w' w'.heap.size An (cfN l) ∧ Ris w' w'.heap.size B5 cfA ∧ Smb w' w'.heap.size Cs cfS ∧ Below w.heap.size w w'
theorem cfN_in (l : List UInt8) {i : Nat} (hi : i < 4) : inI (nP (cfN l) i) ∧ inI (nC (cfN l) i) := by
  have p4 := bt_in l 4
  have p5 := bt_in l 5
  have p6 := bt_in l 6
  have p7 := bt_in l 7
  unfold inI nP nC cfN
  match i, hi with
  | 0, _ => simp only [List.getD_cons_zero]; omega
  | 1, _ => simp only [List.getD_cons_zero, List.getD_cons_succ]; omega
  | 2, _ => simp only [List.getD_cons_zero, List.getD_cons_succ]; omega
  | 3, _ => simp only [List.getD_cons_zero, List.getD_cons_succ]; omega
theorem lconfig_any (l : List UInt8) (wx w : World) (gA gB gC : Nat) (h : Hid (Cn l wx w gA gB gC)) : Calls Tryd.prog 9 #[cnV l gA gB gC] w (MadeLc l w) := by
  obtain ⟨i3, hi3, hy0, hy1, hy2⟩ := info_parts Rul6.int_info6
  obtain ⟨i0, hi0, hz0, hz1, hz2⟩ := info_parts rnode_i
  obtain ⟨i1, hi1, hx0, hx1, hx2⟩ := info_parts rsym_i
  have v1 := κ ((Below.refl w.heap.size w).alloc (Nat.le_refl _) (.cells #[.int .i64 (1 + bt l 0 % 3), .int .i64 (bt l 1 % 4), .int .i64 (1 + bt l 2 % 6), .int .i64 (1 + bt l 3 % 6), .slice (some ⟨gA, 0, none⟩) 4 4, .slice (some ⟨gB, 0, none⟩) 3 3, .slice (some ⟨gC, 0, none⟩) 2 2] 27))
  have v2 := κ (v1.out.alloc v1.out.size (.cells #[.int .i64 0, .int .i64 0, .int .i64 0, .int .i64 0, .slice none 0 0, .slice none 0 0, .slice none 0 0] 35))
  have P0 : Hid (Blk ((w.alloc (.cells #[.int .i64 (1 + bt l 0 % 3), .int .i64 (bt l 1 % 4), .int .i64 (1 + bt l 2 % 6), .int .i64 (1 + bt l 3 % 6), .slice (some ⟨gA, 0, none⟩) 4 4, .slice (some ⟨gB, 0, none⟩) 3 3, .slice (some ⟨gC, 0, none⟩) 2 2] 27)).alloc (.cells #[.int .i64 0, .int .i64 0, .int .i64 0, .int .i64 0, .slice none 0 0, .slice none 0 0, .slice none 0 0] 35)) w.heap.size 27 #[.int .i64 (1 + bt l 0 % 3), .int .i64 (bt l 1 % 4), .int .i64 (1 + bt l 2 % 6), .int .i64 (1 + bt l 3 % 6), .slice (some ⟨gA, 0, none⟩) 4 4, .slice (some ⟨gB, 0, none⟩) 3 3, .slice (some ⟨gC, 0, none⟩) 2 2]) := κ ((Rul6.blk_at (w := w) rfl).alloc (.cells #[.int .i64 0, .int .i64 0, .int .i64 0, .int .i64 0, .slice none 0 0, .slice none 0 0, .slice none 0 0] 35))
  have R0 : Hid (Blk ((w.alloc (.cells #[.int .i64 (1 + bt l 0 % 3), .int .i64 (bt l 1 % 4), .int .i64 (1 + bt l 2 % 6), .int .i64 (1 + bt l 3 % 6), .slice (some ⟨gA, 0, none⟩) 4 4, .slice (some ⟨gB, 0, none⟩) 3 3, .slice (some ⟨gC, 0, none⟩) 2 2] 27)).alloc (.cells #[.int .i64 0, .int .i64 0, .int .i64 0, .int .i64 0, .slice none 0 0, .slice none 0 0, .slice none 0 0] 35)) (w.heap.size + 1) 35 #[.int .i64 0, .int .i64 0, .int .i64 0, .int .i64 0, .slice none 0 0, .slice none 0 0, .slice none 0 0]) := κ (Rul6.blk_at (w := w.alloc (.cells #[.int .i64 (1 + bt l 0 % 3), .int .i64 (bt l 1 % 4), .int .i64 (1 + bt l 2 % 6), .int .i64 (1 + bt l 3 % 6), .slice (some ⟨gA, 0, none⟩) 4 4, .slice (some ⟨gB, 0, none⟩) 3 3, .slice (some ⟨gC, 0, none⟩) 2 2] 27)) (by simp))
  have hl1 : Hid (w.heap.size ≤ w.heap.size + 1) := κ (by omega)
  have hb1 : Hid (gB < w.heap.size) := κ h.out.b.lt
  unfold cnV
  go_enter Tryd.func9, Tryd.ntmps9
  go_upto_region 1 with fail
  clear v1
  generalize (w.alloc (.cells #[.int .i64 (1 + bt l 0 % 3), .int .i64 (bt l 1 % 4), .int .i64 (1 + bt l 2 % 6), .int .i64 (1 + bt l 3 % 6), .slice (some ⟨gA, 0, none⟩) 4 4, .slice (some ⟨gB, 0, none⟩) 3 3, .slice (some ⟨gC, 0, none⟩) 2 2] 27)).alloc (.cells #[.int .i64 0, .int .i64 0, .int .i64 0, .int .i64 0, .slice none 0 0, .slice none 0 0, .slice none 0 0] 35) = wA at v2 P0 R0 ⊢
  obtain ⟨gR, hgR⟩ : ∃ g, g = w.heap.size + 1 := ⟨_, rfl⟩
  obtain ⟨gP, hgP⟩ : ∃ g, g = w.heap.size := ⟨_, rfl⟩
  rw [← hgR] at R0 hl1 ⊢
  have HP : Hid (Blk wA gP 27 #[.int .i64 (1 + bt l 0 % 3), .int .i64 (bt l 1 % 4), .int .i64 (1 + bt l 2 % 6), .int .i64 (1 + bt l 3 % 6), .slice (some ⟨gA, 0, none⟩) 4 4, .slice (some ⟨gB, 0, none⟩) 3 3, .slice (some ⟨gC, 0, none⟩) 2 2]) := κ (by rw [hgP]; exact P0.out)
  rw [show (Value.pointer (some ⟨w.heap.size, 0, none⟩)) = Value.pointer (some ⟨gP, 0, none⟩) by rw [hgP]]
  clear hgR hgP P0
  go_cut [3] (fun s3 wx => ∃ gO B5 b5, s3 = .pointer (some ⟨gO, 0, none⟩) ∧ Hid (Lk l w wx gA gB gC gP gR gO none 0 0 B5 b5 none 0 0))
  case first =>
    refine wp_region_noPanic ?_
    refine wp_region_L (T := (fun w' => w'.cell? ⟨gP, 0, none⟩ = some (.int .i64 (1 + bt l 0 % 3)) ∧ w'.cell? ⟨gP, 1, none⟩ = some (.int .i64 (bt l 1 % 4)) ∧ w'.cell? ⟨gP, 2, none⟩ = some (.int .i64 (1 + bt l 2 % 6)) ∧ w'.cell? ⟨gP, 3, none⟩ = some (.int .i64 (1 + bt l 3 % 6)) ∧ w'.cell? ⟨gP, 5, none⟩ = some (.slice (some ⟨gB, 0, none⟩) 3 3))) (st := [14]) (by kernel_rfl) ?_
    have pD : Hid (Blk wA.drew gP 27 #[.int .i64 (1 + bt l 0 % 3), .int .i64 (bt l 1 % 4), .int .i64 (1 + bt l 2 % 6), .int .i64 (1 + bt l 3 % 6), .slice (some ⟨gA, 0, none⟩) 4 4, .slice (some ⟨gB, 0, none⟩) 3 3, .slice (some ⟨gC, 0, none⟩) 2 2]) := HP
    have rD : Hid (Blk wA.drew gR 35 #[.int .i64 0, .int .i64 0, .int .i64 0, .int .i64 0, .slice none 0 0, .slice none 0 0, .slice none 0 0]) := R0
    have bD := κ v2.out.drew
    clear HP R0 v2
    generalize wA.drew = wD at pD rD bD ⊢
    have HTD : Hid (wD.cell? ⟨gP, 0, none⟩ = some (.int .i64 (1 + bt l 0 % 3)) ∧ wD.cell? ⟨gP, 1, none⟩ = some (.int .i64 (bt l 1 % 4)) ∧ wD.cell? ⟨gP, 2, none⟩ = some (.int .i64 (1 + bt l 2 % 6)) ∧ wD.cell? ⟨gP, 3, none⟩ = some (.int .i64 (1 + bt l 3 % 6)) ∧ wD.cell? ⟨gP, 5, none⟩ = some (.slice (some ⟨gB, 0, none⟩) 3 3)) := κ ⟨pD.out.cell 0, pD.out.cell 1, pD.out.cell 2, pD.out.cell 3, pD.out.cell 5⟩
    have hA : Hid (∀ W, Below w.heap.size w W → Rd W W.heap.size (some ⟨gB, 0, none⟩) (ints cfA)) := κ (fun W hb => (h.out.b.rd' rfl).below' hb hb.size)
    refine wpL_word (i := 0) (v := ?_) rfl (by kernel_rfl) (fun _ _ _ h => h) (by kernel_rfl) _ _ _ _ (by kernel_rfl) (by kernel_rfl) (Or.inl ⟨by rfl, ?_⟩) (fun _ => HTD.out) ?_
    rotate_left
    · intro w' _
      go_simp
      try with_reducible rfl
    (try simp only [Act.put, List.getElem_toArray, List.getElem_cons_succ, List.getElem_cons_zero, List.setIfInBounds_toArray, List.set_cons_zero, List.set_cons_succ])
    refine wpL_load (i := 1) (v := ?_) rfl (by kernel_rfl) (fun _ _ _ h => h) (by kernel_rfl) (by kernel_rfl) _ _ _ _ (by kernel_rfl) (by kernel_rfl) (Or.inl ⟨by rfl, ?_⟩) (by kernel_rfl) HTD.out ?_
    rotate_left
    · intro w' hS
      (try dsimp only at hS)
      obtain ⟨n1, n2, n3, n4, n5⟩ := hS
      go_simp
      try with_reducible rfl
    (try simp only [Act.put, List.getElem_toArray, List.getElem_cons_succ, List.getElem_cons_zero, List.setIfInBounds_toArray, List.set_cons_zero, List.set_cons_succ])
    refine wpL_word (i := 2) (v := ?_) rfl (by kernel_rfl) (fun _ _ _ h => h) (by kernel_rfl) _ _ _ _ (by kernel_rfl) (by kernel_rfl) (Or.inl ⟨by rfl, ?_⟩) (fun _ => HTD.out) ?_
    rotate_left
    · intro w' _
      go_simp
      try with_reducible rfl
    (try simp only [Act.put, List.getElem_toArray, List.getElem_cons_succ, List.getElem_cons_zero, List.setIfInBounds_toArray, List.set_cons_zero, List.set_cons_succ])
    refine wpL_load (i := 3) (v := ?_) rfl (by kernel_rfl) (fun _ _ _ h => h) (by kernel_rfl) (by kernel_rfl) _ _ _ _ (by kernel_rfl) (by kernel_rfl) (Or.inl ⟨by rfl, ?_⟩) (by kernel_rfl) HTD.out ?_
    rotate_left
    · intro w' hS
      (try dsimp only at hS)
      obtain ⟨n1, n2, n3, n4, n5⟩ := hS
      go_simp
      try with_reducible rfl
    (try simp only [Act.put, List.getElem_toArray, List.getElem_cons_succ, List.getElem_cons_zero, List.setIfInBounds_toArray, List.set_cons_zero, List.set_cons_succ])
    refine wpL_word (i := 4) (v := ?_) rfl (by kernel_rfl) (fun _ _ _ h => h) (by kernel_rfl) _ _ _ _ (by kernel_rfl) (by kernel_rfl) (Or.inl ⟨by rfl, ?_⟩) (fun _ => HTD.out) ?_
    rotate_left
    · intro w' _
      go_simp
      try with_reducible rfl
    (try simp only [Act.put, List.getElem_toArray, List.getElem_cons_succ, List.getElem_cons_zero, List.setIfInBounds_toArray, List.set_cons_zero, List.set_cons_succ])
    refine wpL_load (i := 5) (v := ?_) rfl (by kernel_rfl) (fun _ _ _ h => h) (by kernel_rfl) (by kernel_rfl) _ _ _ _ (by kernel_rfl) (by kernel_rfl) (Or.inl ⟨by rfl, ?_⟩) (by kernel_rfl) HTD.out ?_
    rotate_left
    · intro w' hS
      (try dsimp only at hS)
      obtain ⟨n1, n2, n3, n4, n5⟩ := hS
      go_simp
      try with_reducible rfl
    (try simp only [Act.put, List.getElem_toArray, List.getElem_cons_succ, List.getElem_cons_zero, List.setIfInBounds_toArray, List.set_cons_zero, List.set_cons_succ])
    refine wpL_word (i := 6) (v := ?_) rfl (by kernel_rfl) (fun _ _ _ h => h) (by kernel_rfl) _ _ _ _ (by kernel_rfl) (by kernel_rfl) (Or.inl ⟨by rfl, ?_⟩) (fun _ => HTD.out) ?_
    rotate_left
    · intro w' _
      go_simp
      try with_reducible rfl
    (try simp only [Act.put, List.getElem_toArray, List.getElem_cons_succ, List.getElem_cons_zero, List.setIfInBounds_toArray, List.set_cons_zero, List.set_cons_succ])
    refine wpL_load (i := 7) (v := ?_) rfl (by kernel_rfl) (fun _ _ _ h => h) (by kernel_rfl) (by kernel_rfl) _ _ _ _ (by kernel_rfl) (by kernel_rfl) (Or.inl ⟨by rfl, ?_⟩) (by kernel_rfl) HTD.out ?_
    rotate_left
    · intro w' hS
      (try dsimp only at hS)
      obtain ⟨n1, n2, n3, n4, n5⟩ := hS
      go_simp
      try with_reducible rfl
    (try simp only [Act.put, List.getElem_toArray, List.getElem_cons_succ, List.getElem_cons_zero, List.setIfInBounds_toArray, List.set_cons_zero, List.set_cons_succ])
    refine wpL_word (i := 9) (v := ?_) rfl (by kernel_rfl) (fun _ _ _ h => h) (by kernel_rfl) _ _ _ _ (by kernel_rfl) (by kernel_rfl) (Or.inl ⟨by rfl, ?_⟩) (fun _ => HTD.out) ?_
    rotate_left
    · intro w' _
      go_simp
      try with_reducible rfl
    (try simp only [Act.put, List.getElem_toArray, List.getElem_cons_succ, List.getElem_cons_zero, List.setIfInBounds_toArray, List.set_cons_zero, List.set_cons_succ])
    refine wpL_load (i := 10) (v := ?_) rfl (by kernel_rfl) (fun _ _ _ h => h) (by kernel_rfl) (by kernel_rfl) _ _ _ _ (by kernel_rfl) (by kernel_rfl) (Or.inl ⟨by rfl, ?_⟩) (by kernel_rfl) HTD.out ?_
    rotate_left
    · intro w' hS
      (try dsimp only at hS)
      obtain ⟨n1, n2, n3, n4, n5⟩ := hS
      go_simp
      try with_reducible rfl
    (try simp only [Act.put, List.getElem_toArray, List.getElem_cons_succ, List.getElem_cons_zero, List.setIfInBounds_toArray, List.set_cons_zero, List.set_cons_succ])
    refine wpL_two (m := 8) (n := 13) (by kernel_rfl) rfl rfl ?_ ?_
    · intro K' hK
      go_simp
      have hu : Below wD.heap.size wD (wD.alloc (.cells #[] 3)) := (Below.refl _ _).alloc (Nat.le_refl _) _
      have pE1 := κ (pD.out.below' hu)
      have rE1 := κ (rD.out.below' hu)
      have bE1 := κ (Rul1.below_step bD.out hu)
      have oeE1 : Hid (World.ownsRow (wD.alloc (.cells #[] 3)) w.heap.size 3 1 (.slice (some ⟨wD.heap.size, 0, none⟩) 0 0) 0 []) := κ (own_empty (Blk.fresh _ _ _) bD.out.size)
      clear hu pD rD bD HTD
      generalize wD.alloc (.cells #[] 3) = wE1 at pE1 rE1 bE1 oeE1 ⊢
      generalize wD.heap.size = gS at oeE1 ⊢
      have HTE1 : Hid (wE1.cell? ⟨gP, 0, none⟩ = some (.int .i64 (1 + bt l 0 % 3)) ∧ wE1.cell? ⟨gP, 1, none⟩ = some (.int .i64 (bt l 1 % 4)) ∧ wE1.cell? ⟨gP, 2, none⟩ = some (.int .i64 (1 + bt l 2 % 6)) ∧ wE1.cell? ⟨gP, 3, none⟩ = some (.int .i64 (1 + bt l 3 % 6)) ∧ wE1.cell? ⟨gP, 5, none⟩ = some (.slice (some ⟨gB, 0, none⟩) 3 3)) := κ ⟨pE1.out.cell 0, pE1.out.cell 1, pE1.out.cell 2, pE1.out.cell 3, pE1.out.cell 5⟩
      refine hK.out _ _ HTE1.out ?_
      clear hK K'
      (try simp only [Act.put, List.getElem_toArray, List.getElem_cons_succ, List.getElem_cons_zero, List.setIfInBounds_toArray, List.set_cons_zero, List.set_cons_succ])
      refine wpL_two (m := 11) (n := 13) (by kernel_rfl) rfl rfl ?_ ?_
      · intro K' hK
        refine step_appA (nm := 3) oeE1 (κ (hA.out _ bE1.out)) rfl rfl _ _ _ rfl i3 (.int .i64 0) 8 Tryd.underlying24 hi3 hy0 hy1 hy2 rfl (by decide) rfl rfl rfl (ints_one _) (by unfold maxLen; omega) (by omega) bE1.out.size ?_
        intro B5 b5 wE2 ho hg hob
        have pE2 := κ (blk_own_grown pE1.out oeE1.out (by decide) hg.out)
        have rE2 := κ (blk_own_grown rE1.out oeE1.out (by decide) hg.out)
        have bE2 := κ (grown_below bE1.out oeE1.out hg.out (Nat.le_refl _) bE1.out.size)
        have oaE2 : Hid (World.ownsRow wE2 w.heap.size 3 1 (.slice B5 3 b5) 3 (ints cfA)) := ho
        clear pE1 rE1 bE1 HTE1 oeE1 ho hg hob
        have HTE2 : Hid (wE2.cell? ⟨gP, 0, none⟩ = some (.int .i64 (1 + bt l 0 % 3)) ∧ wE2.cell? ⟨gP, 1, none⟩ = some (.int .i64 (bt l 1 % 4)) ∧ wE2.cell? ⟨gP, 2, none⟩ = some (.int .i64 (1 + bt l 2 % 6)) ∧ wE2.cell? ⟨gP, 3, none⟩ = some (.int .i64 (1 + bt l 3 % 6)) ∧ wE2.cell? ⟨gP, 5, none⟩ = some (.slice (some ⟨gB, 0, none⟩) 3 3)) := κ ⟨pE2.out.cell 0, pE2.out.cell 1, pE2.out.cell 2, pE2.out.cell 3, pE2.out.cell 5⟩
        refine hK.out _ _ HTE2.out ?_
        clear hK K'
        (try simp only [Act.put, List.getElem_toArray, List.getElem_cons_succ, List.getElem_cons_zero, List.setIfInBounds_toArray, List.set_cons_zero, List.set_cons_succ])
        refine wpL_word (i := 12) (v := ?_) rfl (by kernel_rfl) (fun _ _ _ h => h) (by kernel_rfl) _ _ _ _ (by kernel_rfl) (by kernel_rfl) (Or.inl ⟨by rfl, ?_⟩) (fun _ => HTE2.out) ?_
        rotate_left
        · intro w' _
          go_simp
          try with_reducible rfl
        (try simp only [Act.put, List.getElem_toArray, List.getElem_cons_succ, List.getElem_cons_zero, List.setIfInBounds_toArray, List.set_cons_zero, List.set_cons_succ])
        refine wpL_next (n := 13) (by kernel_rfl) rfl ?_
        · intro K' hK
          go_simp
          have hu : Below wE2.heap.size wE2 (wE2.alloc (.cells #[.int .i64 0, .int .i64 0, .int .i64 0, .int .i64 0, .slice none 0 0, .slice none 0 0, .slice none 0 0] 35)) := (Below.refl _ _).alloc (Nat.le_refl _) _
          have pE3 := κ (pE2.out.below' hu)
          have rE3 := κ (rE2.out.below' hu)
          have bE3 := κ (Rul1.below_step bE2.out hu)
          have zE3 := κ (Blk.fresh wE2 35 #[.int .i64 0, .int .i64 0, .int .i64 0, .int .i64 0, .slice none 0 0, .slice none 0 0, .slice none 0 0])
          have lZ : Hid (w.heap.size ≤ wE2.heap.size) := κ bE2.out.size
          have dZ : Hid (gR ≠ wE2.heap.size) := κ (by have := rE2.out.lt; omega)
          have oaE3 := own_below oaE2 hu
          clear hu pE2 rE2 bE2 HTE2 oaE2
          generalize wE2.alloc (.cells #[.int .i64 0, .int .i64 0, .int .i64 0, .int .i64 0, .slice none 0 0, .slice none 0 0, .slice none 0 0] 35) = wE3 at pE3 rE3 bE3 zE3 oaE3 ⊢
          generalize wE2.heap.size = gO at zE3 lZ dZ ⊢
          have HTE3 : Hid (wE3.cell? ⟨gP, 0, none⟩ = some (.int .i64 (1 + bt l 0 % 3)) ∧ wE3.cell? ⟨gP, 1, none⟩ = some (.int .i64 (bt l 1 % 4)) ∧ wE3.cell? ⟨gP, 2, none⟩ = some (.int .i64 (1 + bt l 2 % 6)) ∧ wE3.cell? ⟨gP, 3, none⟩ = some (.int .i64 (1 + bt l 3 % 6)) ∧ wE3.cell? ⟨gP, 5, none⟩ = some (.slice (some ⟨gB, 0, none⟩) 3 3)) := κ ⟨pE3.out.cell 0, pE3.out.cell 1, pE3.out.cell 2, pE3.out.cell 3, pE3.out.cell 5⟩
          refine hK.out _ _ HTE3.out ?_
          clear hK K'
          (try simp only [Act.put, List.getElem_toArray, List.getElem_cons_succ, List.getElem_cons_zero, List.setIfInBounds_toArray, List.set_cons_zero, List.set_cons_succ])
          obtain ⟨s0, s1, s2, s3, s4, s5, s6, y0, y1, y2, y3, y4, y5, y6⟩ := Rul6.z_of zE3.out
          refine wpL_late (n := 14) (by kernel_rfl) rfl (by kernel_rfl) (fun K' hK => ?_)
          go_simp
          refine hK.out _ _ ?_
          clear hK K'
          (try simp only [Act.put, List.getElem_toArray, List.getElem_cons_succ, List.getElem_cons_zero, List.setIfInBounds_toArray, List.set_cons_zero, List.set_cons_succ])
          refine wpL_done (by kernel_rfl) ?_ _
          refine NoPanic.normal ?_
          have FF : Lk l w (St7.st7 wE3 gO (.int .i64 (1 + bt l 0 % 3)) (.int .i64 (bt l 1 % 4)) (.int .i64 (1 + bt l 2 % 6)) (.int .i64 (1 + bt l 3 % 6)) (.slice none 0 0) (.slice B5 3 b5) (.slice none 0 0)) gA gB gC gP gR gO none 0 0 B5 b5 none 0 0 := ⟨Rul6.st7_far pE3.out (blk_ne pE3.out zE3.out (by decide)), St7.st7_blk zE3.out, Rul6.st7_far rE3.out dZ.out, World.ownsRow_nil _ _ _ _, Rul6.own_st7 oaE3.out zE3.out (by decide), World.ownsRow_nil _ _ _ _, St7.st7_below bE3.out lZ.out, dZ.out, lZ.out⟩
          clear s0 y0 s1 y1 s2 y2 s3 y3 s4 y4 s5 y5 s6 y6 pE3 rE3 bE3 zE3 oaE3 HTE3
          unfold St7.st7 at FF
          go_wp2_with fail
          go_meet
          exact ⟨gO, B5, b5, rfl, κ FF⟩
      · intro K' hK
        go_simp
        have hu : Below wE1.heap.size wE1 (wE1.alloc (.cells #[.int .i64 0, .int .i64 0, .int .i64 0, .int .i64 0, .slice none 0 0, .slice none 0 0, .slice none 0 0] 35)) := (Below.refl _ _).alloc (Nat.le_refl _) _
        have pE4 := κ (pE1.out.below' hu)
        have rE4 := κ (rE1.out.below' hu)
        have bE4 := κ (Rul1.below_step bE1.out hu)
        have zE4 := κ (Blk.fresh wE1 35 #[.int .i64 0, .int .i64 0, .int .i64 0, .int .i64 0, .slice none 0 0, .slice none 0 0, .slice none 0 0])
        have lZ : Hid (w.heap.size ≤ wE1.heap.size) := κ bE1.out.size
        have dZ : Hid (gR ≠ wE1.heap.size) := κ (by have := rE1.out.lt; omega)
        have oeE4 := own_below oeE1 hu
        clear hu pE1 rE1 bE1 HTE1 oeE1
        generalize wE1.alloc (.cells #[.int .i64 0, .int .i64 0, .int .i64 0, .int .i64 0, .slice none 0 0, .slice none 0 0, .slice none 0 0] 35) = wE4 at pE4 rE4 bE4 zE4 oeE4 ⊢
        generalize wE1.heap.size = gO at zE4 lZ dZ ⊢
        have HTE4 : Hid (wE4.cell? ⟨gP, 0, none⟩ = some (.int .i64 (1 + bt l 0 % 3)) ∧ wE4.cell? ⟨gP, 1, none⟩ = some (.int .i64 (bt l 1 % 4)) ∧ wE4.cell? ⟨gP, 2, none⟩ = some (.int .i64 (1 + bt l 2 % 6)) ∧ wE4.cell? ⟨gP, 3, none⟩ = some (.int .i64 (1 + bt l 3 % 6)) ∧ wE4.cell? ⟨gP, 5, none⟩ = some (.slice (some ⟨gB, 0, none⟩) 3 3)) := κ ⟨pE4.out.cell 0, pE4.out.cell 1, pE4.out.cell 2, pE4.out.cell 3, pE4.out.cell 5⟩
        refine hK.out _ _ HTE4.out ?_
        clear hK K'
        (try simp only [Act.put, List.getElem_toArray, List.getElem_cons_succ, List.getElem_cons_zero, List.setIfInBounds_toArray, List.set_cons_zero, List.set_cons_succ])
        refine wpL_next (n := 11) (by kernel_rfl) rfl ?_
        · intro K' hK
          refine step_appA (nm := 3) oeE4 (κ (hA.out _ bE4.out)) rfl rfl _ _ _ rfl i3 (.int .i64 0) 8 Tryd.underlying24 hi3 hy0 hy1 hy2 rfl (by decide) rfl rfl rfl (ints_one _) (by unfold maxLen; omega) (by omega) bE4.out.size ?_
          intro B5 b5 wE5 ho hg hob
          have pE5 := κ (blk_own_grown pE4.out oeE4.out (by decide) hg.out)
          have rE5 := κ (blk_own_grown rE4.out oeE4.out (by decide) hg.out)
          have bE5 := κ (grown_below bE4.out oeE4.out hg.out (Nat.le_refl _) bE4.out.size)
          have oaE5 : Hid (World.ownsRow wE5 w.heap.size 3 1 (.slice B5 3 b5) 3 (ints cfA)) := ho
          have zE5 := κ (blk_own_grown zE4.out oeE4.out (by decide) hg.out)
          clear pE4 rE4 bE4 HTE4 oeE4 ho hg hob zE4
          have HTE5 : Hid (wE5.cell? ⟨gP, 0, none⟩ = some (.int .i64 (1 + bt l 0 % 3)) ∧ wE5.cell? ⟨gP, 1, none⟩ = some (.int .i64 (bt l 1 % 4)) ∧ wE5.cell? ⟨gP, 2, none⟩ = some (.int .i64 (1 + bt l 2 % 6)) ∧ wE5.cell? ⟨gP, 3, none⟩ = some (.int .i64 (1 + bt l 3 % 6)) ∧ wE5.cell? ⟨gP, 5, none⟩ = some (.slice (some ⟨gB, 0, none⟩) 3 3)) := κ ⟨pE5.out.cell 0, pE5.out.cell 1, pE5.out.cell 2, pE5.out.cell 3, pE5.out.cell 5⟩
          refine hK.out _ _ HTE5.out ?_
          clear hK K'
          (try simp only [Act.put, List.getElem_toArray, List.getElem_cons_succ, List.getElem_cons_zero, List.setIfInBounds_toArray, List.set_cons_zero, List.set_cons_succ])
          refine wpL_word (i := 12) (v := ?_) rfl (by kernel_rfl) (fun _ _ _ h => h) (by kernel_rfl) _ _ _ _ (by kernel_rfl) (by kernel_rfl) (Or.inl ⟨by rfl, ?_⟩) (fun _ => HTE5.out) ?_
          rotate_left
          · intro w' _
            go_simp
            try with_reducible rfl
          (try simp only [Act.put, List.getElem_toArray, List.getElem_cons_succ, List.getElem_cons_zero, List.setIfInBounds_toArray, List.set_cons_zero, List.set_cons_succ])
          obtain ⟨s0, s1, s2, s3, s4, s5, s6, y0, y1, y2, y3, y4, y5, y6⟩ := Rul6.z_of zE5.out
          refine wpL_late (n := 14) (by kernel_rfl) rfl (by kernel_rfl) (fun K' hK => ?_)
          go_simp
          refine hK.out _ _ ?_
          clear hK K'
          (try simp only [Act.put, List.getElem_toArray, List.getElem_cons_succ, List.getElem_cons_zero, List.setIfInBounds_toArray, List.set_cons_zero, List.set_cons_succ])
          refine wpL_done (by kernel_rfl) ?_ _
          refine NoPanic.normal ?_
          have FF : Lk l w (St7.st7 wE5 gO (.int .i64 (1 + bt l 0 % 3)) (.int .i64 (bt l 1 % 4)) (.int .i64 (1 + bt l 2 % 6)) (.int .i64 (1 + bt l 3 % 6)) (.slice none 0 0) (.slice B5 3 b5) (.slice none 0 0)) gA gB gC gP gR gO none 0 0 B5 b5 none 0 0 := ⟨Rul6.st7_far pE5.out (blk_ne pE5.out zE5.out (by decide)), St7.st7_blk zE5.out, Rul6.st7_far rE5.out dZ.out, World.ownsRow_nil _ _ _ _, Rul6.own_st7 oaE5.out zE5.out (by decide), World.ownsRow_nil _ _ _ _, St7.st7_below bE5.out lZ.out, dZ.out, lZ.out⟩
          clear s0 y0 s1 y1 s2 y2 s3 y3 s4 y4 s5 y5 s6 y6 pE5 rE5 bE5 zE5 oaE5 HTE5
          unfold St7.st7 at FF
          go_wp2_with fail
          go_meet
          exact ⟨gO, B5, b5, rfl, κ FF⟩
    · intro K' hK
      go_simp
      have hu : Below wD.heap.size wD (wD.alloc (.cells #[.int .i64 0, .int .i64 0, .int .i64 0, .int .i64 0, .slice none 0 0, .slice none 0 0, .slice none 0 0] 35)) := (Below.refl _ _).alloc (Nat.le_refl _) _
      have pE6 := κ (pD.out.below' hu)
      have rE6 := κ (rD.out.below' hu)
      have bE6 := κ (Rul1.below_step bD.out hu)
      have zE6 := κ (Blk.fresh wD 35 #[.int .i64 0, .int .i64 0, .int .i64 0, .int .i64 0, .slice none 0 0, .slice none 0 0, .slice none 0 0])
      have lZ : Hid (w.heap.size ≤ wD.heap.size) := κ bD.out.size
      have dZ : Hid (gR ≠ wD.heap.size) := κ (by have := rD.out.lt; omega)
      clear hu pD rD bD HTD
      generalize wD.alloc (.cells #[.int .i64 0, .int .i64 0, .int .i64 0, .int .i64 0, .slice none 0 0, .slice none 0 0, .slice none 0 0] 35) = wE6 at pE6 rE6 bE6 zE6 ⊢
      generalize wD.heap.size = gO at zE6 lZ dZ ⊢
      have HTE6 : Hid (wE6.cell? ⟨gP, 0, none⟩ = some (.int .i64 (1 + bt l 0 % 3)) ∧ wE6.cell? ⟨gP, 1, none⟩ = some (.int .i64 (bt l 1 % 4)) ∧ wE6.cell? ⟨gP, 2, none⟩ = some (.int .i64 (1 + bt l 2 % 6)) ∧ wE6.cell? ⟨gP, 3, none⟩ = some (.int .i64 (1 + bt l 3 % 6)) ∧ wE6.cell? ⟨gP, 5, none⟩ = some (.slice (some ⟨gB, 0, none⟩) 3 3)) := κ ⟨pE6.out.cell 0, pE6.out.cell 1, pE6.out.cell 2, pE6.out.cell 3, pE6.out.cell 5⟩
      refine hK.out _ _ HTE6.out ?_
      clear hK K'
      (try simp only [Act.put, List.getElem_toArray, List.getElem_cons_succ, List.getElem_cons_zero, List.setIfInBounds_toArray, List.set_cons_zero, List.set_cons_succ])
      refine wpL_next (n := 8) (by kernel_rfl) rfl ?_
      · intro K' hK
        go_simp
        have hu : Below wE6.heap.size wE6 (wE6.alloc (.cells #[] 3)) := (Below.refl _ _).alloc (Nat.le_refl _) _
        have pE7 := κ (pE6.out.below' hu)
        have rE7 := κ (rE6.out.below' hu)
        have bE7 := κ (Rul1.below_step bE6.out hu)
        have oeE7 : Hid (World.ownsRow (wE6.alloc (.cells #[] 3)) w.heap.size 3 1 (.slice (some ⟨wE6.heap.size, 0, none⟩) 0 0) 0 []) := κ (own_empty (Blk.fresh _ _ _) bE6.out.size)
        have zE7 := κ (zE6.out.below' hu)
        clear hu pE6 rE6 bE6 HTE6 zE6
        generalize wE6.alloc (.cells #[] 3) = wE7 at pE7 rE7 bE7 oeE7 zE7 ⊢
        generalize wE6.heap.size = gS at oeE7 ⊢
        have HTE7 : Hid (wE7.cell? ⟨gP, 0, none⟩ = some (.int .i64 (1 + bt l 0 % 3)) ∧ wE7.cell? ⟨gP, 1, none⟩ = some (.int .i64 (bt l 1 % 4)) ∧ wE7.cell? ⟨gP, 2, none⟩ = some (.int .i64 (1 + bt l 2 % 6)) ∧ wE7.cell? ⟨gP, 3, none⟩ = some (.int .i64 (1 + bt l 3 % 6)) ∧ wE7.cell? ⟨gP, 5, none⟩ = some (.slice (some ⟨gB, 0, none⟩) 3 3)) := κ ⟨pE7.out.cell 0, pE7.out.cell 1, pE7.out.cell 2, pE7.out.cell 3, pE7.out.cell 5⟩
        refine hK.out _ _ HTE7.out ?_
        clear hK K'
        (try simp only [Act.put, List.getElem_toArray, List.getElem_cons_succ, List.getElem_cons_zero, List.setIfInBounds_toArray, List.set_cons_zero, List.set_cons_succ])
        refine wpL_next (n := 11) (by kernel_rfl) rfl ?_
        · intro K' hK
          refine step_appA (nm := 3) oeE7 (κ (hA.out _ bE7.out)) rfl rfl _ _ _ rfl i3 (.int .i64 0) 8 Tryd.underlying24 hi3 hy0 hy1 hy2 rfl (by decide) rfl rfl rfl (ints_one _) (by unfold maxLen; omega) (by omega) bE7.out.size ?_
          intro B5 b5 wE8 ho hg hob
          have pE8 := κ (blk_own_grown pE7.out oeE7.out (by decide) hg.out)
          have rE8 := κ (blk_own_grown rE7.out oeE7.out (by decide) hg.out)
          have bE8 := κ (grown_below bE7.out oeE7.out hg.out (Nat.le_refl _) bE7.out.size)
          have oaE8 : Hid (World.ownsRow wE8 w.heap.size 3 1 (.slice B5 3 b5) 3 (ints cfA)) := ho
          have zE8 := κ (blk_own_grown zE7.out oeE7.out (by decide) hg.out)
          clear pE7 rE7 bE7 HTE7 oeE7 ho hg hob zE7
          have HTE8 : Hid (wE8.cell? ⟨gP, 0, none⟩ = some (.int .i64 (1 + bt l 0 % 3)) ∧ wE8.cell? ⟨gP, 1, none⟩ = some (.int .i64 (bt l 1 % 4)) ∧ wE8.cell? ⟨gP, 2, none⟩ = some (.int .i64 (1 + bt l 2 % 6)) ∧ wE8.cell? ⟨gP, 3, none⟩ = some (.int .i64 (1 + bt l 3 % 6)) ∧ wE8.cell? ⟨gP, 5, none⟩ = some (.slice (some ⟨gB, 0, none⟩) 3 3)) := κ ⟨pE8.out.cell 0, pE8.out.cell 1, pE8.out.cell 2, pE8.out.cell 3, pE8.out.cell 5⟩
          refine hK.out _ _ HTE8.out ?_
          clear hK K'
          (try simp only [Act.put, List.getElem_toArray, List.getElem_cons_succ, List.getElem_cons_zero, List.setIfInBounds_toArray, List.set_cons_zero, List.set_cons_succ])
          refine wpL_word (i := 12) (v := ?_) rfl (by kernel_rfl) (fun _ _ _ h => h) (by kernel_rfl) _ _ _ _ (by kernel_rfl) (by kernel_rfl) (Or.inl ⟨by rfl, ?_⟩) (fun _ => HTE8.out) ?_
          rotate_left
          · intro w' _
            go_simp
            try with_reducible rfl
          (try simp only [Act.put, List.getElem_toArray, List.getElem_cons_succ, List.getElem_cons_zero, List.setIfInBounds_toArray, List.set_cons_zero, List.set_cons_succ])
          obtain ⟨s0, s1, s2, s3, s4, s5, s6, y0, y1, y2, y3, y4, y5, y6⟩ := Rul6.z_of zE8.out
          refine wpL_late (n := 14) (by kernel_rfl) rfl (by kernel_rfl) (fun K' hK => ?_)
          go_simp
          refine hK.out _ _ ?_
          clear hK K'
          (try simp only [Act.put, List.getElem_toArray, List.getElem_cons_succ, List.getElem_cons_zero, List.setIfInBounds_toArray, List.set_cons_zero, List.set_cons_succ])
          refine wpL_done (by kernel_rfl) ?_ _
          refine NoPanic.normal ?_
          have FF : Lk l w (St7.st7 wE8 gO (.int .i64 (1 + bt l 0 % 3)) (.int .i64 (bt l 1 % 4)) (.int .i64 (1 + bt l 2 % 6)) (.int .i64 (1 + bt l 3 % 6)) (.slice none 0 0) (.slice B5 3 b5) (.slice none 0 0)) gA gB gC gP gR gO none 0 0 B5 b5 none 0 0 := ⟨Rul6.st7_far pE8.out (blk_ne pE8.out zE8.out (by decide)), St7.st7_blk zE8.out, Rul6.st7_far rE8.out dZ.out, World.ownsRow_nil _ _ _ _, Rul6.own_st7 oaE8.out zE8.out (by decide), World.ownsRow_nil _ _ _ _, St7.st7_below bE8.out lZ.out, dZ.out, lZ.out⟩
          clear s0 y0 s1 y1 s2 y2 s3 y3 s4 y4 s5 y5 s6 y6 pE8 rE8 bE8 zE8 oaE8 HTE8
          unfold St7.st7 at FF
          go_wp2_with fail
          go_meet
          exact ⟨gO, B5, b5, rfl, κ FF⟩
  case rest =>
    obtain ⟨gO, B5, b5, rfl, L0⟩ := hcut
    rename World => w1
    clear HP R0 v2
    go_wp2_with fail
    go_loopg [4] 4 (fun g s4 w' => ∃ (i : Nat) (An : Option Addr) (cn : Nat), i + g = 4 ∧ s4 = .int .i64 i ∧ Hid (Lk l w w' gA gB gC gP gR gO An i cn B5 b5 none 0 0))
    case atStart => exact ⟨0, none, 0, by omega, rfl, L0⟩
    case round =>
      clear L0
      obtain ⟨i, An, cn, hig, rfl, L⟩ := hrel
      rename World => wr
      have p4 := L.out.p.cell 4
      simp only [List.getElem?_toArray, List.getElem?_cons_succ, List.getElem?_cons_zero] at p4
      by_cases hlt : i < 4
      · obtain ⟨g8, rfl⟩ : ∃ g8, gk = g8 + 1 := ⟨gk - 1, by omega⟩
        have hlti : ((i : Nat) : Int) < 4 := by omega
        obtain ⟨na, nb⟩ := nds_get (cfN l) i hlt
        have hA := κ (h.out.a.below' L.out.b)
        have ca : Hid (wr.cell? ⟨gA, i * 2, none⟩ = some (.int .i64 (nP (cfN l) i)) ∧ wr.cell? ⟨gA, i * 2 + 1, none⟩ = some (.int .i64 (nC (cfN l) i))) := κ ⟨(hA.out.cell (i * 2)).trans (by rw [List.getElem?_toArray]; exact na), (hA.out.cell (i * 2 + 1)).trans (by rw [List.getElem?_toArray]; exact nb)⟩
        have hpre : Hid (nds ((cfN l).take (i + 1)) = nds ((cfN l).take i) ++ [.int .i64 (nP (cfN l) i), .int .i64 (nC (cfN l) i)]) := κ (by rw [take_snoc (show i < (cfN l).length from hlt), nds_snoc])
        have hin := cfN_in l hlt
        generalize nP (cfN l) i = pa at ca hpre hin
        generalize nC (cfN l) i = pc at ca hpre hin
        have HIN := κ hin
        clear hin na nb
        go_upto_region 5 with fail
        clear p4
        refine wp_region_noPanic ?_
        refine wp_region_L (T := (fun w' => w'.cell? ⟨gO, 4, none⟩ = some (.slice An i cn) ∧ w'.cell? ⟨gP, 4, none⟩ = some (.slice (some ⟨gA, 0, none⟩) 4 4) ∧ w'.cell? ⟨gA, i * 2, none⟩ = some (.int .i64 pa) ∧ w'.cell? ⟨gA, i * 2 + 1, none⟩ = some (.int .i64 pc))) (st := [18]) (by kernel_rfl) ?_
        have LD := κ L.out.drew
        have cD : Hid (∀ W, Below w.heap.size wr.drew W → W.cell? ⟨gA, i * 2, none⟩ = some (.int .i64 pa) ∧ W.cell? ⟨gA, i * 2 + 1, none⟩ = some (.int .i64 pc)) := κ (fun W hb => ⟨(hb.cell (p := ⟨gA, i * 2, none⟩) h.out.a.lt).trans ca.out.1, (hb.cell (p := ⟨gA, i * 2 + 1, none⟩) h.out.a.lt).trans ca.out.2⟩)
        have bl0 : Hid (Below w.heap.size wr.drew wr.drew) := κ (Below.refl _ _)
        have HT : Hid (wr.drew.cell? ⟨gO, 4, none⟩ = some (.slice An i cn) ∧ wr.drew.cell? ⟨gP, 4, none⟩ = some (.slice (some ⟨gA, 0, none⟩) 4 4) ∧ wr.drew.cell? ⟨gA, i * 2, none⟩ = some (.int .i64 pa) ∧ wr.drew.cell? ⟨gA, i * 2 + 1, none⟩ = some (.int .i64 pc)) := κ ⟨LD.out.o.cell 4, LD.out.p.cell 4, cD.out _ bl0.out⟩
        clear L hA ca
        generalize wr.drew = wD at LD cD bl0 HT ⊢
        refine wpL_word (i := 0) (v := ?_) rfl (by kernel_rfl) (fun _ _ _ h => h) (by kernel_rfl) _ _ _ _ (by kernel_rfl) (by kernel_rfl) (Or.inl ⟨by rfl, ?_⟩) (fun _ => HT.out) ?_
        rotate_left
        · intro w' _
          go_simp
          try with_reducible rfl
        (try simp only [Act.put, List.getElem_toArray, List.getElem_cons_succ, List.getElem_cons_zero, List.setIfInBounds_toArray, List.set_cons_zero, List.set_cons_succ])
        refine wpL_load (i := 1) (v := ?_) rfl (by kernel_rfl) (fun _ _ _ h => h) (by kernel_rfl) (by kernel_rfl) _ _ _ _ (by kernel_rfl) (by kernel_rfl) (Or.inl ⟨by rfl, ?_⟩) (by kernel_rfl) HT.out ?_
        rotate_left
        · intro w' hS
          (try dsimp only at hS)
          obtain ⟨n1, n2, n3, n4⟩ := hS
          go_simp
          try with_reducible rfl
        (try simp only [Act.put, List.getElem_toArray, List.getElem_cons_succ, List.getElem_cons_zero, List.setIfInBounds_toArray, List.set_cons_zero, List.set_cons_succ])
        refine wpL_word (i := 2) (v := ?_) rfl (by kernel_rfl) (fun _ _ _ h => h) (by kernel_rfl) _ _ _ _ (by kernel_rfl) (by kernel_rfl) (Or.inl ⟨by rfl, ?_⟩) (fun _ => HT.out) ?_
        rotate_left
        · intro w' _
          go_simp
          try with_reducible rfl
        (try simp only [Act.put, List.getElem_toArray, List.getElem_cons_succ, List.getElem_cons_zero, List.setIfInBounds_toArray, List.set_cons_zero, List.set_cons_succ])
        refine wpL_load (i := 3) (v := ?_) rfl (by kernel_rfl) (fun _ _ _ h => h) (by kernel_rfl) (by kernel_rfl) _ _ _ _ (by kernel_rfl) (by kernel_rfl) (Or.inl ⟨by rfl, ?_⟩) (by kernel_rfl) HT.out ?_
        rotate_left
        · intro w' hS
          (try dsimp only at hS)
          obtain ⟨n1, n2, n3, n4⟩ := hS
          go_simp
          try with_reducible rfl
        (try simp only [Act.put, List.getElem_toArray, List.getElem_cons_succ, List.getElem_cons_zero, List.setIfInBounds_toArray, List.set_cons_zero, List.set_cons_succ])
        refine wpL_word (i := 4) (v := ?_) rfl (by kernel_rfl) (fun _ _ _ h => h) (by kernel_rfl) _ _ _ _ (by kernel_rfl) (by kernel_rfl) (Or.inl ⟨by rfl, ?_⟩) (fun _ => HT.out) ?_
        rotate_left
        · intro w' _
          go_simp
          try with_reducible rfl
        (try simp only [Act.put, List.getElem_toArray, List.getElem_cons_succ, List.getElem_cons_zero, List.setIfInBounds_toArray, List.set_cons_zero, List.set_cons_succ])
        refine wpL_word (i := 5) (v := ?_) rfl (by kernel_rfl) (fun _ _ _ h => h) (by kernel_rfl) _ _ _ _ (by kernel_rfl) (by kernel_rfl) (Or.inl ⟨by rfl, ?_⟩) (fun _ => HT.out) ?_
        rotate_left
        · intro w' _
          go_simp
          try with_reducible rfl
        (try simp only [Act.put, List.getElem_toArray, List.getElem_cons_succ, List.getElem_cons_zero, List.setIfInBounds_toArray, List.set_cons_zero, List.set_cons_succ])
        refine wpL_word (i := 6) (v := ?_) rfl (by kernel_rfl) (fun _ _ _ h => h) (by kernel_rfl) _ _ _ _ (by kernel_rfl) (by kernel_rfl) (Or.inl ⟨by rfl, ?_⟩) (fun _ => HT.out) ?_
        rotate_left
        · intro w' _
          go_simp
          try with_reducible rfl
        (try simp only [Act.put, List.getElem_toArray, List.getElem_cons_succ, List.getElem_cons_zero, List.setIfInBounds_toArray, List.set_cons_zero, List.set_cons_succ])
        refine wpL_load (i := 7) (v := ?_) rfl (by kernel_rfl) (fun _ _ _ h => h) (by kernel_rfl) (by kernel_rfl) _ _ _ _ (by kernel_rfl) (by kernel_rfl) (Or.inl ⟨by rfl, ?_⟩) (by kernel_rfl) HT.out ?_
        rotate_left
        · intro w' hS
          (try dsimp only at hS)
          obtain ⟨n1, n2, n3, n4⟩ := hS
          go_simp
          try with_reducible rfl
        (try simp only [Act.put, List.getElem_toArray, List.getElem_cons_succ, List.getElem_cons_zero, List.setIfInBounds_toArray, List.set_cons_zero, List.set_cons_succ])
        refine wpL_word (i := 8) (v := ?_) rfl (by kernel_rfl) (fun _ _ _ h => h) (by kernel_rfl) _ _ _ _ (by kernel_rfl) (by kernel_rfl) (Or.inl ⟨by rfl, ?_⟩) (fun _ => HT.out) ?_
        rotate_left
        · intro w' _
          go_simp
          try with_reducible rfl
        (try simp only [Act.put, List.getElem_toArray, List.getElem_cons_succ, List.getElem_cons_zero, List.setIfInBounds_toArray, List.set_cons_zero, List.set_cons_succ])
        refine wpL_load (i := 9) (v := ?_) rfl (by kernel_rfl) (fun _ _ _ h => h) (by kernel_rfl) (by kernel_rfl) _ _ _ _ (by kernel_rfl) (by kernel_rfl) (Or.inl ⟨by rfl, ?_⟩) (by kernel_rfl) HT.out ?_
        rotate_left
        · intro w' hS
          (try dsimp only at hS)
          obtain ⟨n1, n2, n3, n4⟩ := hS
          go_simp
          try with_reducible rfl
        (try simp only [Act.put, List.getElem_toArray, List.getElem_cons_succ, List.getElem_cons_zero, List.setIfInBounds_toArray, List.set_cons_zero, List.set_cons_succ])
        refine wpL_word (i := 10) (v := ?_) rfl (by kernel_rfl) (fun _ _ _ h => h) (by kernel_rfl) _ _ _ _ (by kernel_rfl) (by kernel_rfl) (Or.inl ⟨by rfl, ?_⟩) (fun _ => HT.out) ?_
        rotate_left
        · intro w' _
          go_simp
          try with_reducible rfl
        (try simp only [Act.put, List.getElem_toArray, List.getElem_cons_succ, List.getElem_cons_zero, List.setIfInBounds_toArray, List.set_cons_zero, List.set_cons_succ])
        refine wpL_word (i := 11) (v := ?_) rfl (by kernel_rfl) (fun _ _ _ h => h) (by kernel_rfl) _ _ _ _ (by kernel_rfl) (by kernel_rfl) (Or.inl ⟨by rfl, ?_⟩) (fun _ => HT.out) ?_
        rotate_left
        · intro w' _
          go_simp
          try with_reducible rfl
        (try simp only [Act.put, List.getElem_toArray, List.getElem_cons_succ, List.getElem_cons_zero, List.setIfInBounds_toArray, List.set_cons_zero, List.set_cons_succ])
        refine wpL_word (i := 12) (v := ?_) rfl (by kernel_rfl) (fun _ _ _ h => h) (by kernel_rfl) _ _ _ _ (by kernel_rfl) (by kernel_rfl) (Or.inl ⟨by rfl, ?_⟩) (fun _ => HT.out) ?_
        rotate_left
        · intro w' _
          go_simp
          try with_reducible rfl
        (try simp only [Act.put, List.getElem_toArray, List.getElem_cons_succ, List.getElem_cons_zero, List.setIfInBounds_toArray, List.set_cons_zero, List.set_cons_succ])
        refine wpL_load (i := 13) (v := ?_) rfl (by kernel_rfl) (fun _ _ _ h => h) (by kernel_rfl) (by kernel_rfl) _ _ _ _ (by kernel_rfl) (by kernel_rfl) (Or.inl ⟨by rfl, ?_⟩) (by kernel_rfl) HT.out ?_
        rotate_left
        · intro w' hS
          (try dsimp only at hS)
          obtain ⟨n1, n2, n3, n4⟩ := hS
          go_simp
          try with_reducible rfl
        (try simp only [Act.put, List.getElem_toArray, List.getElem_cons_succ, List.getElem_cons_zero, List.setIfInBounds_toArray, List.set_cons_zero, List.set_cons_succ])
        refine wpL_word (i := 14) (v := ?_) rfl (by kernel_rfl) (fun _ _ _ h => h) (by kernel_rfl) _ _ _ _ (by kernel_rfl) (by kernel_rfl) (Or.inl ⟨by rfl, ?_⟩) (fun _ => HT.out) ?_
        rotate_left
        · intro w' _
          go_simp
          try with_reducible rfl
        (try simp only [Act.put, List.getElem_toArray, List.getElem_cons_succ, List.getElem_cons_zero, List.setIfInBounds_toArray, List.set_cons_zero, List.set_cons_succ])
        refine wpL_next (n := 15) (by kernel_rfl) rfl (fun K' hK => ?_)
        go_simp
        have hu : Below wD.heap.size wD (wD.alloc (.cells #[.int .i64 pa, .int .i64 pc] 61)) := (Below.refl _ _).alloc (Nat.le_refl _) _
        have LF := κ (LD.out.below hu)
        have blF : Hid (Below w.heap.size wD (wD.alloc (.cells #[.int .i64 pa, .int .i64 pc] 61))) := κ (bl0.out.trans (hu.mono (show w.heap.size ≤ wD.heap.size from LD.out.b.size)))
        have R5 : Hid (Rd (wD.alloc (.cells #[.int .i64 pa, .int .i64 pc] 61)) (wD.alloc (.cells #[.int .i64 pa, .int .i64 pc] 61)).heap.size (some ⟨wD.heap.size, 0, none⟩) [.int .i64 pa, .int .i64 pc]) := κ (rd_new rfl)
        have HTF : Hid ((wD.alloc (.cells #[.int .i64 pa, .int .i64 pc] 61)).cell? ⟨gO, 4, none⟩ = some (.slice An i cn) ∧ (wD.alloc (.cells #[.int .i64 pa, .int .i64 pc] 61)).cell? ⟨gP, 4, none⟩ = some (.slice (some ⟨gA, 0, none⟩) 4 4) ∧ (wD.alloc (.cells #[.int .i64 pa, .int .i64 pc] 61)).cell? ⟨gA, i * 2, none⟩ = some (.int .i64 pa) ∧ (wD.alloc (.cells #[.int .i64 pa, .int .i64 pc] 61)).cell? ⟨gA, i * 2 + 1, none⟩ = some (.int .i64 pc)) := κ ⟨LF.out.o.cell 4, LF.out.p.cell 4, cD.out _ blF.out⟩
        clear hu LD bl0 HT
        refine hK.out _ _ HTF.out ?_
        clear hK K'
        (try simp only [Act.put, List.getElem_toArray, List.getElem_cons_succ, List.getElem_cons_zero, List.setIfInBounds_toArray, List.set_cons_zero, List.set_cons_succ])
        generalize wD.alloc (.cells #[.int .i64 pa, .int .i64 pc] 61) = wF at LF blF R5 HTF ⊢
        generalize wD.heap.size = gQ at R5 ⊢
        obtain ⟨n6, hn6⟩ : ∃ k, k = i + 1 := ⟨_, rfl⟩
        have HN6 := κ hn6
        clear hn6
        refine wpL_next (n := 16) (by kernel_rfl) rfl (fun K' hK => ?_)
        refine step_appA (κ LF.out.n) R5 HN6.out rfl _ _ _ rfl i0 (.agg #[.int .i64 0, .int .i64 0]) 16 Tryd.underlying32 hi0 hz0 hz1 hz2 rfl (by decide) rfl rfl rfl (by simp [Value.oneCell']) (by unfold maxLen; omega) (by omega) LF.out.b.size ?_
        intro A6 c6 wG ho6 hg6 hob6
        have oG := κ (blk_own_grown LF.out.o LF.out.n (by decide) hg6.out)
        have pG := κ (blk_own_grown LF.out.p LF.out.n (by decide) hg6.out)
        have blG : Hid (Below w.heap.size wD wG) := κ (grown_below blF.out LF.out.n hg6.out (Nat.le_refl _) LF.out.b.size)
        have cG : wG.cell? ⟨gO, 4, none⟩ = some (.slice An i cn) := oG.out.cell 4
        have yG : wG.frozen? ⟨gO, 4, none⟩ = false := oG.out.thaw 4
        have HTG : Hid (wG.cell? ⟨gO, 4, none⟩ = some (.slice An i cn) ∧ wG.cell? ⟨gP, 4, none⟩ = some (.slice (some ⟨gA, 0, none⟩) 4 4) ∧ wG.cell? ⟨gA, i * 2, none⟩ = some (.int .i64 pa) ∧ wG.cell? ⟨gA, i * 2 + 1, none⟩ = some (.int .i64 pc)) := κ ⟨cG, pG.out.cell 4, cD.out _ blG.out⟩
        refine hK.out _ _ HTG.out ?_
        clear hK K'
        (try simp only [Act.put, List.getElem_toArray, List.getElem_cons_succ, List.getElem_cons_zero, List.setIfInBounds_toArray, List.set_cons_zero, List.set_cons_succ])
        refine wpL_word (i := 17) (v := ?_) rfl (by kernel_rfl) (fun _ _ _ h => h) (by kernel_rfl) _ _ _ _ (by kernel_rfl) (by kernel_rfl) (Or.inl ⟨by rfl, ?_⟩) (fun _ => HTG.out) ?_
        rotate_left
        · intro w' _
          go_simp
          try with_reducible rfl
        (try simp only [Act.put, List.getElem_toArray, List.getElem_cons_succ, List.getElem_cons_zero, List.setIfInBounds_toArray, List.set_cons_zero, List.set_cons_succ])
        refine wpL_late (n := 18) (by kernel_rfl) rfl (by kernel_rfl) (fun K' hK => ?_)
        go_simp
        refine hK.out _ _ ?_
        clear hK K'
        (try simp only [Act.put, List.getElem_toArray, List.getElem_cons_succ, List.getElem_cons_zero, List.setIfInBounds_toArray, List.set_cons_zero, List.set_cons_succ])
        refine wpL_done (by kernel_rfl) ?_ _
        refine NoPanic.normal ?_
        have L7 : Hid (Lk l w (wG.setCell ⟨gO, 4, none⟩ (.slice A6 n6 c6)) gA gB gC gP gR gO A6 n6 c6 B5 b5 none 0 0) := κ (LF.out.pushN (by have hn := HN6.out; subst hn; rw [hpre.out]; exact ho6.out) hg6.out)
        have ei : wrap64 ((i : Int) + 1) = (i : Int) + 1 := by unfold wrap64; omega
        clear oG pG blG cG yG HTG HTF blF R5 LF ho6 hg6 hob6 cD hpre hlti HIN
        generalize wG.setCell ⟨gO, 4, none⟩ (.slice A6 n6 c6) = w7 at L7 ⊢
        go_wp2_with fail
        go_roundg g8
        case measure => omega
        case rel =>
          have hn6 := HN6.out
          subst hn6
          exact ⟨i + 1, A6, c6, by omega, by first | (rw [ei, Int.natCast_add]; rfl) | (rw [Int.natCast_add]; rfl), L7⟩
      · obtain rfl : i = 4 := by omega
        go_wp2_with fail
        go_loopg [5] 2 (fun g s5 w' => ∃ (j : Nat) (Cs : Option Addr) (cs : Nat), j + g = 2 ∧ s5 = .int .i64 j ∧ Hid (Lk l w w' gA gB gC gP gR gO An 4 cn B5 b5 Cs j cs))
        case atStart => exact ⟨0, none, 0, by omega, rfl, L⟩
        case round =>
          clear L p4
          obtain ⟨j, Cs, cs, hjg, rfl, L⟩ := hrel
          rename World => wq
          have p6 := L.out.p.cell 6
          simp only [List.getElem?_toArray, List.getElem?_cons_succ, List.getElem?_cons_zero] at p6
          by_cases hlt2 : j < 2
          · obtain ⟨g8, rfl⟩ : ∃ g8, gk = g8 + 1 := ⟨gk - 1, by omega⟩
            have hltj : ((j : Nat) : Int) < 2 := by omega
            obtain ⟨na, nb, nc, nd⟩ := smbs_get cfS j hlt2
            have hC := κ (h.out.c.below' L.out.b)
            have e0 : wq.cell? ⟨gC, j * 4, none⟩ = some (.int .i64 (sP cfS j)) := (hC.out.cell (j * 4)).trans (by rw [List.getElem?_toArray]; exact na)
            have e1 : wq.cell? ⟨gC, j * 4 + 1, none⟩ = some (.int .i64 (sQ cfS j)) := (hC.out.cell (j * 4 + 1)).trans (by rw [List.getElem?_toArray]; exact nb)
            have e2 : wq.cell? ⟨gC, j * 4 + 2, none⟩ = some (.int .i64 (sW cfS j)) := (hC.out.cell (j * 4 + 2)).trans (by rw [List.getElem?_toArray]; exact nc)
            have e3 : wq.cell? ⟨gC, j * 4 + 3, none⟩ = some (.float .f64 (sB cfS j)) := (hC.out.cell (j * 4 + 3)).trans (by rw [List.getElem?_toArray]; exact nd)
            have hpre : Hid (smbs (cfS.take (j + 1)) = smbs (cfS.take j) ++ [.int .i64 (sP cfS j), .int .i64 (sQ cfS j), .int .i64 (sW cfS j), .float .f64 (sB cfS j)]) := κ (by rw [takeS_snoc (show j < cfS.length from hlt2), smbs_snoc])
            generalize sP cfS j = a0 at e0 hpre
            generalize sQ cfS j = a1 at e1 hpre
            generalize sW cfS j = a2 at e2 hpre
            generalize sB cfS j = a3 at e3 hpre
            clear na nb nc nd hC
            go_upto_region 10 with fail
            have hu : Below wq.heap.size wq (wq.alloc (.cells #[.int .i64 a0, .int .i64 a1, .int .i64 a2, .float .f64 a3] 74)) := (Below.refl _ _).alloc (Nat.le_refl _) _
            have LA := κ (L.out.below hu)
            have sA := κ (Blk.fresh wq 74 #[.int .i64 a0, .int .i64 a1, .int .i64 a2, .float .f64 a3])
            clear hu L e0 e1 e2 e3 p6 hltj
            generalize wq.alloc (.cells #[.int .i64 a0, .int .i64 a1, .int .i64 a2, .float .f64 a3] 74) = wA at LA sA ⊢
            generalize wq.heap.size = gs at sA ⊢
            have c6 := LA.out.o.cell 6
            simp only [List.getElem?_toArray, List.getElem?_cons_succ, List.getElem?_cons_zero] at c6
            have f0 := sA.out.cell 0
            have f1 := sA.out.cell 1
            have f2 := sA.out.cell 2
            have f3 := sA.out.cell 3
            simp only [List.getElem?_toArray, List.getElem?_cons_succ, List.getElem?_cons_zero] at f0 f1 f2 f3
            have hu : Below wA.heap.size wA (wA.alloc (.cells #[.int .i64 a0, .int .i64 a1, .int .i64 a2, .float .f64 a3] 64)) := (Below.refl _ _).alloc (Nat.le_refl _) _
            have LB := κ (LA.out.below hu)
            have OB : Hid (World.ownsRow (wA.alloc (.cells #[.int .i64 a0, .int .i64 a1, .int .i64 a2, .float .f64 a3] 64)) w.heap.size 64 4 (.slice Cs j cs) j (smbs (cfS.take j))) := κ LB.out.s
            have R5 : Hid (Rd (wA.alloc (.cells #[.int .i64 a0, .int .i64 a1, .int .i64 a2, .float .f64 a3] 64)) (wA.alloc (.cells #[.int .i64 a0, .int .i64 a1, .int .i64 a2, .float .f64 a3] 64)).heap.size (some ⟨wA.heap.size, 0, none⟩) [.int .i64 a0, .int .i64 a1, .int .i64 a2, .float .f64 a3]) := κ (rd_new rfl)
            have ZB : Hid (w.heap.size ≤ (wA.alloc (.cells #[.int .i64 a0, .int .i64 a1, .int .i64 a2, .float .f64 a3] 64)).heap.size) := κ LB.out.b.size
            obtain ⟨n6, hn6⟩ : ∃ k, k = j + 1 := ⟨_, rfl⟩
            have HN6 := κ hn6
            have hj1 : Hid (j + 1 ≤ 2) := κ hlt2
            clear hn6 hu
            go_upto_region 8 with (at_builtin; go_loud (refine wpList_appRG (nm := n6) OB R5 HN6.out rfl _ _ _ rfl i1 (.agg #[.int .i64 0, .int .i64 0, .int .i64 0, .float .f64 0]) 32 Tryd.underlying33 hi1 hx0 hx1 hx2 rfl (by decide) rfl rfl rfl (by simp [Value.oneCell']) (by have := hj1.out; unfold maxLen; omega) (by have := hj1.out; omega) ZB.out ?_); intro A6 c7 wG ho6 hg6; have oG := blk_own_grown LB.out.o OB.out (by decide) hg6; have cG := oG.cell 6; have yG := oG.thaw 6; simp only [List.getElem?_toArray, List.getElem?_cons_succ, List.getElem?_cons_zero] at cG)
            have L7 : Hid (Lk l w (wG.setCell ⟨gO, 6, none⟩ (.slice A6 n6 c7)) gA gB gC gP gR gO An 4 cn B5 b5 A6 n6 c7) := κ (LB.out.pushS (by have hn := HN6.out; subst hn; rw [hpre.out]; exact ho6.out) hg6)
            have ej : wrap64 ((j : Int) + 1) = (j : Int) + 1 := by unfold wrap64; omega
            clear oG cG yG ho6 hg6 LB OB R5 ZB LA sA c6 f0 f1 f2 f3 hpre
            generalize wG.setCell ⟨gO, 6, none⟩ (.slice A6 n6 c7) = w7 at L7 ⊢
            go_wp2_with fail
            go_roundg g8
            case measure => omega
            case rel =>
              have hn6 := HN6.out
              subst hn6
              exact ⟨j + 1, A6, c7, by omega, by first | (rw [ej, Int.natCast_add]; rfl) | (rw [Int.natCast_add]; rfl), L7⟩
          · obtain rfl : j = 2 := by omega
            obtain ⟨j0, j1, j2, j3, j4, j5, j6, -⟩ := Rul6.z_of L.out.o
            obtain ⟨s0, s1, s2, s3, s4, s5, s6, y0, y1, y2, y3, y4, y5, y6⟩ := Rul6.z_of L.out.r
            go_wp2_with fail
            have hgR := κ (show w.heap.size ≤ gR by have := hl1.out; omega)
            have f3 := κ (St7.st7_blk (a := .int .i64 (1 + bt l 0 % 3)) (b := .int .i64 (bt l 1 % 4)) (c := .int .i64 (1 + bt l 2 % 6)) (d := .int .i64 (1 + bt l 3 % 6)) (e := .slice An 4 cn) (f := .slice B5 3 b5) (h := .slice Cs 2 cs) L.out.r)
            have hB := κ (St7.st7_below (a := .int .i64 (1 + bt l 0 % 3)) (b := .int .i64 (bt l 1 % 4)) (c := .int .i64 (1 + bt l 2 % 6)) (d := .int .i64 (1 + bt l 3 % 6)) (e := .slice An 4 cn) (f := .slice B5 3 b5) (h := .slice Cs 2 cs) L.out.b hgR.out)
            have hN := κ (Rul6.own_st7 (W := wq) (g := gR) (qa := .int .i64 (1 + bt l 0 % 3)) (qb := .int .i64 (bt l 1 % 4)) (qc := .int .i64 (1 + bt l 2 % 6)) (qd := .int .i64 (1 + bt l 3 % 6)) (qe := .slice An 4 cn) (qf := .slice B5 3 b5) (qh := .slice Cs 2 cs) L.out.n L.out.r (by decide))
            have hI := κ (Rul6.own_st7 (W := wq) (g := gR) (qa := .int .i64 (1 + bt l 0 % 3)) (qb := .int .i64 (bt l 1 % 4)) (qc := .int .i64 (1 + bt l 2 % 6)) (qd := .int .i64 (1 + bt l 3 % 6)) (qe := .slice An 4 cn) (qf := .slice B5 3 b5) (qh := .slice Cs 2 cs) L.out.a L.out.r (by decide))
            have hS := κ (Rul6.own_st7 (W := wq) (g := gR) (qa := .int .i64 (1 + bt l 0 % 3)) (qb := .int .i64 (bt l 1 % 4)) (qc := .int .i64 (1 + bt l 2 % 6)) (qd := .int .i64 (1 + bt l 3 % 6)) (qe := .slice An 4 cn) (qf := .slice B5 3 b5) (qh := .slice Cs 2 cs) L.out.s L.out.r (by decide))
            clear j0 s0 y0 j1 s1 y1 j2 s2 y2 j3 s3 y3 j4 s4 y4 j5 s5 y5 j6 s6 y6
            obtain ⟨d0, d1, d2, d3, d4, d5, d6, -⟩ := Rul6.z_of f3.out
            unfold St7.st7 at d0 d1 d2 d3 d4 d5 d6 hB hN hI hS
            exact bodyPost_ret (v := .agg #[.int .i64 (1 + bt l 0 % 3), .int .i64 (bt l 1 % 4), .int .i64 (1 + bt l 2 % 6), .int .i64 (1 + bt l 3 % 6), .slice An 4 cn, .slice B5 3 b5, .slice Cs 2 cs]) (by simp [results, Tryd.results9, go_sem, d0, d1, d2, d3, d4, d5, d6]) rfl ⟨An, cn, B5, b5, Cs, cs, rfl, Rd.of_own hN.out, Rd.of_own hI.out, Rd.of_own hS.out, hB.out⟩
end Lcf
namespace Lsc
open Lcf Shw Wrt
theorem neS {i : Nat} (hi : i < 2) : ∀ W : World, (binOp .neq 64 (.agg #[.int .i64 (sP cfS i), .int .i64 (sQ cfS i), .int .i64 (sW cfS i), .float .f64 (sB cfS i)]) (.agg #[.int .i64 (sP cfS i), .int .i64 (sQ cfS i), .int .i64 (sW cfS i), .float .f64 (sB cfS i)])).run Tryd.prog W = .ok (.bool false) W :=
  match i, hi with
  | 0, _ => fun W => by kernel_rfl
  | 1, _ => fun W => by kernel_rfl
theorem lsame_any (sh wi ra ta : Int) (nd : List (Int × Int)) (ac : List Int) (A1 B1 C1 A2 B2 C2 : Option Addr) (a1 b1 c1 a2 b2 c2 : Nat) (w : World) (hn : nd.length = 4) (ha : ac.length = 3)
    (n1 : Hid (Nds w w.heap.size A1 nd)) (n2 : Hid (Nds w w.heap.size A2 nd)) (r1 : Hid (Ris w w.heap.size B1 ac)) (r2 : Hid (Ris w w.heap.size B2 ac)) (s1 : Hid (Smb w w.heap.size C1 cfS)) (s2 : Hid (Smb w w.heap.size C2 cfS)) :
    Calls Tryd.prog 8 #[.agg #[.int .i64 sh, .int .i64 wi, .int .i64 ra, .int .i64 ta, .slice A1 4 a1, .slice B1 3 b1, .slice C1 2 c1], .agg #[.int .i64 sh, .int .i64 wi, .int .i64 ra, .int .i64 ta, .slice A2 4 a2, .slice B2 3 b2, .slice C2 2 c2]] w (MadeBl true w) := by
  obtain ⟨W, hW⟩ : ∃ W, W = (w.alloc (.cells #[.int .i64 sh, .int .i64 wi, .int .i64 ra, .int .i64 ta, .slice A1 4 a1, .slice B1 3 b1, .slice C1 2 c1] 35)).alloc (.cells #[.int .i64 sh, .int .i64 wi, .int .i64 ra, .int .i64 ta, .slice A2 4 a2, .slice B2 3 b2, .slice C2 2 c2] 35) := ⟨_, rfl⟩
  have b0 : Hid (Below w.heap.size w W) := κ (by rw [hW]; exact ((Below.refl _ _).alloc (Nat.le_refl _) _).alloc (by simp) _)
  have P1 : Hid (Blk W w.heap.size 35 #[.int .i64 sh, .int .i64 wi, .int .i64 ra, .int .i64 ta, .slice A1 4 a1, .slice B1 3 b1, .slice C1 2 c1]) := κ (by rw [hW]; exact (Rul6.blk_at (w := w) rfl).alloc _)
  have P2 : Hid (Blk W (w.heap.size + 1) 35 #[.int .i64 sh, .int .i64 wi, .int .i64 ra, .int .i64 ta, .slice A2 4 a2, .slice B2 3 b2, .slice C2 2 c2]) := κ (by rw [hW]; exact Rul6.blk_at (by simp))
  go_enter Tryd.func8, Tryd.ntmps8
  go_upto_region 1 with fail
  rw [← hW]
  clear hW
  generalize w.heap.size + 1 = g2 at P2 ⊢
  obtain ⟨g1, hg1⟩ : ∃ g, g = w.heap.size := ⟨_, rfl⟩
  have Q1 : Hid (Blk W g1 35 #[.int .i64 sh, .int .i64 wi, .int .i64 ra, .int .i64 ta, .slice A1 4 a1, .slice B1 3 b1, .slice C1 2 c1]) := κ (by rw [hg1]; exact P1.out)
  rw [show (Value.pointer (some ⟨w.heap.size, 0, none⟩)) = Value.pointer (some ⟨g1, 0, none⟩) by rw [hg1]]
  clear hg1 P1
  obtain ⟨k0, k1, k2, k3, k4, k5, k6, -⟩ := Rul6.z_of Q1.out
  obtain ⟨j0, j1, j2, j3, j4, j5, j6, -⟩ := Rul6.z_of P2.out
  have e1 : (sh != sh) = false := by simp
  have e2 : (wi != wi) = false := by simp
  have e3 : (ra != ra) = false := by simp
  have e4 : (ta != ta) = false := by simp
  go_upto_region 4 with fail
  clear e1 e2 e3 e4 k0 k1 k2 k3 j0 j1 j2 j3
  go_loopg [5] 4 (fun g s5 w' => ∃ (k nq : Nat), k + g = 4 ∧ s5 = .int .i64 k ∧ w' = W.drewN nq)
  case atStart => exact ⟨0, 0, by omega, rfl, rfl⟩
  case round =>
    obtain ⟨i, nq, hk, rfl, rfl⟩ := hrel
    by_cases hlt : i < 4
    · obtain ⟨g, rfl⟩ : ∃ g, gk = g + 1 := ⟨gk - 1, by omega⟩
      have hil : i < nd.length := by omega
      obtain ⟨p1, o1, hA1, hb1, hc1⟩ := Nds.at (Rd.below' n1.out b0.out b0.out.size) (by omega)
      obtain ⟨p2, o2, hA2, hb2, hc2⟩ := Nds.at (Rd.below' n2.out b0.out b0.out.size) (by omega)
      obtain ⟨f1, f2⟩ := hc1 i hil
      obtain ⟨f3, f4⟩ := hc2 i hil
      clear hc1 hc2 hil hb1 hb2
      subst hA1
      subst hA2
      generalize nP nd i = x at f1 f3
      generalize nC nd i = y at f2 f4
      have t0 : ((i : Nat) : Int) < 4 := by omega
      go_wp2_with fail
      go_quiet (fail)
      go_wp2_with fail
      go_roundg g
      case measure => omega
      case rel => exact ⟨i + 1, _, by omega, by go_num, rfl⟩
    · have t0 : ¬ ((i : Nat) : Int) < 4 := by omega
      go_upto_region 9 with fail
      go_loopg [6] 3 (fun g s6 w' => ∃ (k nq : Nat), k + g = 3 ∧ s6 = .int .i64 k ∧ w' = W.drewN nq)
      case atStart => exact ⟨0, nq, by omega, rfl, rfl⟩
      case round =>
        clear hk t0 hlt
        obtain ⟨i, nq, hk, rfl, rfl⟩ := hrel
        by_cases hlt : i < 3
        · obtain ⟨g, rfl⟩ : ∃ g, gk = g + 1 := ⟨gk - 1, by omega⟩
          have hil : i < ac.length := by omega
          obtain ⟨p1, o1, hA1, hb1, hc1⟩ := Ris.at (Rd.below' r1.out b0.out b0.out.size) hil
          obtain ⟨p2, o2, hA2, hb2, hc2⟩ := Ris.at (Rd.below' r2.out b0.out b0.out.size) hil
          have f1 := hc1 i hil
          have f3 := hc2 i hil
          clear hc1 hc2 hil hb1 hb2
          subst hA1
          subst hA2
          generalize gI ac i = x at f1 f3
          have t0 : ((i : Nat) : Int) < 3 := by omega
          have t1 : (x != x) = false := by simp
          have t2 : (x == x) = true := by simp
          go_wp2_with fail
          go_quiet (fail)
          go_wp2_with fail
          go_roundg g
          case measure => omega
          case rel => exact ⟨i + 1, _, by omega, by go_num, rfl⟩
        · have t0 : ¬ ((i : Nat) : Int) < 3 := by omega
          go_upto_region 14 with fail
          go_loopg [7] 2 (fun g s7 w' => ∃ (k nq : Nat), k + g = 2 ∧ s7 = .int .i64 k ∧ w' = W.drewN nq)
          case atStart => exact ⟨0, nq, by omega, rfl, rfl⟩
          case round =>
            clear hk t0 hlt
            obtain ⟨i, nq, hk, rfl, rfl⟩ := hrel
            by_cases hlt : i < 2
            · obtain ⟨g, rfl⟩ : ∃ g, gk = g + 1 := ⟨gk - 1, by omega⟩
              have hil : i < cfS.length := hlt
              obtain ⟨p1, o1, hA1, hb1, hc1⟩ := Smb.at (Rd.below' s1.out b0.out b0.out.size) hil
              obtain ⟨p2, o2, hA2, hb2, hc2⟩ := Smb.at (Rd.below' s2.out b0.out b0.out.size) hil
              obtain ⟨f1, f2, f3, f4⟩ := hc1 i hil
              obtain ⟨h1, h2, h3, h4⟩ := hc2 i hil
              clear hc1 hc2 hil hb1 hb2
              subst hA1
              subst hA2
              have t0 : ((i : Nat) : Int) < 2 := by omega
              have hne := neS hlt
              generalize sP cfS i = x at f1 h1 hne
              generalize sQ cfS i = y at f2 h2 hne
              generalize sW cfS i = z at f3 h3 hne
              generalize sB cfS i = v at f4 h4 hne
              go_wp2_with fail
              go_quiet (fail)
              go_wp2_with fail
              go_roundg g
              case measure => omega
              case rel => exact ⟨i + 1, _, by omega, by go_num, rfl⟩
            · have t0 : ¬ ((i : Nat) : Int) < 2 := by omega
              go_wp2_with fail
              go_ret
              exact ⟨rfl, Below.drewN' b0.out _⟩
end Lsc
end Go.Proofs.YtmjkhejfhpgiiaaDoor
