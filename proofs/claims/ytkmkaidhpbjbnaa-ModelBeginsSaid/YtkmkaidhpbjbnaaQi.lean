/- Texts side by side: each has its own first line. -/
import Derived.Deep.DeepCutAuto
import Derived.Test.YtkmkaidhpbjbnaaQa
import Derived.Test.YtkmkaidhpbjbnaaQb
import Derived.Test.YtkmkaidhpbjbnaaQc
import Derived.Test.YtkmkaidhpbjbnaaQd
import Derived.Test.YtkmkaidhpbjbnaaQf
import Derived.Test.YtkmkaidhpbjbnaaQh
/- The contract of a Model's Credit. Condition: the Model lies in memory. -/
namespace Go.Proofs.Ytkmkaidhpbjbnaa.Mdx
set_option maxRecDepth 100000
open Go.ChangeShapes Go.WideShapes Go.ChangeAt Go.RowKit Mem Tre Ref3 Law3 Fix3 Cfg Crd CrdB CrdC Rr4 Bkp Bks Bcl Dlk Stk Apt Bko Bku Bka Bkc Cfr Mdc Mdp Mdz Mds Lat
set_option linter.unusedVariables false
set_option linter.unusedSimpArgs false
set_option maxHeartbeats 4000000 in
theorem credit_any (base g : Nat) (q : Mq) (w : World) (h : Hid (Mm base w g q)) (hl : q.cl.length ≤ 100000) (hu : q.cu.length ≤ 100000) :
    Calls Try.prog 12 #[.pointer (some ⟨g, 0, none⟩)] w (MadeStF q.cl q.cu w) := by
  obtain ⟨sh, wi, ra, ta, A, B, C, nl, al, sl, c, d, f, nd, ac, sy, Ab, nb, cb, xs, An, Au, n1, n2, d1, d2, cl, cu, ep, off⟩ := q
  simp only at hl hu
  have U0 : Hid (Below w.heap.size w (w.alloc (.cells #[.slice none 0 0, .slice none 0 0] 62))) := (Below.refl _ _).alloc (Nat.le_refl _) _
  have Z0 : Hid (Blk (w.alloc (.cells #[.slice none 0 0, .slice none 0 0] 62)) w.heap.size 62 #[.slice none 0 0, .slice none 0 0]) := Blk.fresh _ _ _
  have M0 : Hid (Mm base (w.alloc (.cells #[.slice none 0 0, .slice none 0 0] 62)) g ⟨sh, wi, ra, ta, A, B, C, nl, al, sl, c, d, f, nd, ac, sy, Ab, nb, cb, xs, An, Au, n1, n2, d1, d2, cl, cu, ep, off⟩) := Mm_below h.out U0.out
  go_enter Try.func12, Try.ntmps12
  go_upto_region 1 with fail
  generalize hgZ : w.heap.size = gZ at Z0 ⊢
  have HGZ := Lib.hid hgZ
  clear hgZ
  generalize (w.alloc (.cells #[.slice none 0 0, .slice none 0 0] 62)) = w0 at Z0 U0 M0 ⊢
  have K0 : Hid (Blk w0 g 82 #[.int .i64 sh, .int .i64 wi, .int .i64 ra, .int .i64 ta, .slice A nl c, .slice B al d, .slice C sl f, .slice Ab nb cb, .slice An n1 d1, .slice Au n2 d2, .int .i64 ep, .bool off]) := M0.out.blk
  have L5 : Hid (n1 = cl.length) := M0.out.l5
  have L6 : Hid (n2 = cu.length) := M0.out.l6
  obtain ⟨k0, k1, k2, k3, k4, k5, k6, k7, k8, k9, k10, k11, f0, f1, f2, f3, f4, f5, f6, f7, f8, f9, f10, f11⟩ := q12_of K0.out
  go_upto_region 3 with fail
  clear k0 k1 k2 k3 k4 k5 k6 k7 k8 k9 k10 k11 f0 f1 f2 f3 f4 f5 f6 f7 f8 f9 f10 f11 K0
  have HT : Hid (w0.drew.cell? ⟨g, 8, none⟩ = some (.slice An n1 d1) ∧ w0.drew.cell? ⟨g, 9, none⟩ = some (.slice Au n2 d2)) := ⟨M0.out.blk.cell 8, M0.out.blk.cell 9⟩
  refine wp_region_noPanic ?_
  refine wp_region_L (T := (fun w' => w'.cell? ⟨g, 8, none⟩ = some (.slice An n1 d1) ∧ w'.cell? ⟨g, 9, none⟩ = some (.slice Au n2 d2))) (st := [13]) (by kernel_rfl) ?_
  refine wpL_word (i := 0) (v := ?_) rfl (by kernel_rfl) (fun _ _ _ h => h) (by kernel_rfl) _ _ _ _ (by kernel_rfl) (by kernel_rfl) (Or.inl ⟨by rfl, ?_⟩) (fun _ => HT.out) ?_
  rotate_left
  · intro w' _
    go_simp
    try with_reducible rfl
  (try simp only [Act.put, List.getElem_toArray, List.getElem_cons_succ, List.getElem_cons_zero, List.setIfInBounds_toArray, List.set_cons_zero, List.set_cons_succ])
  refine wpL_word (i := 1) (v := ?_) rfl (by kernel_rfl) (fun _ _ _ h => h) (by kernel_rfl) _ _ _ _ (by kernel_rfl) (by kernel_rfl) (Or.inl ⟨by rfl, ?_⟩) (fun _ => HT.out) ?_
  rotate_left
  · intro w' _
    go_simp
    try with_reducible rfl
  (try simp only [Act.put, List.getElem_toArray, List.getElem_cons_succ, List.getElem_cons_zero, List.setIfInBounds_toArray, List.set_cons_zero, List.set_cons_succ])
  refine wpL_word (i := 2) (v := ?_) rfl (by kernel_rfl) (fun _ _ _ h => h) (by kernel_rfl) _ _ _ _ (by kernel_rfl) (by kernel_rfl) (Or.inl ⟨by rfl, ?_⟩) (fun _ => HT.out) ?_
  rotate_left
  · intro w' _
    go_simp
    try with_reducible rfl
  (try simp only [Act.put, List.getElem_toArray, List.getElem_cons_succ, List.getElem_cons_zero, List.setIfInBounds_toArray, List.set_cons_zero, List.set_cons_succ])
  refine wpL_word (i := 3) (v := ?_) rfl (by kernel_rfl) (fun _ _ _ h => h) (by kernel_rfl) _ _ _ _ (by kernel_rfl) (by kernel_rfl) (Or.inl ⟨by rfl, ?_⟩) (fun _ => HT.out) ?_
  rotate_left
  · intro w' _
    go_simp
    try with_reducible rfl
  (try simp only [Act.put, List.getElem_toArray, List.getElem_cons_succ, List.getElem_cons_zero, List.setIfInBounds_toArray, List.set_cons_zero, List.set_cons_succ])
  refine wpL_load (i := 4) (v := ?_) rfl (by kernel_rfl) (fun _ _ _ h => h) (by kernel_rfl) (by kernel_rfl) _ _ _ _ (by kernel_rfl) (by kernel_rfl) (Or.inl ⟨by rfl, ?_⟩) (by kernel_rfl) HT.out ?_
  rotate_left
  · intro w' hS
    (try dsimp only at hS)
    obtain ⟨x1, x2⟩ := hS
    go_simp
    try with_reducible rfl
  (try simp only [Act.put, List.getElem_toArray, List.getElem_cons_succ, List.getElem_cons_zero, List.setIfInBounds_toArray, List.set_cons_zero, List.set_cons_succ])
  refine wpL_word (i := 6) (v := ?_) rfl (by kernel_rfl) (fun _ _ _ h => h) (by kernel_rfl) _ _ _ _ (by kernel_rfl) (by kernel_rfl) (Or.inl ⟨by rfl, ?_⟩) (fun _ => HT.out) ?_
  rotate_left
  · intro w' _
    go_simp
    try with_reducible rfl
  (try simp only [Act.put, List.getElem_toArray, List.getElem_cons_succ, List.getElem_cons_zero, List.setIfInBounds_toArray, List.set_cons_zero, List.set_cons_succ])
  refine wpL_word (i := 7) (v := ?_) rfl (by kernel_rfl) (fun _ _ _ h => h) (by kernel_rfl) _ _ _ _ (by kernel_rfl) (by kernel_rfl) (Or.inl ⟨by rfl, ?_⟩) (fun _ => HT.out) ?_
  rotate_left
  · intro w' _
    go_simp
    try with_reducible rfl
  (try simp only [Act.put, List.getElem_toArray, List.getElem_cons_succ, List.getElem_cons_zero, List.setIfInBounds_toArray, List.set_cons_zero, List.set_cons_succ])
  refine wpL_word (i := 8) (v := ?_) rfl (by kernel_rfl) (fun _ _ _ h => h) (by kernel_rfl) _ _ _ _ (by kernel_rfl) (by kernel_rfl) (Or.inl ⟨by rfl, ?_⟩) (fun _ => HT.out) ?_
  rotate_left
  · intro w' _
    go_simp
    try with_reducible rfl
  (try simp only [Act.put, List.getElem_toArray, List.getElem_cons_succ, List.getElem_cons_zero, List.setIfInBounds_toArray, List.set_cons_zero, List.set_cons_succ])
  refine wpL_word (i := 9) (v := ?_) rfl (by kernel_rfl) (fun _ _ _ h => h) (by kernel_rfl) _ _ _ _ (by kernel_rfl) (by kernel_rfl) (Or.inl ⟨by rfl, ?_⟩) (fun _ => HT.out) ?_
  rotate_left
  · intro w' _
    go_simp
    try with_reducible rfl
  (try simp only [Act.put, List.getElem_toArray, List.getElem_cons_succ, List.getElem_cons_zero, List.setIfInBounds_toArray, List.set_cons_zero, List.set_cons_succ])
  refine wpL_load (i := 10) (v := ?_) rfl (by kernel_rfl) (fun _ _ _ h => h) (by kernel_rfl) (by kernel_rfl) _ _ _ _ (by kernel_rfl) (by kernel_rfl) (Or.inl ⟨by rfl, ?_⟩) (by kernel_rfl) HT.out ?_
  rotate_left
  · intro w' hS
    (try dsimp only at hS)
    obtain ⟨x1, x2⟩ := hS
    go_simp
    try with_reducible rfl
  (try simp only [Act.put, List.getElem_toArray, List.getElem_cons_succ, List.getElem_cons_zero, List.setIfInBounds_toArray, List.set_cons_zero, List.set_cons_succ])
  refine wpL_next (n := 5) (by kernel_rfl) rfl (fun K' hK => ?_)
  go_simp
  refine (cloneD An n1 d1 cl _ L5 (Lib.hid (Rd.below' M0.out.cn (Below.drew (Below.refl _ _)) (Nat.le_refl _))) (by rw [L5.out]; omega)).mono ?_
  rintro e w1 ⟨A1, c1, rfl, how1, hb1⟩
  have HB1 : Hid (Below w0.heap.size w0 w1) := CrdB.below_step (Below.drew (Below.refl _ _)) hb1
  have U1 := Lib.hid (CrdB.below_step U0.out HB1.out)
  have M1 := Lib.hid (Mm_below M0.out HB1.out)
  have Z1 := Lib.hid (Blk.below' Z0.out HB1.out)
  have S0 : Hid (w.heap.size ≤ w0.heap.size) := U0.out.size
  have O1 := Lib.hid (own_mono how1 S0.out)
  have HT2 : Hid (w1.cell? ⟨g, 8, none⟩ = some (.slice An n1 d1) ∧ w1.cell? ⟨g, 9, none⟩ = some (.slice Au n2 d2)) := ⟨M1.out.blk.cell 8, M1.out.blk.cell 9⟩
  clear how1 hb1
  go_wp2_with fail
  refine hK.out _ _ HT2.out ?_
  clear hK K'
  (try simp only [Act.put, List.getElem_toArray, List.getElem_cons_succ, List.getElem_cons_zero, List.setIfInBounds_toArray, List.set_cons_zero, List.set_cons_succ])
  refine wpL_next (n := 11) (by kernel_rfl) rfl (fun K' hK => ?_)
  go_simp
  refine (cloneI Au n2 d2 cu _ L6 (Lib.hid M1.out.cr) (by rw [L6.out]; omega)).mono ?_
  rintro e w2 ⟨A2, c2, rfl, how2, hb2⟩
  have U2 := Lib.hid (CrdB.below_step U1.out hb2)
  have M2 := Lib.hid (Mm_below M1.out hb2)
  have Z2 := Lib.hid (Blk.below' Z1.out hb2)
  have O2 := Lib.hid (own_below O1.out hb2)
  have S1 : Hid (w.heap.size ≤ w1.heap.size) := U1.out.size
  have O3 := Lib.hid (own_mono how2 S1.out)
  have HT3 : Hid (w2.cell? ⟨g, 8, none⟩ = some (.slice An n1 d1) ∧ w2.cell? ⟨g, 9, none⟩ = some (.slice Au n2 d2)) := ⟨M2.out.blk.cell 8, M2.out.blk.cell 9⟩
  clear how2 hb2
  go_wp2_with fail
  refine hK.out _ _ HT3.out ?_
  clear hK K'
  (try simp only [Act.put, List.getElem_toArray, List.getElem_cons_succ, List.getElem_cons_zero, List.setIfInBounds_toArray, List.set_cons_zero, List.set_cons_succ])
  refine wpL_word (i := 12) (v := ?_) rfl (by kernel_rfl) (fun _ _ _ h => h) (by kernel_rfl) _ _ _ _ (by kernel_rfl) (by kernel_rfl) (Or.inl ⟨by rfl, ?_⟩) (fun _ => HT3.out) ?_
  rotate_left
  · intro w' _
    go_simp
    try with_reducible rfl
  (try simp only [Act.put, List.getElem_toArray, List.getElem_cons_succ, List.getElem_cons_zero, List.setIfInBounds_toArray, List.set_cons_zero, List.set_cons_succ])
  obtain ⟨z0, z1, y0, y1⟩ := q2b Z2.out
  have F3 : Blk (st2 w2 gZ (.slice A1 n1 c1) (.slice A2 n2 c2)) gZ 62 #[.slice A1 n1 c1, .slice A2 n2 c2] := st2_blk Z2.out
  have hfin : MadeStF cl cu w (.returned (.agg #[.slice A1 n1 c1, .slice A2 n2 c2])) (st2 w2 gZ (.slice A1 n1 c1) (.slice A2 n2 c2)) := by
    have k1 := blk_st Z2.out 0 (.slice A1 n1 c1)
    refine madeStF_mk (own_fresh O2.out) (own_fresh O3.out) L5.out L6.out (Rd.of_own (own_st (own_st O2.out Z2.out (by decide) 0 _) k1 (by decide) 1 _)) (Rd.of_own (own_st (own_st O3.out Z2.out (by decide) 0 _) k1 (by decide) 1 _)) ?_
    exact st2_below U2.out (by rw [HGZ.out]; exact Nat.le_refl _)
  have HF := Lib.hid hfin
  clear hfin
  refine wpL_late (n := 13) (by kernel_rfl) rfl (by kernel_rfl) (fun K' hK => ?_)
  go_simp
  refine hK.out _ _ ?_
  clear hK K'
  (try simp only [Act.put, List.getElem_toArray, List.getElem_cons_succ, List.getElem_cons_zero, List.setIfInBounds_toArray, List.set_cons_zero, List.set_cons_succ])
  refine wpL_done (by kernel_rfl) ?_ _
  refine NoPanic.normal ?_
  go_wp2_with fail
  obtain ⟨e0, e1, _, _⟩ := q2b F3
  clear F3
  unfold st2 at e0 e1 HF
  exact bodyPost_ret (v := .agg #[.slice A1 n1 c1, .slice A2 n2 c2]) (by simp [results, Try.results12, go_sem, e0, e1]) rfl HF.out
theorem credit_nil (w : World) : Calls Try.prog 12 #[.pointer none] w (MadeStF [] [] w) := by
  have U0 : Hid (Below w.heap.size w (w.alloc (.cells #[.slice none 0 0, .slice none 0 0] 62))) := (Below.refl _ _).alloc (Nat.le_refl _) _
  have Z0 : Hid (Blk (w.alloc (.cells #[.slice none 0 0, .slice none 0 0] 62)) w.heap.size 62 #[.slice none 0 0, .slice none 0 0]) := Blk.fresh _ _ _
  go_enter Try.func12, Try.ntmps12
  go_upto_region 1 with fail
  generalize hgZ : w.heap.size = gZ at Z0 ⊢
  have HGZ := Lib.hid hgZ
  clear hgZ
  generalize (w.alloc (.cells #[.slice none 0 0, .slice none 0 0] 62)) = w0 at Z0 U0 ⊢
  obtain ⟨z0, z1, y0, y1⟩ := q2b Z0.out
  have F3 : Blk (st2 w0 gZ (.slice none 0 0) (.slice none 0 0)) gZ 62 #[.slice none 0 0, .slice none 0 0] := st2_blk Z0.out
  have hfin : MadeStF [] [] w (.returned (.agg #[.slice none 0 0, .slice none 0 0])) (st2 w0 gZ (.slice none 0 0) (.slice none 0 0)) := by
    refine madeStF_mk (fun a h => by cases h) (fun a h => by cases h) rfl rfl (.inl rfl) (.inl rfl) ?_
    exact st2_below U0.out (by rw [HGZ.out]; exact Nat.le_refl _)
  have HF := Lib.hid hfin
  clear hfin
  go_wp2_with fail
  obtain ⟨e0, e1, _, _⟩ := q2b F3
  clear F3
  unfold st2 at e0 e1 HF
  exact bodyPost_ret (v := .agg #[.slice none 0 0, .slice none 0 0]) (by simp [results, Try.results12, go_sem, e0, e1]) rfl HF.out
end Go.Proofs.Ytkmkaidhpbjbnaa.Mdx

/- Plain facts on a Config that may be, out of any, as the reference's Fix makes it: Check has nothing against it. No program, no condition. -/
namespace Go.Proofs.Ytkmkaidhpbjbnaa.Fcf
set_option maxRecDepth 100000
open Go.RowKit Mem Tre Ref3 Law3 Fix3 Bnd Flo Cfg Crd CrdB CrdC Cpl

/-- so much of a number, as an unsigned one -/
def modF (x m : Int) : Int := wrap64 ((IntKind.u64.wrap x).tmod m)
theorem modF_bd {x m : Int} (h : 0 < m) (h' : m ≤ 4611686018427387904) : 0 ≤ modF x m ∧ modF x m < m := by
  unfold modF
  rw [wrap_u64, Int.tmod_eq_emod_of_nonneg (Int.emod_nonneg _ (by decide))]
  have a := Int.emod_nonneg (x % 18446744073709551616) (b := m) (by omega)
  have b := Int.emod_lt_of_pos (x % 18446744073709551616) (b := m) h
  generalize x % 18446744073709551616 % m = r at *
  unfold wrap64
  omega
theorem getD_map {α β : Type} {l : List α} {f : α → β} {i : Nat} {d : β} (h : i < l.length) : (l.map f).getD i d = f l[i] := by simp [h]
def fixA (n : Nat) (ac : List Int) : List Int := if ac.length = 0 then [(n : Int) - 1] else (ac.take 5).map fun a => modF a n
def oneS (p : Int × Int × Int × Nat) : Int × Int × Int × Nat :=
  (1 + modF p.1 1099511627776, 1 + modF p.2.1 1099511627776, if p.2.2.1 < 0 then 9223372036854775807 else p.2.2.1, if rightB p.2.2.2 = true then p.2.2.2 else 4602678819172646912)
def fixS (sy : List (Int × Int × Int × Nat)) : List (Int × Int × Int × Nat) := if sy.length = 0 then [(10, 100, 1000, 4602678819172646912)] else (sy.take 3).map oneS
theorem fixA_len {n : Nat} {ac : List Int} : 1 ≤ (fixA n ac).length ∧ (fixA n ac).length ≤ 5 := by
  unfold fixA
  split
  · simp
  · rw [List.length_map, List.length_take]; omega
theorem fixS_len {sy : List (Int × Int × Int × Nat)} : 1 ≤ (fixS sy).length ∧ (fixS sy).length ≤ 3 := by
  unfold fixS
  split
  · simp
  · rw [List.length_map, List.length_take]; omega
theorem fixA_in {n : Nat} {ac : List Int} (h : 1 ≤ n) (h' : n ≤ 1000) : accB n (fixA n ac) = true := by
  refine accB_t fun i hi => ?_
  unfold fixA at hi ⊢
  split at hi
  · rename_i h0
    rw [if_pos h0]
    have : i = 0 := by simp at hi; omega
    subst this
    exact inR_t (show 0 ≤ (n : Int) - 1 by omega) (show (n : Int) - 1 < n by omega)
  · rename_i h0
    rw [if_neg h0]
    have hl : i < (ac.take 5).length := by simpa using hi
    have e : gI ((ac.take 5).map fun a => modF a n) i = modF ((ac.take 5)[i]) n := getD_map hl
    rw [e]
    have := modF_bd (x := (ac.take 5)[i]) (m := (n : Int)) (by omega) (by omega)
    exact inR_t this.1 this.2
theorem half_right : rightB 4602678819172646912 = true := by decide +kernel
theorem one_ok (p : Int × Int × Int × Nat) : symB (oneS p).1 (oneS p).2.1 (oneS p).2.2.1 (oneS p).2.2.2 = true := by
  have h1 := modF_bd (x := p.1) (m := 1099511627776) (by decide) (by decide)
  have h2 := modF_bd (x := p.2.1) (m := 1099511627776) (by decide) (by decide)
  unfold symB btwB oneS
  simp only [Bool.and_eq_true, decide_eq_true_eq]
  refine ⟨⟨⟨⟨by omega, by omega⟩, ⟨by omega, by omega⟩⟩, ?_⟩, ?_⟩
  · split <;> omega
  · split
    · assumption
    · exact half_right
theorem fixS_ok {sy : List (Int × Int × Int × Nat)} : tabB (fixS sy) = true := by
  refine tabB_t fun i hi => ?_
  unfold fixS at hi ⊢
  split at hi
  · rename_i h0
    rw [if_pos h0]
    have : i = 0 := by simp at hi; omega
    subst this
    show symB 10 100 1000 4602678819172646912 = true
    unfold symB btwB
    rw [half_right]
    decide
  · rename_i h0
    rw [if_neg h0]
    have hl : i < (sy.take 3).length := by simpa using hi
    have e : ((sy.take 3).map oneS).getD i (0, 0, 0, 0) = oneS ((sy.take 3)[i]) := getD_map hl
    unfold sP sQ sW sB
    rw [e]
    exact one_ok _
theorem siz_fix (sh wi ra ta : Int) : sizB (1 + modF sh 3) (modF wi 4) (1 + modF ra 6) (1 + modF ta 8) = true := by
  have h1 := modF_bd (x := sh) (m := 3) (by decide) (by decide)
  have h2 := modF_bd (x := wi) (m := 4) (by decide) (by decide)
  have h3 := modF_bd (x := ra) (m := 6) (by decide) (by decide)
  have h4 := modF_bd (x := ta) (m := 8) (by decide) (by decide)
  unfold sizB btwB
  simp only [Bool.and_eq_true, decide_eq_true_eq]
  omega
/-- Check has nothing against it -/
theorem cfg_fix (sh wi ra ta : Int) (nd : List (Int × Int)) (ac : List Int) (sy : List (Int × Int × Int × Nat)) :
    cfgF (1 + modF sh 3) (modF wi 4) (1 + modF ra 6) (1 + modF ta 8) (fixF nd) (fixA (fixF nd).length ac) (fixS sy) = 0 := by
  have hn := fixF_len nd
  have ha := fixA_len (n := (fixF nd).length) (ac := ac)
  have hs := fixS_len (sy := sy)
  exact cfgF_7 (siz_fix sh wi ra ta) (by rw [okt_chk (okt_fixF nd) hn.1 (by omega)]) (by omega) (fixA_in hn.1 (by omega)) (by omega) fixS_ok
end Go.Proofs.Ytkmkaidhpbjbnaa.Fcf

/- The contract of the reference's Fix of nodes once more, its answer a row of its own. Condition: the list lies in memory, its numbers are of 64 bits. -/
namespace Go.Proofs.Ytkmkaidhpbjbnaa.Fown
set_option maxRecDepth 100000
open Go.ChangeShapes Go.WideShapes Go.ChangeAt Go.RowKit Mem Tre Ref3 Law3 Fix3
set_option linter.unusedVariables false
set_option linter.unusedSimpArgs false

def MadeNdsR (l : List (Int × Int)) (w : World) (e : Ending) (w' : World) : Prop := ∃ A c, e = .returned (.slice A l.length c) ∧ w'.ownsRow w.heap.size 109 2 (.slice A l.length c) l.length (nds l) ∧ Below w.heap.size w w'
theorem madeNdsR_mk {xs ys : List (Int × Int)} {A : Option Addr} {c : Nat} {w w' : World} (h : ys = xs) (hr : w'.ownsRow w.heap.size 109 2 (.slice A xs.length c) xs.length (nds xs)) (hb : Below w.heap.size w w') : MadeNdsR ys w (.returned (.slice A xs.length c)) w' := by
  subst h; exact ⟨A, c, rfl, hr, hb⟩
theorem own_one {w : World} {g : Nat} {te : TypeId} {base : Nat} {a b : Value} (h : Blk w g te #[a, b]) (hb : base ≤ g) : w.ownsRow base te 2 (.slice (some ⟨g, 0, none⟩) 1 1) 1 [a, b] :=
  ⟨by simp, .inr ⟨g, 1, #[a, b], rfl, hb, h, Nat.le_refl _, by unfold maxLen; omega, by simp, by simp⟩⟩

set_option maxHeartbeats 1000000 in
theorem fix_own (A : Option Addr) (c : Nat) (l : List (Int × Int)) (w : World) (hl : Hid (Nds w w.heap.size A l)) (hw : Hid (WfN l)) (hmax : (l.length : Int) ≤ 9223372036854775807) :
    Calls Try.prog 37 #[.slice A l.length c] w (MadeNdsR (fixF l) w) := by
  obtain ⟨i0, hi, hz0, hz1, hz2⟩ := info_parts rnode_info
  go_enter Try.func37, Try.ntmps37
  go_wp2
  go_loopg [3, 4] (min l.length 10) (fun g s3 s4 w' => ∃ (k : Nat) (A' : Option Addr) (c' : Nat), k + g = min l.length 10 ∧ s4 = .int .i64 k ∧ s3 = .slice A' k c' ∧ Hid (w'.ownsRow w.heap.size 109 2 (.slice A' k c') k (nds (fixK l k))) ∧ Below w.heap.size w w')
  case atStart => exact ⟨0, none, 0, by omega, rfl, rfl, World.ownsRow_nil _ _ _ _, Below.refl _ _⟩
  case round =>
    obtain ⟨k, A', c', hk, rfl, rfl, hown, hbel⟩ := hrel
    by_cases hlt : k < l.length ∧ k < 10
    · obtain ⟨g, rfl⟩ : ∃ g, gk = g + 1 := ⟨gk - 1, by omega⟩
      obtain ⟨b, o, rfl, hb, hc⟩ := Nds.at hl.out (by omega)
      have hc0 : wr.cell? ⟨b, o + k * 2, none⟩ = some (.int .i64 (nP l k)) := (hbel.cell (p := ⟨b, o + k * 2, none⟩) hb).trans (hc k (by omega)).1
      have hc1 : wr.cell? ⟨b, o + k * 2 + 1, none⟩ = some (.int .i64 (nC l k)) := (hbel.cell (p := ⟨b, o + k * 2 + 1, none⟩) hb).trans (hc k (by omega)).2
      obtain ⟨hp, hcc⟩ := hw.out k (by omega)
      obtain ⟨hp1, hp2⟩ := hp
      obtain ⟨hcc1, hcc2⟩ := hcc
      obtain ⟨hlt1, hlt2⟩ := hlt
      have t1 : decide ((k : Int) < 10) = true := by simp; omega
      have hblk : b < wr.heap.size := by have := hbel.size; omega
      have hc0' : ∀ X : Obj, (wr.alloc X).cell? ⟨b, o + k * 2, none⟩ = some (.int .i64 (nP l k)) := fun X => (World.cell?_alloc_lt wr X ⟨b, o + k * 2, none⟩ hblk).trans hc0
      have HC := Lib.hid hc
      have HKK := Lib.hid hk
      clear hc hk hc0
      have hown1 : Hid (Nds (wr.alloc (.cells #[.int .i64 (nP l k % k), .int .i64 (wrap64 ((IntKind.u64.wrap (nC l k)).tmod 4611686018427387905))] 109)) (wr.alloc (.cells #[.int .i64 (nP l k % k), .int .i64 (wrap64 ((IntKind.u64.wrap (nC l k)).tmod 4611686018427387905))] 109)).heap.size A' (fixK l k)) :=
        Rd.of_own (World.ownsRow.alloc hown.out _)
      have hwk : Hid (WfN (fixK l k)) := okt_wf (okt_fixK l k) (by rw [fixK_len]; omega)
      have hlk : Hid (k = (fixK l k).length) := (fixK_len l k).symm
      have hmk : ((fixK l k).length : Int) ≤ 9223372036854775807 := by rw [fixK_len]; omega
      by_cases hq : 0 < k ∧ 0 ≤ nP l k
      · have hpp := Lib.hid hq
        obtain ⟨hq1, hq2⟩ := hq
        have hm1 := Int.emod_nonneg (nP l k) (b := (k : Int)) (by omega)
        have hm2 := Int.emod_lt_of_pos (nP l k) (b := (k : Int)) (by omega)
        obtain ⟨m, hm⟩ : ∃ m : Int, m = nP l k % k := ⟨_, rfl⟩
        have HM := Lib.hid hm
        go_wp2_with fail
        refine (rpath_n _ _ _ (fixK l k) _ _ hlk.out hown1 hwk hmk ⟨by omega, by omega⟩).mono ?_
        rintro e w1 ⟨A1, c1, rfl, hr1, hb1⟩
        have hbk : Hid (Blk w1 wr.heap.size 109 #[.int .i64 (nP l k % k), .int .i64 (wrap64 ((IntKind.u64.wrap (nC l k)).tmod 4611686018427387905))]) := Blk.below' (Blk.fresh wr _ _) hb1
        have f0 : w1.cell? ⟨wr.heap.size, 0, none⟩ = some (.int .i64 (nP l k % k)) := hbk.out.cell 0
        have f1 : w1.cell? ⟨wr.heap.size, 1, none⟩ = some (.int .i64 (wrap64 ((IntKind.u64.wrap (nC l k)).tmod 4611686018427387905))) := hbk.out.cell 1
        have z0 : w1.frozen? ⟨wr.heap.size, 0, none⟩ = false := hbk.out.thaw 0
        have hbw1 : Below wr.heap.size wr w1 := ((Below.refl _ _).alloc (Nat.le_refl _) _).trans (hb1.mono (by simp))
        have hbel1 : Below w.heap.size w w1 := hbel.trans (hbw1.mono hbel.size)
        clear hr1 hb1 hown1
        by_cases h3 : 3 ≤ (pathF (fixK l k) 3 (nP l k % k)).length
        · have h3' : decide (3 ≤ ((pathF (fixK l k) 3 (nP l k % k)).length : Int)) = true := by simp; omega
          have hpre : Hid (nds (fixK l (k + 1)) = nds (fixK l k) ++ [.int .i64 (-1), .int .i64 (wrap64 ((IntKind.u64.wrap (nC l k)).tmod 4611686018427387905))]) := by
            show _ = _
            rw [fixK, nds_snoc, capE, fixP, if_pos hpp.out, if_pos h3]
          have hbw2 : Below wr.heap.size wr (w1.setCell ⟨wr.heap.size, 0, none⟩ (.int .i64 (-1))) := hbw1.setCell (Nat.le_refl _) _
          have hbel1' : Below w.heap.size w (w1.setCell ⟨wr.heap.size, 0, none⟩ (.int .i64 (-1))) := hbel.trans (hbw2.mono hbel.size)
          have hownA := own_below hown hbw2
          clear h3 hbel1 hbw1 hown
          go_wp2_with (first
            | (at_builtin; refine wpList_app1 hownA hbel1' rfl _ _ _ rfl i0 (.agg #[.int .i64 0, .int .i64 0]) 16 Try.underlying22 hi hz0 hz1 hz2 rfl (by decide) rfl rfl (by simp [World.setCell]) [.int .i64 (-1), .int .i64 (wrap64 ((IntKind.u64.wrap (nC l k)).tmod 4611686018427387905))] rfl rfl (by simp [Value.oneCell']) (by unfold maxLen; omega) (by omega) (Nat.le_refl _) (hbel1').size (hbel1').size ?_; intro A2 c2 w2 hown2 hbel2 hsz2))
          go_roundg g
          case measure => omega
          case rel => exact ⟨k + 1, A2, c2, by have := HKK.out; omega, by go_num, rfl, by rw [hpre.out]; exact hown2, hbel2⟩
        · have h3' : decide (3 ≤ ((pathF (fixK l k) 3 (nP l k % k)).length : Int)) = false := by simp; omega
          have hpre : Hid (nds (fixK l (k + 1)) = nds (fixK l k) ++ [.int .i64 (nP l k % k), .int .i64 (wrap64 ((IntKind.u64.wrap (nC l k)).tmod 4611686018427387905))]) := by
            show _ = _
            rw [fixK, nds_snoc, capE, fixP, if_pos hpp.out, if_neg h3]
          have hownA := own_below hown hbw1
          clear h3 hbw1 hown
          go_wp2_with (first
            | (at_builtin; refine wpList_app1 hownA hbel1 rfl _ _ _ rfl i0 (.agg #[.int .i64 0, .int .i64 0]) 16 Try.underlying22 hi hz0 hz1 hz2 rfl (by decide) rfl rfl (by simp [World.setCell]) [.int .i64 (nP l k % k), .int .i64 (wrap64 ((IntKind.u64.wrap (nC l k)).tmod 4611686018427387905))] rfl rfl (by simp [Value.oneCell']) (by unfold maxLen; omega) (by omega) (Nat.le_refl _) (hbel1).size (hbel1).size ?_; intro A2 c2 w2 hown2 hbel2 hsz2))
          go_roundg g
          case measure => omega
          case rel => exact ⟨k + 1, A2, c2, by have := HKK.out; omega, by go_num, rfl, by rw [hpre.out]; exact hown2, hbel2⟩
      · have hpre : Hid (nds (fixK l (k + 1)) = nds (fixK l k) ++ [.int .i64 (-1), .int .i64 (wrap64 ((IntKind.u64.wrap (nC l k)).tmod 4611686018427387905))]) := by
          show _ = _
          rw [fixK, nds_snoc, capE, fixP, if_neg hq]
        have hbel1 : Below w.heap.size w (wr.alloc (.cells #[.int .i64 (-1), .int .i64 (wrap64 ((IntKind.u64.wrap (nC l k)).tmod 4611686018427387905))] 109)) := hbel.alloc hbel.size _
        have hownA : Hid ((wr.alloc (.cells #[.int .i64 (-1), .int .i64 (wrap64 ((IntKind.u64.wrap (nC l k)).tmod 4611686018427387905))] 109)).ownsRow w.heap.size 109 2 (.slice A' k c') k (nds (fixK l k))) := World.ownsRow.alloc hown.out _
        clear hown hown1
        by_cases hq0 : 0 < k
        · have hq1 : nP l k < 0 := by omega
          have hq2 : decide (0 ≤ nP l k) = false := by simp; omega
          clear hq
          go_wp2_with (first
            | (at_builtin; refine wpList_app1 hownA hbel1 rfl _ _ _ rfl i0 (.agg #[.int .i64 0, .int .i64 0]) 16 Try.underlying22 hi hz0 hz1 hz2 rfl (by decide) rfl rfl (by simp [World.setCell]) [.int .i64 (-1), .int .i64 (wrap64 ((IntKind.u64.wrap (nC l k)).tmod 4611686018427387905))] rfl rfl (by simp [Value.oneCell']) (by unfold maxLen; omega) (by omega) (Nat.le_refl _) (hbel1).size (hbel1).size ?_; intro A2 c2 w2 hown2 hbel2 hsz2))
          go_roundg g
          case measure => omega
          case rel => exact ⟨k + 1, A2, c2, by have := HKK.out; omega, by go_num, rfl, by rw [hpre.out]; exact hown2, hbel2⟩
        · have hq1 : k = 0 := by omega
          subst hq1
          clear hq
          go_wp2_with (first
            | (at_builtin; refine wpList_app1 hownA hbel1 rfl _ _ _ rfl i0 (.agg #[.int .i64 0, .int .i64 0]) 16 Try.underlying22 hi hz0 hz1 hz2 rfl (by decide) rfl rfl (by simp [World.setCell]) [.int .i64 (-1), .int .i64 (wrap64 ((IntKind.u64.wrap (nC l 0)).tmod 4611686018427387905))] rfl rfl (by simp [Value.oneCell']) (by unfold maxLen; omega) (by omega) (Nat.le_refl _) (hbel1).size (hbel1).size ?_; intro A2 c2 w2 hown2 hbel2 hsz2))
          go_roundg g
          case measure => omega
          case rel => exact ⟨0 + 1, A2, c2, by have := HKK.out; omega, by go_num, rfl, by rw [hpre.out]; exact hown2, hbel2⟩
    · have hgk : gk = 0 := by omega
      have hkm : Hid (k = min l.length 10) := by show _ = _; omega
      by_cases h0 : l.length = 0
      · have hk0 : k = 0 := by omega
        subst hk0
        have hres : Hid (fixF l = [(-1, 1000)]) := by show _ = _; rw [fixF, if_pos h0]
        have h1 : ¬ ((0 : Nat) : Int) < l.length := by omega
        have h0' : (l.length : Int) ≤ 0 := by omega
        clear h0 hlt
        go_wp2_with fail
        go_ret
        have hb := Blk.fresh wr 109 #[.int .i64 (-1), .int .i64 1000]
        exact madeNdsR_mk (xs := [(-1, 1000)]) hres.out (own_one hb hbel.size) (hbel.alloc hbel.size _)
      · have hres : Hid (fixF l = fixK l k) := by show _ = _; rw [fixF, if_neg h0, hkm.out]
        have hk0 : ((k : Int) == 0) = false := beq_eq_false_iff_ne.2 (by have := hkm.out; omega)
        have hris : Hid (wr.ownsRow w.heap.size 109 2 (.slice A' k c') k (nds (fixK l k))) := hown.out
        have hfin : Hid (MadeNdsR (fixF l) w (.returned (.slice A' k c')) wr) := by
          have e : (fixK l k).length = k := fixK_len l k
          have := madeNdsR_mk (ys := fixF l) (xs := fixK l k) (A := A') (c := c') (w' := wr) hres.out (by rw [e]; exact hris.out) hbel
          rwa [e] at this
        by_cases hlt1 : k < l.length
        · have t1 : decide ((k : Int) < 10) = false := by simp; omega
          clear hlt h0 hk hgk
          go_wp2_with fail
          go_ret
          exact hfin.out
        · have t1 : (l.length : Int) ≤ k := by omega
          clear hlt h0 hk hgk
          go_wp2_with fail
          go_ret
          exact hfin.out
end Go.Proofs.Ytkmkaidhpbjbnaa.Fown

/- The contract of the law's To: a Config of the reference's as the program has it. Condition: the Config lies in memory. -/
namespace Go.Proofs.Ytkmkaidhpbjbnaa.Rul6
set_option maxRecDepth 100000
open Go.ChangeShapes Go.WideShapes Go.ChangeAt Go.RowKit Mem Tre Ref3 Law3 Fix3 Opn Bnd Flo Cfg CrdB CrdC Rr4 Fr4 St7
set_option linter.unusedVariables false
set_option linter.unusedSimpArgs false
attribute [local go_sem] run_store_float

def MadeNdsO (l : List (Int × Int)) (w : World) (e : Ending) (w' : World) : Prop := ∃ A c, e = .returned (.slice A l.length c) ∧ w'.ownsRow w.heap.size 99 2 (.slice A l.length c) l.length (nds l) ∧ Below w.heap.size w w'
theorem madeNdsO_mk {xs ys : List (Int × Int)} {A : Option Addr} {c : Nat} {w w' : World} (h : xs = ys) (hr : w'.ownsRow w.heap.size 99 2 (.slice A ys.length c) ys.length (nds xs)) (hb : Below w.heap.size w w') : MadeNdsO ys w (.returned (.slice A ys.length c)) w' := by
  subst h; exact ⟨A, c, rfl, hr, hb⟩
theorem own_blk_ne {w : World} {base : Nat} {e te : TypeId} {size n g : Nat} {v : Value} {xs : List Value} {cs : Array Value} (h : w.ownsRow base e size v n xs) (hk : Blk w g te cs) (hne : e ≠ te) : v.ownBlock ≠ some g := by
  rcases h.2 with ⟨rfl, _⟩ | ⟨k, cap, cur, rfl, _, hh, _⟩
  · simp [Value.ownBlock]
  · intro he
    have : k = g := by simpa [Value.ownBlock] using he
    subst this
    unfold Blk at hk
    rw [hh] at hk
    injection hk with hk
    injection hk with _ q
    exact hne q
theorem own_set1 {w : World} {base : Nat} {e te : TypeId} {size n g : Nat} {v : Value} {xs : List Value} {cs : Array Value} (h : w.ownsRow base e size v n xs) (hk : Blk w g te cs) (hne : e ≠ te) (j : Nat) (x : Value) : (w.setCell ⟨g, j, none⟩ x).ownsRow base e size v n xs := by
  have hnb := own_blk_ne h hk hne
  refine ⟨h.1, ?_⟩
  rcases h.2 with h2 | ⟨k, cap, cur, hv, hg, hh, r⟩
  · exact .inl h2
  · refine .inr ⟨k, cap, cur, hv, hg, ?_, r⟩
    have hkg : k ≠ g := by rintro rfl; rw [hv] at hnb; simp [Value.ownBlock] at hnb
    rw [Below.heap_setCell _ _ _ _ (by exact hkg)]
    exact hh
theorem own_st7 {W : World} {g base : Nat} {e te : TypeId} {size n : Nat} {v : Value} {xs : List Value} {v0 v1 v2 v3 v4 v5 v6 qa qb qc qd qe qf qh : Value} (h : W.ownsRow base e size v n xs) (hk : Blk W g te #[v0, v1, v2, v3, v4, v5, v6]) (hne : e ≠ te) : (st7 W g qa qb qc qd qe qf qh).ownsRow base e size v n xs := by
  have o0 := own_set1 h hk hne 0 qa
  have k0 : Blk (W.setCell ⟨g, 0, none⟩ qa) g te _ := blk_set hk 0 qa
  have o1 := own_set1 o0 k0 hne 1 qb
  have k1 := blk_set k0 1 qb
  have o2 := own_set1 o1 k1 hne 2 qc
  have k2 := blk_set k1 2 qc
  have o3 := own_set1 o2 k2 hne 3 qd
  have k3 := blk_set k2 3 qd
  have o4 := own_set1 o3 k3 hne 4 qe
  have k4 := blk_set k3 4 qe
  have o5 := own_set1 o4 k4 hne 5 qf
  have k5 := blk_set k4 5 qf
  exact own_set1 o5 k5 hne 6 qh
theorem own_grown {w w' : World} {base g : Nat} {e te : TypeId} {size n : Nat} {v : Value} {xs : List Value} {cs : Array Value} (h : w.ownsRow base e size v n xs) (hk : Blk w g te cs) (hne : e ≠ te) (hg : w.grownBy w' (some g)) : w'.ownsRow base e size v n xs :=
  World.ownsRow.kept h hg (.inr (own_blk_ne h hk hne))
theorem own_own {w w' : World} {base base2 : Nat} {e e2 : TypeId} {size n size2 n2 : Nat} {v v2 : Value} {xs xs2 : List Value} (h : w.ownsRow base e size v n xs) (h2 : w.ownsRow base2 e2 size2 v2 n2 xs2) (hne : e ≠ e2) (hg : w.grownBy w' v2.ownBlock) : w'.ownsRow base e size v n xs := by
  refine World.ownsRow.kept h hg ?_
  rcases h2.2 with ⟨rfl, _⟩ | ⟨k, cap, cur, rfl, _, hh, _⟩
  · cases hv : v.ownBlock with
    | none => exact .inl rfl
    | some q => exact .inr (by simp [Value.ownBlock])
  · exact .inr (own_blk_ne h (g := k) (cs := cur) hh hne)
theorem psym_info : (Try.prog.info? 85).map (fun i => (i.zero, i.size, i.bytes)) = some (some (.agg #[.int .i64 0, .int .i64 0, .int .i64 0, .float .f64 0]), 4, 32) := by kernel_rfl
theorem int_info6 : (Try.prog.info? 3).map (fun i => (i.zero, i.size, i.bytes)) = some (some (.int .i64 0), 1, 8) := by kernel_rfl
theorem below_gr {w0 w w' : World} {g : Nat} (h : Below w0.heap.size w0 w) (hg : w.grownBy w' (some g)) (hl : w0.heap.size ≤ g) : Below w0.heap.size w0 w' := h.grown hg h.size (fun k hk => by injection hk with hk; omega)

set_option maxHeartbeats 1000000 in
theorem to_own (A : Option Addr) (c : Nat) (l : List (Int × Int)) (w : World) (hl : Hid (Nds w w.heap.size A l)) (hw : Hid (WfN l)) (hmax : (l.length : Int) ≤ 1000000) :
    Calls Try.prog 20 #[.slice A l.length c] w (MadeNdsO l w) := by
  obtain ⟨i0, hi, hz0, hz1, hz2⟩ := info_parts node_info
  go_enter Try.func20, Try.ntmps20
  go_wp2
  go_loopg [3, 4] l.length (fun g s3 s4 w' => ∃ (k : Nat) (A' : Option Addr) (c' : Nat), k + g = l.length ∧ s4 = .int .i64 k ∧ s3 = .slice A' k c' ∧ Hid (w'.ownsRow w.heap.size 99 2 (.slice A' k c') k (nds (l.take k))) ∧ Below w.heap.size w w')
  case atStart => exact ⟨0, none, 0, by omega, rfl, rfl, World.ownsRow_nil _ _ _ _, Below.refl _ _⟩
  case round =>
    obtain ⟨k, A', c', hk, rfl, rfl, hown, hbel⟩ := hrel
    by_cases hlt : (k : Int) < (l.length : Int)
    · obtain ⟨g, rfl⟩ : ∃ g, gk = g + 1 := ⟨gk - 1, by omega⟩
      obtain ⟨b, o, rfl, hb, hc⟩ := Nds.at hl.out (by omega)
      have hc0 : wr.cell? ⟨b, o + k * 2, none⟩ = some (.int .i64 (nP l k)) := (hbel.cell (p := ⟨b, o + k * 2, none⟩) hb).trans (hc k (by omega)).1
      have hc1 : wr.cell? ⟨b, o + k * 2 + 1, none⟩ = some (.int .i64 (nC l k)) := (hbel.cell (p := ⟨b, o + k * 2 + 1, none⟩) hb).trans (hc k (by omega)).2
      clear hc
      go_wp2_with fail
      have hpre : Hid (nds (l.take (k + 1)) = nds (l.take k) ++ [.int .i64 (nP l k), .int .i64 (nC l k)]) := by show _ = _; rw [take_snoc (by omega), nds_snoc]
      go_region_law ((refine step_app1 (own_drew hown) (below_drew hbel) rfl _ _ _ rfl i0 (.agg #[.int .i64 0, .int .i64 0]) 16 Try.underlying36 hi hz0 hz1 hz2 rfl (by decide) rfl rfl rfl [.int .i64 (nP l k), .int .i64 (nC l k)] rfl rfl (by simp [Value.oneCell']) (by unfold maxLen; omega) (by omega) (Nat.le_refl _) hbel.size hbel.size ?_; intro A1 c1 w1 hown1 hbel1 hsz1))
      all_goals
        go_wp2_with fail
        go_roundg g
        case measure => omega
        case rel => exact ⟨k + 1, A1, c1, by omega, by go_num, rfl, by rw [hpre.out]; exact hown1, hbel1⟩
    · obtain rfl : k = l.length := by omega
      have hris : Hid (Nds wr wr.heap.size A' l) := by
        have := Rd.of_own hown.out
        rwa [List.take_length] at this
      go_wp2_with fail
      go_ret
      exact madeNdsO_mk (by rw [List.take_length]) hown.out hbel


theorem below_up {w W : World} (h : Below w.heap.size w W) (o : Obj) : Below w.heap.size w (W.alloc o) := h.alloc h.size o
theorem blk_at {w : World} {te : TypeId} {cs : Array Value} {g : Nat} (h : g = w.heap.size) : Blk (w.alloc (.cells cs te)) g te cs := by subst h; exact Blk.fresh _ _ _

theorem app_at {P : Program} {ops : Array Oper} {o : Oper} {a : Act} {K : Act → World → Prop} {Q : Exit → Act → World → Prop} {E : Prop} (w : World) (h : if Region.wanted o (yielded ops a.tmps) = true then Oper.wp P o a w K Q else E) : if Region.wanted o (yielded ops a.tmps) = true then Oper.wp P o a w K Q else E := h
theorem st7_far {W : World} {g gZ : Nat} {te : TypeId} {cs : Array Value} {a b c d e f h : Value} (hk : Blk W g te cs) (hne : g ≠ gZ) : Blk (st7 W gZ a b c d e f h) g te cs :=
  blk_far (blk_far (blk_far (blk_far (blk_far (blk_far (blk_far hk hne a) hne b) hne c) hne d) hne e) hne f) hne h
theorem s_of {W : World} {g : Nat} {te : TypeId} {v0 v1 v2 v3 v4 v5 v6 : Value} (hk : Blk W g te #[v0, v1, v2, v3, v4, v5, v6]) :
    W.cell? ⟨g, 0, none⟩ = some v0 ∧ W.cell? ⟨g, 1, none⟩ = some v1 ∧ W.cell? ⟨g, 2, none⟩ = some v2 ∧ W.cell? ⟨g, 3, none⟩ = some v3 ∧ W.cell? ⟨g, 4, none⟩ = some v4 ∧ W.cell? ⟨g, 5, none⟩ = some v5 :=
  ⟨hk.cell 0, hk.cell 1, hk.cell 2, hk.cell 3, hk.cell 4, hk.cell 5⟩
theorem z_of {W : World} {g : Nat} {te : TypeId} {v0 v1 v2 v3 v4 v5 v6 : Value} (hk : Blk W g te #[v0, v1, v2, v3, v4, v5, v6]) :
    W.cell? ⟨g, 0, none⟩ = some v0 ∧ W.cell? ⟨g, 1, none⟩ = some v1 ∧ W.cell? ⟨g, 2, none⟩ = some v2 ∧ W.cell? ⟨g, 3, none⟩ = some v3 ∧ W.cell? ⟨g, 4, none⟩ = some v4 ∧ W.cell? ⟨g, 5, none⟩ = some v5 ∧ W.cell? ⟨g, 6, none⟩ = some v6 ∧
    W.frozen? ⟨g, 0, none⟩ = false ∧ W.frozen? ⟨g, 1, none⟩ = false ∧ W.frozen? ⟨g, 2, none⟩ = false ∧ W.frozen? ⟨g, 3, none⟩ = false ∧ W.frozen? ⟨g, 4, none⟩ = false ∧ W.frozen? ⟨g, 5, none⟩ = false ∧ W.frozen? ⟨g, 6, none⟩ = false :=
  ⟨hk.cell 0, hk.cell 1, hk.cell 2, hk.cell 3, hk.cell 4, hk.cell 5, hk.cell 6, hk.thaw 0, hk.thaw 1, hk.thaw 2, hk.thaw 3, hk.thaw 4, hk.thaw 5, hk.thaw 6⟩
theorem s7_of {W : World} {g gZ : Nat} {te : TypeId} {v0 v1 v2 v3 v4 v5 v6 : Value} (hk : Blk W g te #[v0, v1, v2, v3, v4, v5, v6]) (hne : g ≠ gZ) : ∀ a b c d e f h : Value,
    (((((((W.setCell ⟨gZ, 0, none⟩ a).setCell ⟨gZ, 1, none⟩ b).setCell ⟨gZ, 2, none⟩ c).setCell ⟨gZ, 3, none⟩ d).setCell ⟨gZ, 4, none⟩ e).setCell ⟨gZ, 5, none⟩ f).setCell ⟨gZ, 6, none⟩ h).cell? ⟨g, 0, none⟩ = some v0 ∧ (((((((W.setCell ⟨gZ, 0, none⟩ a).setCell ⟨gZ, 1, none⟩ b).setCell ⟨gZ, 2, none⟩ c).setCell ⟨gZ, 3, none⟩ d).setCell ⟨gZ, 4, none⟩ e).setCell ⟨gZ, 5, none⟩ f).setCell ⟨gZ, 6, none⟩ h).cell? ⟨g, 1, none⟩ = some v1 ∧ (((((((W.setCell ⟨gZ, 0, none⟩ a).setCell ⟨gZ, 1, none⟩ b).setCell ⟨gZ, 2, none⟩ c).setCell ⟨gZ, 3, none⟩ d).setCell ⟨gZ, 4, none⟩ e).setCell ⟨gZ, 5, none⟩ f).setCell ⟨gZ, 6, none⟩ h).cell? ⟨g, 2, none⟩ = some v2 ∧ (((((((W.setCell ⟨gZ, 0, none⟩ a).setCell ⟨gZ, 1, none⟩ b).setCell ⟨gZ, 2, none⟩ c).setCell ⟨gZ, 3, none⟩ d).setCell ⟨gZ, 4, none⟩ e).setCell ⟨gZ, 5, none⟩ f).setCell ⟨gZ, 6, none⟩ h).cell? ⟨g, 3, none⟩ = some v3 ∧ (((((((W.setCell ⟨gZ, 0, none⟩ a).setCell ⟨gZ, 1, none⟩ b).setCell ⟨gZ, 2, none⟩ c).setCell ⟨gZ, 3, none⟩ d).setCell ⟨gZ, 4, none⟩ e).setCell ⟨gZ, 5, none⟩ f).setCell ⟨gZ, 6, none⟩ h).cell? ⟨g, 4, none⟩ = some v4 ∧ (((((((W.setCell ⟨gZ, 0, none⟩ a).setCell ⟨gZ, 1, none⟩ b).setCell ⟨gZ, 2, none⟩ c).setCell ⟨gZ, 3, none⟩ d).setCell ⟨gZ, 4, none⟩ e).setCell ⟨gZ, 5, none⟩ f).setCell ⟨gZ, 6, none⟩ h).cell? ⟨g, 5, none⟩ = some v5 :=
  fun a b c d e f h => s_of (st7_far (a := a) (b := b) (c := c) (d := d) (e := e) (f := f) (h := h) hk hne)

def ToR (sh wi ra ta : Int) (A B C : Option Addr) (c d f : Nat) (nd : List (Int × Int)) (ac : List Int) (sy : List (Int × Int × Int × Nat)) (w : World) (s3 : Value) (wx : World) : Prop := ∃ (gO : Nat) (A1 B5 : Option Addr) (c1 c5 : Nat), s3 = .pointer (some ⟨gO, 0, none⟩) ∧ w.heap.size + 2 ≤ gO ∧ Hid (Blk wx gO 39 #[.int .i64 sh, .int .i64 wi, .int .i64 ra, .int .i64 ta, .slice A1 nd.length c1, .slice B5 ac.length c5, .slice none 0 0]) ∧ Hid (Blk wx w.heap.size 29 #[.int .i64 sh, .int .i64 wi, .int .i64 ra, .int .i64 ta, .slice A nd.length c, .slice B ac.length d, .slice C sy.length f]) ∧ Hid (Blk wx (w.heap.size + 1) 39 #[.int .i64 0, .int .i64 0, .int .i64 0, .int .i64 0, .slice none 0 0, .slice none 0 0, .slice none 0 0]) ∧ Hid (wx.ownsRow (w.heap.size + 2) 99 2 (.slice A1 nd.length c1) nd.length (nds nd)) ∧ Hid (wx.ownsRow (w.heap.size + 2) 3 1 (.slice B5 ac.length c5) ac.length (ints ac)) ∧ Below w.heap.size w wx
theorem end1 {sh wi ra ta : Int} {A B C A1 B5 : Option Addr} {c d f c1 c5 : Nat} {nd : List (Int × Int)} {ac : List Int} {sy : List (Int × Int × Int × Nat)} {w w5 : World} (kB5 : Blk w5 w.heap.size 29 #[.int .i64 sh, .int .i64 wi, .int .i64 ra, .int .i64 ta, .slice A nd.length c, .slice B ac.length d, .slice C sy.length f]) (kR5 : Blk w5 (w.heap.size + 1) 39 #[.int .i64 0, .int .i64 0, .int .i64 0, .int .i64 0, .slice none 0 0, .slice none 0 0, .slice none 0 0]) (N5 : w5.ownsRow (w.heap.size + 2) 99 2 (.slice A1 nd.length c1) nd.length (nds nd)) (O5 : w5.ownsRow (w.heap.size + 2) 3 1 (.slice B5 ac.length c5) ac.length (ints ac)) (b5 : Below w.heap.size w w5) :
    ToR sh wi ra ta A B C c d f nd ac sy w (.pointer (some ⟨w5.heap.size, 0, none⟩)) (w5.alloc (.cells #[.int .i64 sh, .int .i64 wi, .int .i64 ra, .int .i64 ta, .slice A1 nd.length c1, .slice B5 ac.length c5, .slice none 0 0] 39)) :=
  ⟨w5.heap.size, A1, B5, c1, c5, rfl, by have := kR5.lt; omega, Blk.fresh _ _ _, kB5.alloc _, kR5.alloc _, World.ownsRow.alloc N5 _, World.ownsRow.alloc O5 _, below_up b5 _⟩
theorem end2 {sh wi ra ta : Int} {A B C A1 B5 : Option Addr} {c d f c1 c5 gZ : Nat} {nd : List (Int × Int)} {ac : List Int} {sy : List (Int × Int × Int × Nat)} {w w5 : World} (kB5 : Blk w5 w.heap.size 29 #[.int .i64 sh, .int .i64 wi, .int .i64 ra, .int .i64 ta, .slice A nd.length c, .slice B ac.length d, .slice C sy.length f]) (kR5 : Blk w5 (w.heap.size + 1) 39 #[.int .i64 0, .int .i64 0, .int .i64 0, .int .i64 0, .slice none 0 0, .slice none 0 0, .slice none 0 0]) (N5 : w5.ownsRow (w.heap.size + 2) 99 2 (.slice A1 nd.length c1) nd.length (nds nd)) (O5 : w5.ownsRow (w.heap.size + 2) 3 1 (.slice B5 ac.length c5) ac.length (ints ac)) (b5 : Below w.heap.size w w5) (kZ5 : Blk w5 gZ 39 #[.int .i64 0, .int .i64 0, .int .i64 0, .int .i64 0, .slice none 0 0, .slice none 0 0, .slice none 0 0]) (hz : w.heap.size + 2 ≤ gZ) :
    ToR sh wi ra ta A B C c d f nd ac sy w (.pointer (some ⟨gZ, 0, none⟩)) (((((((w5.setCell ⟨gZ, 0, none⟩ (.int .i64 sh)).setCell ⟨gZ, 1, none⟩ (.int .i64 wi)).setCell ⟨gZ, 2, none⟩ (.int .i64 ra)).setCell ⟨gZ, 3, none⟩ (.int .i64 ta)).setCell ⟨gZ, 4, none⟩ (.slice A1 nd.length c1)).setCell ⟨gZ, 5, none⟩ (.slice B5 ac.length c5)).setCell ⟨gZ, 6, none⟩ (.slice none 0 0)) :=
  ⟨gZ, A1, B5, c1, c5, rfl, hz, st7_blk kZ5, st7_far kB5 (by omega), st7_far kR5 (by omega), own_st7 N5 kZ5 (by decide), own_st7 O5 kZ5 (by decide), st7_below b5 (by omega)⟩

set_option maxHeartbeats 8000000 in
theorem to5_any (sh wi ra ta : Int) (A B C : Option Addr) (c d f : Nat) (nd : List (Int × Int)) (ac : List Int) (sy : List (Int × Int × Int × Nat)) (w : World)
    (hl : Hid (Nds w w.heap.size A nd)) (hu : Hid (Ris w w.heap.size B ac)) (hs : Hid (Smb w w.heap.size C sy)) (hw : Hid (WfN nd)) (hmax : (nd.length : Int) ≤ 1000000) (hmay : (ac.length : Int) ≤ 1000000) (hmaz : (sy.length : Int) ≤ 1000000) :
    Calls Try.prog 7 #[.agg #[.int .i64 sh, .int .i64 wi, .int .i64 ra, .int .i64 ta, .slice A nd.length c, .slice B ac.length d, .slice C sy.length f]] w (MadeCf sh wi ra ta nd ac sy w) := by
  obtain ⟨i0, hi, hz0, hz1, hz2⟩ := info_parts int_info6
  have H1 : Hid (∀ W, Below w.heap.size w W → Hid (Nds W W.heap.size A nd)) := fun W hb => Rd.below' hl.out hb hb.size
  have H2 : Hid (∀ W, Below w.heap.size w W → Hid (Rd W w.heap.size B (ints ac))) := fun W hb => Rd.below hu.out hb
  obtain ⟨W, hW⟩ : ∃ W, W = ((w.alloc (.cells #[.int .i64 sh, .int .i64 wi, .int .i64 ra, .int .i64 ta, .slice A nd.length c, .slice B ac.length d, .slice C sy.length f] 29)).alloc (.cells #[.int .i64 0, .int .i64 0, .int .i64 0, .int .i64 0, .slice none 0 0, .slice none 0 0, .slice none 0 0] 39)) := ⟨_, rfl⟩
  have HW := Lib.hid hW
  have hW2 : Hid (W.heap.size = w.heap.size + 2) := by show _ = _; rw [hW]; simp
  have b0 : Hid (Below w.heap.size w W) := by rw [hW]; exact ((Below.refl _ _).alloc (Nat.le_refl _) _).alloc (by simp) _
  have kB0 : Hid (Blk W w.heap.size 29 #[.int .i64 sh, .int .i64 wi, .int .i64 ra, .int .i64 ta, .slice A nd.length c, .slice B ac.length d, .slice C sy.length f]) := by rw [hW]; exact (Blk.fresh w _ _).alloc _
  have kR0 : Hid (Blk W (w.heap.size + 1) 39 #[.int .i64 0, .int .i64 0, .int .i64 0, .int .i64 0, .slice none 0 0, .slice none 0 0, .slice none 0 0]) := by
    have := Blk.fresh (w.alloc (.cells #[.int .i64 sh, .int .i64 wi, .int .i64 ra, .int .i64 ta, .slice A nd.length c, .slice B ac.length d, .slice C sy.length f] 29)) 39 #[.int .i64 0, .int .i64 0, .int .i64 0, .int .i64 0, .slice none 0 0, .slice none 0 0, .slice none 0 0]
    simp only [World.size_alloc] at this
    rw [hW]; exact this
  clear hW
  have b_0 : Hid (Below w.heap.size w W.drew) := b0.out.drew
  have kB_0 : Hid (Blk W.drew w.heap.size 29 #[.int .i64 sh, .int .i64 wi, .int .i64 ra, .int .i64 ta, .slice A nd.length c, .slice B ac.length d, .slice C sy.length f]) := kB0.out
  have kR_0 : Hid (Blk W.drew (w.heap.size + 1) 39 #[.int .i64 0, .int .i64 0, .int .i64 0, .int .i64 0, .slice none 0 0, .slice none 0 0, .slice none 0 0]) := kR0.out
  have b_0S : Hid (Below w.heap.size w (W.alloc (.cells #[] 3)).drew) := (below_up b0.out _).drew
  have kB_0S : Hid (Blk (W.alloc (.cells #[] 3)).drew w.heap.size 29 #[.int .i64 sh, .int .i64 wi, .int .i64 ra, .int .i64 ta, .slice A nd.length c, .slice B ac.length d, .slice C sy.length f]) := (kB0.out.alloc _)
  have kR_0S : Hid (Blk (W.alloc (.cells #[] 3)).drew (w.heap.size + 1) 39 #[.int .i64 0, .int .i64 0, .int .i64 0, .int .i64 0, .slice none 0 0, .slice none 0 0, .slice none 0 0]) := (kR0.out.alloc _)
  have kE_0S : Hid (Blk (W.alloc (.cells #[] 3)).drew (W.heap.size) 3 #[]) := (blk_at (w := W) (by simp))
  have b_0Z : Hid (Below w.heap.size w (W.alloc (.cells #[.int .i64 0, .int .i64 0, .int .i64 0, .int .i64 0, .slice none 0 0, .slice none 0 0, .slice none 0 0] 39)).drew) := (below_up b0.out _).drew
  have kB_0Z : Hid (Blk (W.alloc (.cells #[.int .i64 0, .int .i64 0, .int .i64 0, .int .i64 0, .slice none 0 0, .slice none 0 0, .slice none 0 0] 39)).drew w.heap.size 29 #[.int .i64 sh, .int .i64 wi, .int .i64 ra, .int .i64 ta, .slice A nd.length c, .slice B ac.length d, .slice C sy.length f]) := (kB0.out.alloc _)
  have kR_0Z : Hid (Blk (W.alloc (.cells #[.int .i64 0, .int .i64 0, .int .i64 0, .int .i64 0, .slice none 0 0, .slice none 0 0, .slice none 0 0] 39)).drew (w.heap.size + 1) 39 #[.int .i64 0, .int .i64 0, .int .i64 0, .int .i64 0, .slice none 0 0, .slice none 0 0, .slice none 0 0]) := (kR0.out.alloc _)
  have kZ_0Z : Hid (Blk (W.alloc (.cells #[.int .i64 0, .int .i64 0, .int .i64 0, .int .i64 0, .slice none 0 0, .slice none 0 0, .slice none 0 0] 39)).drew (W.heap.size) 39 #[.int .i64 0, .int .i64 0, .int .i64 0, .int .i64 0, .slice none 0 0, .slice none 0 0, .slice none 0 0]) := (blk_at (w := W) (by simp))
  have b_0SZ : Hid (Below w.heap.size w ((W.alloc (.cells #[] 3)).alloc (.cells #[.int .i64 0, .int .i64 0, .int .i64 0, .int .i64 0, .slice none 0 0, .slice none 0 0, .slice none 0 0] 39)).drew) := (below_up (below_up b0.out _) _).drew
  have kB_0SZ : Hid (Blk ((W.alloc (.cells #[] 3)).alloc (.cells #[.int .i64 0, .int .i64 0, .int .i64 0, .int .i64 0, .slice none 0 0, .slice none 0 0, .slice none 0 0] 39)).drew w.heap.size 29 #[.int .i64 sh, .int .i64 wi, .int .i64 ra, .int .i64 ta, .slice A nd.length c, .slice B ac.length d, .slice C sy.length f]) := ((kB0.out.alloc _).alloc _)
  have kR_0SZ : Hid (Blk ((W.alloc (.cells #[] 3)).alloc (.cells #[.int .i64 0, .int .i64 0, .int .i64 0, .int .i64 0, .slice none 0 0, .slice none 0 0, .slice none 0 0] 39)).drew (w.heap.size + 1) 39 #[.int .i64 0, .int .i64 0, .int .i64 0, .int .i64 0, .slice none 0 0, .slice none 0 0, .slice none 0 0]) := ((kR0.out.alloc _).alloc _)
  have kE_0SZ : Hid (Blk ((W.alloc (.cells #[] 3)).alloc (.cells #[.int .i64 0, .int .i64 0, .int .i64 0, .int .i64 0, .slice none 0 0, .slice none 0 0, .slice none 0 0] 39)).drew (W.heap.size) 3 #[]) := (Blk.alloc (blk_at (w := W) (by simp)) _)
  have kZ_0SZ : Hid (Blk ((W.alloc (.cells #[] 3)).alloc (.cells #[.int .i64 0, .int .i64 0, .int .i64 0, .int .i64 0, .slice none 0 0, .slice none 0 0, .slice none 0 0] 39)).drew (W.heap.size + 1) 39 #[.int .i64 0, .int .i64 0, .int .i64 0, .int .i64 0, .slice none 0 0, .slice none 0 0, .slice none 0 0]) := (blk_at (w := (W.alloc (.cells #[] 3))) (by simp))
  have b_0ZS : Hid (Below w.heap.size w ((W.alloc (.cells #[.int .i64 0, .int .i64 0, .int .i64 0, .int .i64 0, .slice none 0 0, .slice none 0 0, .slice none 0 0] 39)).alloc (.cells #[] 3)).drew) := (below_up (below_up b0.out _) _).drew
  have kB_0ZS : Hid (Blk ((W.alloc (.cells #[.int .i64 0, .int .i64 0, .int .i64 0, .int .i64 0, .slice none 0 0, .slice none 0 0, .slice none 0 0] 39)).alloc (.cells #[] 3)).drew w.heap.size 29 #[.int .i64 sh, .int .i64 wi, .int .i64 ra, .int .i64 ta, .slice A nd.length c, .slice B ac.length d, .slice C sy.length f]) := ((kB0.out.alloc _).alloc _)
  have kR_0ZS : Hid (Blk ((W.alloc (.cells #[.int .i64 0, .int .i64 0, .int .i64 0, .int .i64 0, .slice none 0 0, .slice none 0 0, .slice none 0 0] 39)).alloc (.cells #[] 3)).drew (w.heap.size + 1) 39 #[.int .i64 0, .int .i64 0, .int .i64 0, .int .i64 0, .slice none 0 0, .slice none 0 0, .slice none 0 0]) := ((kR0.out.alloc _).alloc _)
  have kE_0ZS : Hid (Blk ((W.alloc (.cells #[.int .i64 0, .int .i64 0, .int .i64 0, .int .i64 0, .slice none 0 0, .slice none 0 0, .slice none 0 0] 39)).alloc (.cells #[] 3)).drew (W.heap.size + 1) 3 #[]) := (blk_at (w := (W.alloc (.cells #[.int .i64 0, .int .i64 0, .int .i64 0, .int .i64 0, .slice none 0 0, .slice none 0 0, .slice none 0 0] 39))) (by simp))
  have kZ_0ZS : Hid (Blk ((W.alloc (.cells #[.int .i64 0, .int .i64 0, .int .i64 0, .int .i64 0, .slice none 0 0, .slice none 0 0, .slice none 0 0] 39)).alloc (.cells #[] 3)).drew (W.heap.size) 39 #[.int .i64 0, .int .i64 0, .int .i64 0, .int .i64 0, .slice none 0 0, .slice none 0 0, .slice none 0 0]) := (Blk.alloc (blk_at (w := W) (by simp)) _)
  have s_0 : W.drew.cell? ⟨w.heap.size, 0, none⟩ = some (.int .i64 sh) ∧ W.drew.cell? ⟨w.heap.size, 1, none⟩ = some (.int .i64 wi) ∧ W.drew.cell? ⟨w.heap.size, 2, none⟩ = some (.int .i64 ra) ∧ W.drew.cell? ⟨w.heap.size, 3, none⟩ = some (.int .i64 ta) ∧ W.drew.cell? ⟨w.heap.size, 4, none⟩ = some (.slice A nd.length c) ∧ W.drew.cell? ⟨w.heap.size, 5, none⟩ = some (.slice B ac.length d) := s_of kB_0.out
  have s_0S : (W.alloc (.cells #[] 3)).drew.cell? ⟨w.heap.size, 0, none⟩ = some (.int .i64 sh) ∧ (W.alloc (.cells #[] 3)).drew.cell? ⟨w.heap.size, 1, none⟩ = some (.int .i64 wi) ∧ (W.alloc (.cells #[] 3)).drew.cell? ⟨w.heap.size, 2, none⟩ = some (.int .i64 ra) ∧ (W.alloc (.cells #[] 3)).drew.cell? ⟨w.heap.size, 3, none⟩ = some (.int .i64 ta) ∧ (W.alloc (.cells #[] 3)).drew.cell? ⟨w.heap.size, 4, none⟩ = some (.slice A nd.length c) ∧ (W.alloc (.cells #[] 3)).drew.cell? ⟨w.heap.size, 5, none⟩ = some (.slice B ac.length d) := s_of kB_0S.out
  have s_0Z : (W.alloc (.cells #[.int .i64 0, .int .i64 0, .int .i64 0, .int .i64 0, .slice none 0 0, .slice none 0 0, .slice none 0 0] 39)).drew.cell? ⟨w.heap.size, 0, none⟩ = some (.int .i64 sh) ∧ (W.alloc (.cells #[.int .i64 0, .int .i64 0, .int .i64 0, .int .i64 0, .slice none 0 0, .slice none 0 0, .slice none 0 0] 39)).drew.cell? ⟨w.heap.size, 1, none⟩ = some (.int .i64 wi) ∧ (W.alloc (.cells #[.int .i64 0, .int .i64 0, .int .i64 0, .int .i64 0, .slice none 0 0, .slice none 0 0, .slice none 0 0] 39)).drew.cell? ⟨w.heap.size, 2, none⟩ = some (.int .i64 ra) ∧ (W.alloc (.cells #[.int .i64 0, .int .i64 0, .int .i64 0, .int .i64 0, .slice none 0 0, .slice none 0 0, .slice none 0 0] 39)).drew.cell? ⟨w.heap.size, 3, none⟩ = some (.int .i64 ta) ∧ (W.alloc (.cells #[.int .i64 0, .int .i64 0, .int .i64 0, .int .i64 0, .slice none 0 0, .slice none 0 0, .slice none 0 0] 39)).drew.cell? ⟨w.heap.size, 4, none⟩ = some (.slice A nd.length c) ∧ (W.alloc (.cells #[.int .i64 0, .int .i64 0, .int .i64 0, .int .i64 0, .slice none 0 0, .slice none 0 0, .slice none 0 0] 39)).drew.cell? ⟨w.heap.size, 5, none⟩ = some (.slice B ac.length d) := s_of kB_0Z.out
  have s_0SZ : ((W.alloc (.cells #[] 3)).alloc (.cells #[.int .i64 0, .int .i64 0, .int .i64 0, .int .i64 0, .slice none 0 0, .slice none 0 0, .slice none 0 0] 39)).drew.cell? ⟨w.heap.size, 0, none⟩ = some (.int .i64 sh) ∧ ((W.alloc (.cells #[] 3)).alloc (.cells #[.int .i64 0, .int .i64 0, .int .i64 0, .int .i64 0, .slice none 0 0, .slice none 0 0, .slice none 0 0] 39)).drew.cell? ⟨w.heap.size, 1, none⟩ = some (.int .i64 wi) ∧ ((W.alloc (.cells #[] 3)).alloc (.cells #[.int .i64 0, .int .i64 0, .int .i64 0, .int .i64 0, .slice none 0 0, .slice none 0 0, .slice none 0 0] 39)).drew.cell? ⟨w.heap.size, 2, none⟩ = some (.int .i64 ra) ∧ ((W.alloc (.cells #[] 3)).alloc (.cells #[.int .i64 0, .int .i64 0, .int .i64 0, .int .i64 0, .slice none 0 0, .slice none 0 0, .slice none 0 0] 39)).drew.cell? ⟨w.heap.size, 3, none⟩ = some (.int .i64 ta) ∧ ((W.alloc (.cells #[] 3)).alloc (.cells #[.int .i64 0, .int .i64 0, .int .i64 0, .int .i64 0, .slice none 0 0, .slice none 0 0, .slice none 0 0] 39)).drew.cell? ⟨w.heap.size, 4, none⟩ = some (.slice A nd.length c) ∧ ((W.alloc (.cells #[] 3)).alloc (.cells #[.int .i64 0, .int .i64 0, .int .i64 0, .int .i64 0, .slice none 0 0, .slice none 0 0, .slice none 0 0] 39)).drew.cell? ⟨w.heap.size, 5, none⟩ = some (.slice B ac.length d) := s_of kB_0SZ.out
  have s_0ZS : ((W.alloc (.cells #[.int .i64 0, .int .i64 0, .int .i64 0, .int .i64 0, .slice none 0 0, .slice none 0 0, .slice none 0 0] 39)).alloc (.cells #[] 3)).drew.cell? ⟨w.heap.size, 0, none⟩ = some (.int .i64 sh) ∧ ((W.alloc (.cells #[.int .i64 0, .int .i64 0, .int .i64 0, .int .i64 0, .slice none 0 0, .slice none 0 0, .slice none 0 0] 39)).alloc (.cells #[] 3)).drew.cell? ⟨w.heap.size, 1, none⟩ = some (.int .i64 wi) ∧ ((W.alloc (.cells #[.int .i64 0, .int .i64 0, .int .i64 0, .int .i64 0, .slice none 0 0, .slice none 0 0, .slice none 0 0] 39)).alloc (.cells #[] 3)).drew.cell? ⟨w.heap.size, 2, none⟩ = some (.int .i64 ra) ∧ ((W.alloc (.cells #[.int .i64 0, .int .i64 0, .int .i64 0, .int .i64 0, .slice none 0 0, .slice none 0 0, .slice none 0 0] 39)).alloc (.cells #[] 3)).drew.cell? ⟨w.heap.size, 3, none⟩ = some (.int .i64 ta) ∧ ((W.alloc (.cells #[.int .i64 0, .int .i64 0, .int .i64 0, .int .i64 0, .slice none 0 0, .slice none 0 0, .slice none 0 0] 39)).alloc (.cells #[] 3)).drew.cell? ⟨w.heap.size, 4, none⟩ = some (.slice A nd.length c) ∧ ((W.alloc (.cells #[.int .i64 0, .int .i64 0, .int .i64 0, .int .i64 0, .slice none 0 0, .slice none 0 0, .slice none 0 0] 39)).alloc (.cells #[] 3)).drew.cell? ⟨w.heap.size, 5, none⟩ = some (.slice B ac.length d) := s_of kB_0ZS.out
  go_enter Try.func7, Try.ntmps7
  go_upto_region 1 with fail
  rw [← HW.out]
  go_cut [3] (fun s3 wx => ToR sh wi ra ta A B C c d f nd ac sy w s3 wx)
  case first =>
    go_region_held3 (fun w' => w'.cell? ⟨w.heap.size, 0, none⟩ = some (.int .i64 sh) ∧ w'.cell? ⟨w.heap.size, 1, none⟩ = some (.int .i64 wi) ∧ w'.cell? ⟨w.heap.size, 2, none⟩ = some (.int .i64 ra) ∧ w'.cell? ⟨w.heap.size, 3, none⟩ = some (.int .i64 ta) ∧ w'.cell? ⟨w.heap.size, 4, none⟩ = some (.slice A nd.length c) ∧ w'.cell? ⟨w.heap.size, 5, none⟩ = some (.slice B ac.length d))
      (first | (with_reducible assumption) | (exact s6 _) | (with_reducible exact s7 _ _ _ _ _ _ _) | (exact s7 _ _ _ _ _ _ _) | go_keep)
      (first
        | (go_at_call 20; (with_reducible refine (to_own A c nd W.drew (H1.out _ b_0.out) hw hmax).mono ?_); rintro e w1 ⟨A1, c1, rfl, hn1, hb1⟩; have b_T : Hid (Below w.heap.size w w1) := below_step b_0.out hb1; have kB_T := Lib.hid (Blk.below' kB_0.out hb1); have kR_T := Lib.hid (Blk.below' kR_0.out hb1); have N_T : Hid (w1.ownsRow (w.heap.size + 2) 99 2 (.slice A1 nd.length c1) nd.length (nds nd)) := own_mono hn1 (by simp [hW2.out]); have hs1 : w.heap.size + 2 ≤ w1.heap.size := Nat.le_trans (by simp [hW2.out]) hb1.size; have hs2 : W.heap.size + 0 ≤ w1.heap.size := Nat.le_trans (by simp) hb1.size; have s_T : w1.cell? ⟨w.heap.size, 0, none⟩ = some (.int .i64 sh) ∧ w1.cell? ⟨w.heap.size, 1, none⟩ = some (.int .i64 wi) ∧ w1.cell? ⟨w.heap.size, 2, none⟩ = some (.int .i64 ra) ∧ w1.cell? ⟨w.heap.size, 3, none⟩ = some (.int .i64 ta) ∧ w1.cell? ⟨w.heap.size, 4, none⟩ = some (.slice A nd.length c) ∧ w1.cell? ⟨w.heap.size, 5, none⟩ = some (.slice B ac.length d) := s_of kB_T.out; have b_TS : Hid (Below w.heap.size w (w1.alloc (.cells #[] 3))) := (below_up b_T.out _); have kB_TS : Hid (Blk (w1.alloc (.cells #[] 3)) w.heap.size 29 #[.int .i64 sh, .int .i64 wi, .int .i64 ra, .int .i64 ta, .slice A nd.length c, .slice B ac.length d, .slice C sy.length f]) := (kB_T.out.alloc _); have kR_TS : Hid (Blk (w1.alloc (.cells #[] 3)) (w.heap.size + 1) 39 #[.int .i64 0, .int .i64 0, .int .i64 0, .int .i64 0, .slice none 0 0, .slice none 0 0, .slice none 0 0]) := (kR_T.out.alloc _); have kE_TS : Hid (Blk (w1.alloc (.cells #[] 3)) (w1.heap.size) 3 #[]) := (blk_at (w := w1) (by simp)); have N_TS : Hid ((w1.alloc (.cells #[] 3)).ownsRow (w.heap.size + 2) 99 2 (.slice A1 nd.length c1) nd.length (nds nd)) := (World.ownsRow.alloc N_T.out _); have s_TS : (w1.alloc (.cells #[] 3)).cell? ⟨w.heap.size, 0, none⟩ = some (.int .i64 sh) ∧ (w1.alloc (.cells #[] 3)).cell? ⟨w.heap.size, 1, none⟩ = some (.int .i64 wi) ∧ (w1.alloc (.cells #[] 3)).cell? ⟨w.heap.size, 2, none⟩ = some (.int .i64 ra) ∧ (w1.alloc (.cells #[] 3)).cell? ⟨w.heap.size, 3, none⟩ = some (.int .i64 ta) ∧ (w1.alloc (.cells #[] 3)).cell? ⟨w.heap.size, 4, none⟩ = some (.slice A nd.length c) ∧ (w1.alloc (.cells #[] 3)).cell? ⟨w.heap.size, 5, none⟩ = some (.slice B ac.length d) := s_of kB_TS.out; have how_TS : Hid ((w1.alloc (.cells #[] 3)).ownsRow (w1.heap.size) 3 1 (.slice (some ⟨(w1.heap.size), 0, none⟩) 0 0) 0 []) := own_empty kE_TS.out (Nat.le_refl _); have hr_TS : Hid (Rd (w1.alloc (.cells #[] 3)) w.heap.size B (ints ac)) := H2.out _ b_TS.out; have b_TZ : Hid (Below w.heap.size w (w1.alloc (.cells #[.int .i64 0, .int .i64 0, .int .i64 0, .int .i64 0, .slice none 0 0, .slice none 0 0, .slice none 0 0] 39))) := (below_up b_T.out _); have kB_TZ : Hid (Blk (w1.alloc (.cells #[.int .i64 0, .int .i64 0, .int .i64 0, .int .i64 0, .slice none 0 0, .slice none 0 0, .slice none 0 0] 39)) w.heap.size 29 #[.int .i64 sh, .int .i64 wi, .int .i64 ra, .int .i64 ta, .slice A nd.length c, .slice B ac.length d, .slice C sy.length f]) := (kB_T.out.alloc _); have kR_TZ : Hid (Blk (w1.alloc (.cells #[.int .i64 0, .int .i64 0, .int .i64 0, .int .i64 0, .slice none 0 0, .slice none 0 0, .slice none 0 0] 39)) (w.heap.size + 1) 39 #[.int .i64 0, .int .i64 0, .int .i64 0, .int .i64 0, .slice none 0 0, .slice none 0 0, .slice none 0 0]) := (kR_T.out.alloc _); have kZ_TZ : Hid (Blk (w1.alloc (.cells #[.int .i64 0, .int .i64 0, .int .i64 0, .int .i64 0, .slice none 0 0, .slice none 0 0, .slice none 0 0] 39)) (w1.heap.size) 39 #[.int .i64 0, .int .i64 0, .int .i64 0, .int .i64 0, .slice none 0 0, .slice none 0 0, .slice none 0 0]) := (blk_at (w := w1) (by simp)); have N_TZ : Hid ((w1.alloc (.cells #[.int .i64 0, .int .i64 0, .int .i64 0, .int .i64 0, .slice none 0 0, .slice none 0 0, .slice none 0 0] 39)).ownsRow (w.heap.size + 2) 99 2 (.slice A1 nd.length c1) nd.length (nds nd)) := (World.ownsRow.alloc N_T.out _); have s_TZ : (w1.alloc (.cells #[.int .i64 0, .int .i64 0, .int .i64 0, .int .i64 0, .slice none 0 0, .slice none 0 0, .slice none 0 0] 39)).cell? ⟨w.heap.size, 0, none⟩ = some (.int .i64 sh) ∧ (w1.alloc (.cells #[.int .i64 0, .int .i64 0, .int .i64 0, .int .i64 0, .slice none 0 0, .slice none 0 0, .slice none 0 0] 39)).cell? ⟨w.heap.size, 1, none⟩ = some (.int .i64 wi) ∧ (w1.alloc (.cells #[.int .i64 0, .int .i64 0, .int .i64 0, .int .i64 0, .slice none 0 0, .slice none 0 0, .slice none 0 0] 39)).cell? ⟨w.heap.size, 2, none⟩ = some (.int .i64 ra) ∧ (w1.alloc (.cells #[.int .i64 0, .int .i64 0, .int .i64 0, .int .i64 0, .slice none 0 0, .slice none 0 0, .slice none 0 0] 39)).cell? ⟨w.heap.size, 3, none⟩ = some (.int .i64 ta) ∧ (w1.alloc (.cells #[.int .i64 0, .int .i64 0, .int .i64 0, .int .i64 0, .slice none 0 0, .slice none 0 0, .slice none 0 0] 39)).cell? ⟨w.heap.size, 4, none⟩ = some (.slice A nd.length c) ∧ (w1.alloc (.cells #[.int .i64 0, .int .i64 0, .int .i64 0, .int .i64 0, .slice none 0 0, .slice none 0 0, .slice none 0 0] 39)).cell? ⟨w.heap.size, 5, none⟩ = some (.slice B ac.length d) := s_of kB_TZ.out; have b_TSZ : Hid (Below w.heap.size w ((w1.alloc (.cells #[] 3)).alloc (.cells #[.int .i64 0, .int .i64 0, .int .i64 0, .int .i64 0, .slice none 0 0, .slice none 0 0, .slice none 0 0] 39))) := (below_up (below_up b_T.out _) _); have kB_TSZ : Hid (Blk ((w1.alloc (.cells #[] 3)).alloc (.cells #[.int .i64 0, .int .i64 0, .int .i64 0, .int .i64 0, .slice none 0 0, .slice none 0 0, .slice none 0 0] 39)) w.heap.size 29 #[.int .i64 sh, .int .i64 wi, .int .i64 ra, .int .i64 ta, .slice A nd.length c, .slice B ac.length d, .slice C sy.length f]) := ((kB_T.out.alloc _).alloc _); have kR_TSZ : Hid (Blk ((w1.alloc (.cells #[] 3)).alloc (.cells #[.int .i64 0, .int .i64 0, .int .i64 0, .int .i64 0, .slice none 0 0, .slice none 0 0, .slice none 0 0] 39)) (w.heap.size + 1) 39 #[.int .i64 0, .int .i64 0, .int .i64 0, .int .i64 0, .slice none 0 0, .slice none 0 0, .slice none 0 0]) := ((kR_T.out.alloc _).alloc _); have kE_TSZ : Hid (Blk ((w1.alloc (.cells #[] 3)).alloc (.cells #[.int .i64 0, .int .i64 0, .int .i64 0, .int .i64 0, .slice none 0 0, .slice none 0 0, .slice none 0 0] 39)) (w1.heap.size) 3 #[]) := (Blk.alloc (blk_at (w := w1) (by simp)) _); have kZ_TSZ : Hid (Blk ((w1.alloc (.cells #[] 3)).alloc (.cells #[.int .i64 0, .int .i64 0, .int .i64 0, .int .i64 0, .slice none 0 0, .slice none 0 0, .slice none 0 0] 39)) (w1.heap.size + 1) 39 #[.int .i64 0, .int .i64 0, .int .i64 0, .int .i64 0, .slice none 0 0, .slice none 0 0, .slice none 0 0]) := (blk_at (w := (w1.alloc (.cells #[] 3))) (by simp)); have N_TSZ : Hid (((w1.alloc (.cells #[] 3)).alloc (.cells #[.int .i64 0, .int .i64 0, .int .i64 0, .int .i64 0, .slice none 0 0, .slice none 0 0, .slice none 0 0] 39)).ownsRow (w.heap.size + 2) 99 2 (.slice A1 nd.length c1) nd.length (nds nd)) := (World.ownsRow.alloc (World.ownsRow.alloc N_T.out _) _); have s_TSZ : ((w1.alloc (.cells #[] 3)).alloc (.cells #[.int .i64 0, .int .i64 0, .int .i64 0, .int .i64 0, .slice none 0 0, .slice none 0 0, .slice none 0 0] 39)).cell? ⟨w.heap.size, 0, none⟩ = some (.int .i64 sh) ∧ ((w1.alloc (.cells #[] 3)).alloc (.cells #[.int .i64 0, .int .i64 0, .int .i64 0, .int .i64 0, .slice none 0 0, .slice none 0 0, .slice none 0 0] 39)).cell? ⟨w.heap.size, 1, none⟩ = some (.int .i64 wi) ∧ ((w1.alloc (.cells #[] 3)).alloc (.cells #[.int .i64 0, .int .i64 0, .int .i64 0, .int .i64 0, .slice none 0 0, .slice none 0 0, .slice none 0 0] 39)).cell? ⟨w.heap.size, 2, none⟩ = some (.int .i64 ra) ∧ ((w1.alloc (.cells #[] 3)).alloc (.cells #[.int .i64 0, .int .i64 0, .int .i64 0, .int .i64 0, .slice none 0 0, .slice none 0 0, .slice none 0 0] 39)).cell? ⟨w.heap.size, 3, none⟩ = some (.int .i64 ta) ∧ ((w1.alloc (.cells #[] 3)).alloc (.cells #[.int .i64 0, .int .i64 0, .int .i64 0, .int .i64 0, .slice none 0 0, .slice none 0 0, .slice none 0 0] 39)).cell? ⟨w.heap.size, 4, none⟩ = some (.slice A nd.length c) ∧ ((w1.alloc (.cells #[] 3)).alloc (.cells #[.int .i64 0, .int .i64 0, .int .i64 0, .int .i64 0, .slice none 0 0, .slice none 0 0, .slice none 0 0] 39)).cell? ⟨w.heap.size, 5, none⟩ = some (.slice B ac.length d) := s_of kB_TSZ.out; have how_TSZ : Hid (((w1.alloc (.cells #[] 3)).alloc (.cells #[.int .i64 0, .int .i64 0, .int .i64 0, .int .i64 0, .slice none 0 0, .slice none 0 0, .slice none 0 0] 39)).ownsRow (w1.heap.size) 3 1 (.slice (some ⟨(w1.heap.size), 0, none⟩) 0 0) 0 []) := own_empty kE_TSZ.out (Nat.le_refl _); have hr_TSZ : Hid (Rd ((w1.alloc (.cells #[] 3)).alloc (.cells #[.int .i64 0, .int .i64 0, .int .i64 0, .int .i64 0, .slice none 0 0, .slice none 0 0, .slice none 0 0] 39)) w.heap.size B (ints ac)) := H2.out _ b_TSZ.out; have b_TZS : Hid (Below w.heap.size w ((w1.alloc (.cells #[.int .i64 0, .int .i64 0, .int .i64 0, .int .i64 0, .slice none 0 0, .slice none 0 0, .slice none 0 0] 39)).alloc (.cells #[] 3))) := (below_up (below_up b_T.out _) _); have kB_TZS : Hid (Blk ((w1.alloc (.cells #[.int .i64 0, .int .i64 0, .int .i64 0, .int .i64 0, .slice none 0 0, .slice none 0 0, .slice none 0 0] 39)).alloc (.cells #[] 3)) w.heap.size 29 #[.int .i64 sh, .int .i64 wi, .int .i64 ra, .int .i64 ta, .slice A nd.length c, .slice B ac.length d, .slice C sy.length f]) := ((kB_T.out.alloc _).alloc _); have kR_TZS : Hid (Blk ((w1.alloc (.cells #[.int .i64 0, .int .i64 0, .int .i64 0, .int .i64 0, .slice none 0 0, .slice none 0 0, .slice none 0 0] 39)).alloc (.cells #[] 3)) (w.heap.size + 1) 39 #[.int .i64 0, .int .i64 0, .int .i64 0, .int .i64 0, .slice none 0 0, .slice none 0 0, .slice none 0 0]) := ((kR_T.out.alloc _).alloc _); have kE_TZS : Hid (Blk ((w1.alloc (.cells #[.int .i64 0, .int .i64 0, .int .i64 0, .int .i64 0, .slice none 0 0, .slice none 0 0, .slice none 0 0] 39)).alloc (.cells #[] 3)) (w1.heap.size + 1) 3 #[]) := (blk_at (w := (w1.alloc (.cells #[.int .i64 0, .int .i64 0, .int .i64 0, .int .i64 0, .slice none 0 0, .slice none 0 0, .slice none 0 0] 39))) (by simp)); have kZ_TZS : Hid (Blk ((w1.alloc (.cells #[.int .i64 0, .int .i64 0, .int .i64 0, .int .i64 0, .slice none 0 0, .slice none 0 0, .slice none 0 0] 39)).alloc (.cells #[] 3)) (w1.heap.size) 39 #[.int .i64 0, .int .i64 0, .int .i64 0, .int .i64 0, .slice none 0 0, .slice none 0 0, .slice none 0 0]) := (Blk.alloc (blk_at (w := w1) (by simp)) _); have N_TZS : Hid (((w1.alloc (.cells #[.int .i64 0, .int .i64 0, .int .i64 0, .int .i64 0, .slice none 0 0, .slice none 0 0, .slice none 0 0] 39)).alloc (.cells #[] 3)).ownsRow (w.heap.size + 2) 99 2 (.slice A1 nd.length c1) nd.length (nds nd)) := (World.ownsRow.alloc (World.ownsRow.alloc N_T.out _) _); have s_TZS : ((w1.alloc (.cells #[.int .i64 0, .int .i64 0, .int .i64 0, .int .i64 0, .slice none 0 0, .slice none 0 0, .slice none 0 0] 39)).alloc (.cells #[] 3)).cell? ⟨w.heap.size, 0, none⟩ = some (.int .i64 sh) ∧ ((w1.alloc (.cells #[.int .i64 0, .int .i64 0, .int .i64 0, .int .i64 0, .slice none 0 0, .slice none 0 0, .slice none 0 0] 39)).alloc (.cells #[] 3)).cell? ⟨w.heap.size, 1, none⟩ = some (.int .i64 wi) ∧ ((w1.alloc (.cells #[.int .i64 0, .int .i64 0, .int .i64 0, .int .i64 0, .slice none 0 0, .slice none 0 0, .slice none 0 0] 39)).alloc (.cells #[] 3)).cell? ⟨w.heap.size, 2, none⟩ = some (.int .i64 ra) ∧ ((w1.alloc (.cells #[.int .i64 0, .int .i64 0, .int .i64 0, .int .i64 0, .slice none 0 0, .slice none 0 0, .slice none 0 0] 39)).alloc (.cells #[] 3)).cell? ⟨w.heap.size, 3, none⟩ = some (.int .i64 ta) ∧ ((w1.alloc (.cells #[.int .i64 0, .int .i64 0, .int .i64 0, .int .i64 0, .slice none 0 0, .slice none 0 0, .slice none 0 0] 39)).alloc (.cells #[] 3)).cell? ⟨w.heap.size, 4, none⟩ = some (.slice A nd.length c) ∧ ((w1.alloc (.cells #[.int .i64 0, .int .i64 0, .int .i64 0, .int .i64 0, .slice none 0 0, .slice none 0 0, .slice none 0 0] 39)).alloc (.cells #[] 3)).cell? ⟨w.heap.size, 5, none⟩ = some (.slice B ac.length d) := s_of kB_TZS.out; have how_TZS : Hid (((w1.alloc (.cells #[.int .i64 0, .int .i64 0, .int .i64 0, .int .i64 0, .slice none 0 0, .slice none 0 0, .slice none 0 0] 39)).alloc (.cells #[] 3)).ownsRow (w1.heap.size + 1) 3 1 (.slice (some ⟨(w1.heap.size + 1), 0, none⟩) 0 0) 0 []) := own_empty kE_TZS.out (Nat.le_refl _); have hr_TZS : Hid (Rd ((w1.alloc (.cells #[.int .i64 0, .int .i64 0, .int .i64 0, .int .i64 0, .slice none 0 0, .slice none 0 0, .slice none 0 0] 39)).alloc (.cells #[] 3)) w.heap.size B (ints ac)) := H2.out _ b_TZS.out)
        | (go_at_call 20; (with_reducible refine (to_own A c nd (W.alloc (.cells #[] 3)).drew (H1.out _ b_0S.out) hw hmax).mono ?_); rintro e w1 ⟨A1, c1, rfl, hn1, hb1⟩; have b_ST : Hid (Below w.heap.size w w1) := below_step b_0S.out hb1; have kB_ST := Lib.hid (Blk.below' kB_0S.out hb1); have kR_ST := Lib.hid (Blk.below' kR_0S.out hb1); have kE_ST := Lib.hid (Blk.below' kE_0S.out hb1); have N_ST : Hid (w1.ownsRow (w.heap.size + 2) 99 2 (.slice A1 nd.length c1) nd.length (nds nd)) := own_mono hn1 (by simp [hW2.out]); have hs1 : w.heap.size + 2 ≤ w1.heap.size := Nat.le_trans (by simp [hW2.out]) hb1.size; have hs2 : W.heap.size + 1 ≤ w1.heap.size := Nat.le_trans (by simp) hb1.size; have s_ST : w1.cell? ⟨w.heap.size, 0, none⟩ = some (.int .i64 sh) ∧ w1.cell? ⟨w.heap.size, 1, none⟩ = some (.int .i64 wi) ∧ w1.cell? ⟨w.heap.size, 2, none⟩ = some (.int .i64 ra) ∧ w1.cell? ⟨w.heap.size, 3, none⟩ = some (.int .i64 ta) ∧ w1.cell? ⟨w.heap.size, 4, none⟩ = some (.slice A nd.length c) ∧ w1.cell? ⟨w.heap.size, 5, none⟩ = some (.slice B ac.length d) := s_of kB_ST.out; have how_ST : Hid (w1.ownsRow (W.heap.size) 3 1 (.slice (some ⟨(W.heap.size), 0, none⟩) 0 0) 0 []) := own_empty kE_ST.out (Nat.le_refl _); have hr_ST : Hid (Rd w1 w.heap.size B (ints ac)) := H2.out _ b_ST.out; have b_STZ : Hid (Below w.heap.size w (w1.alloc (.cells #[.int .i64 0, .int .i64 0, .int .i64 0, .int .i64 0, .slice none 0 0, .slice none 0 0, .slice none 0 0] 39))) := (below_up b_ST.out _); have kB_STZ : Hid (Blk (w1.alloc (.cells #[.int .i64 0, .int .i64 0, .int .i64 0, .int .i64 0, .slice none 0 0, .slice none 0 0, .slice none 0 0] 39)) w.heap.size 29 #[.int .i64 sh, .int .i64 wi, .int .i64 ra, .int .i64 ta, .slice A nd.length c, .slice B ac.length d, .slice C sy.length f]) := (kB_ST.out.alloc _); have kR_STZ : Hid (Blk (w1.alloc (.cells #[.int .i64 0, .int .i64 0, .int .i64 0, .int .i64 0, .slice none 0 0, .slice none 0 0, .slice none 0 0] 39)) (w.heap.size + 1) 39 #[.int .i64 0, .int .i64 0, .int .i64 0, .int .i64 0, .slice none 0 0, .slice none 0 0, .slice none 0 0]) := (kR_ST.out.alloc _); have kE_STZ : Hid (Blk (w1.alloc (.cells #[.int .i64 0, .int .i64 0, .int .i64 0, .int .i64 0, .slice none 0 0, .slice none 0 0, .slice none 0 0] 39)) (W.heap.size) 3 #[]) := (kE_ST.out.alloc _); have kZ_STZ : Hid (Blk (w1.alloc (.cells #[.int .i64 0, .int .i64 0, .int .i64 0, .int .i64 0, .slice none 0 0, .slice none 0 0, .slice none 0 0] 39)) (w1.heap.size) 39 #[.int .i64 0, .int .i64 0, .int .i64 0, .int .i64 0, .slice none 0 0, .slice none 0 0, .slice none 0 0]) := (blk_at (w := w1) (by simp)); have N_STZ : Hid ((w1.alloc (.cells #[.int .i64 0, .int .i64 0, .int .i64 0, .int .i64 0, .slice none 0 0, .slice none 0 0, .slice none 0 0] 39)).ownsRow (w.heap.size + 2) 99 2 (.slice A1 nd.length c1) nd.length (nds nd)) := (World.ownsRow.alloc N_ST.out _); have s_STZ : (w1.alloc (.cells #[.int .i64 0, .int .i64 0, .int .i64 0, .int .i64 0, .slice none 0 0, .slice none 0 0, .slice none 0 0] 39)).cell? ⟨w.heap.size, 0, none⟩ = some (.int .i64 sh) ∧ (w1.alloc (.cells #[.int .i64 0, .int .i64 0, .int .i64 0, .int .i64 0, .slice none 0 0, .slice none 0 0, .slice none 0 0] 39)).cell? ⟨w.heap.size, 1, none⟩ = some (.int .i64 wi) ∧ (w1.alloc (.cells #[.int .i64 0, .int .i64 0, .int .i64 0, .int .i64 0, .slice none 0 0, .slice none 0 0, .slice none 0 0] 39)).cell? ⟨w.heap.size, 2, none⟩ = some (.int .i64 ra) ∧ (w1.alloc (.cells #[.int .i64 0, .int .i64 0, .int .i64 0, .int .i64 0, .slice none 0 0, .slice none 0 0, .slice none 0 0] 39)).cell? ⟨w.heap.size, 3, none⟩ = some (.int .i64 ta) ∧ (w1.alloc (.cells #[.int .i64 0, .int .i64 0, .int .i64 0, .int .i64 0, .slice none 0 0, .slice none 0 0, .slice none 0 0] 39)).cell? ⟨w.heap.size, 4, none⟩ = some (.slice A nd.length c) ∧ (w1.alloc (.cells #[.int .i64 0, .int .i64 0, .int .i64 0, .int .i64 0, .slice none 0 0, .slice none 0 0, .slice none 0 0] 39)).cell? ⟨w.heap.size, 5, none⟩ = some (.slice B ac.length d) := s_of kB_STZ.out; have how_STZ : Hid ((w1.alloc (.cells #[.int .i64 0, .int .i64 0, .int .i64 0, .int .i64 0, .slice none 0 0, .slice none 0 0, .slice none 0 0] 39)).ownsRow (W.heap.size) 3 1 (.slice (some ⟨(W.heap.size), 0, none⟩) 0 0) 0 []) := own_empty kE_STZ.out (Nat.le_refl _); have hr_STZ : Hid (Rd (w1.alloc (.cells #[.int .i64 0, .int .i64 0, .int .i64 0, .int .i64 0, .slice none 0 0, .slice none 0 0, .slice none 0 0] 39)) w.heap.size B (ints ac)) := H2.out _ b_STZ.out)
        | (go_at_call 20; (with_reducible refine (to_own A c nd (W.alloc (.cells #[.int .i64 0, .int .i64 0, .int .i64 0, .int .i64 0, .slice none 0 0, .slice none 0 0, .slice none 0 0] 39)).drew (H1.out _ b_0Z.out) hw hmax).mono ?_); rintro e w1 ⟨A1, c1, rfl, hn1, hb1⟩; have b_ZT : Hid (Below w.heap.size w w1) := below_step b_0Z.out hb1; have kB_ZT := Lib.hid (Blk.below' kB_0Z.out hb1); have kR_ZT := Lib.hid (Blk.below' kR_0Z.out hb1); have kZ_ZT := Lib.hid (Blk.below' kZ_0Z.out hb1); have N_ZT : Hid (w1.ownsRow (w.heap.size + 2) 99 2 (.slice A1 nd.length c1) nd.length (nds nd)) := own_mono hn1 (by simp [hW2.out]); have hs1 : w.heap.size + 2 ≤ w1.heap.size := Nat.le_trans (by simp [hW2.out]) hb1.size; have hs2 : W.heap.size + 1 ≤ w1.heap.size := Nat.le_trans (by simp) hb1.size; have s_ZT : w1.cell? ⟨w.heap.size, 0, none⟩ = some (.int .i64 sh) ∧ w1.cell? ⟨w.heap.size, 1, none⟩ = some (.int .i64 wi) ∧ w1.cell? ⟨w.heap.size, 2, none⟩ = some (.int .i64 ra) ∧ w1.cell? ⟨w.heap.size, 3, none⟩ = some (.int .i64 ta) ∧ w1.cell? ⟨w.heap.size, 4, none⟩ = some (.slice A nd.length c) ∧ w1.cell? ⟨w.heap.size, 5, none⟩ = some (.slice B ac.length d) := s_of kB_ZT.out; have b_ZTS : Hid (Below w.heap.size w (w1.alloc (.cells #[] 3))) := (below_up b_ZT.out _); have kB_ZTS : Hid (Blk (w1.alloc (.cells #[] 3)) w.heap.size 29 #[.int .i64 sh, .int .i64 wi, .int .i64 ra, .int .i64 ta, .slice A nd.length c, .slice B ac.length d, .slice C sy.length f]) := (kB_ZT.out.alloc _); have kR_ZTS : Hid (Blk (w1.alloc (.cells #[] 3)) (w.heap.size + 1) 39 #[.int .i64 0, .int .i64 0, .int .i64 0, .int .i64 0, .slice none 0 0, .slice none 0 0, .slice none 0 0]) := (kR_ZT.out.alloc _); have kE_ZTS : Hid (Blk (w1.alloc (.cells #[] 3)) (w1.heap.size) 3 #[]) := (blk_at (w := w1) (by simp)); have kZ_ZTS : Hid (Blk (w1.alloc (.cells #[] 3)) (W.heap.size) 39 #[.int .i64 0, .int .i64 0, .int .i64 0, .int .i64 0, .slice none 0 0, .slice none 0 0, .slice none 0 0]) := (kZ_ZT.out.alloc _); have N_ZTS : Hid ((w1.alloc (.cells #[] 3)).ownsRow (w.heap.size + 2) 99 2 (.slice A1 nd.length c1) nd.length (nds nd)) := (World.ownsRow.alloc N_ZT.out _); have s_ZTS : (w1.alloc (.cells #[] 3)).cell? ⟨w.heap.size, 0, none⟩ = some (.int .i64 sh) ∧ (w1.alloc (.cells #[] 3)).cell? ⟨w.heap.size, 1, none⟩ = some (.int .i64 wi) ∧ (w1.alloc (.cells #[] 3)).cell? ⟨w.heap.size, 2, none⟩ = some (.int .i64 ra) ∧ (w1.alloc (.cells #[] 3)).cell? ⟨w.heap.size, 3, none⟩ = some (.int .i64 ta) ∧ (w1.alloc (.cells #[] 3)).cell? ⟨w.heap.size, 4, none⟩ = some (.slice A nd.length c) ∧ (w1.alloc (.cells #[] 3)).cell? ⟨w.heap.size, 5, none⟩ = some (.slice B ac.length d) := s_of kB_ZTS.out; have how_ZTS : Hid ((w1.alloc (.cells #[] 3)).ownsRow (w1.heap.size) 3 1 (.slice (some ⟨(w1.heap.size), 0, none⟩) 0 0) 0 []) := own_empty kE_ZTS.out (Nat.le_refl _); have hr_ZTS : Hid (Rd (w1.alloc (.cells #[] 3)) w.heap.size B (ints ac)) := H2.out _ b_ZTS.out)
        | (go_at_call 20; (with_reducible refine (to_own A c nd ((W.alloc (.cells #[] 3)).alloc (.cells #[.int .i64 0, .int .i64 0, .int .i64 0, .int .i64 0, .slice none 0 0, .slice none 0 0, .slice none 0 0] 39)).drew (H1.out _ b_0SZ.out) hw hmax).mono ?_); rintro e w1 ⟨A1, c1, rfl, hn1, hb1⟩; have b_SZT : Hid (Below w.heap.size w w1) := below_step b_0SZ.out hb1; have kB_SZT := Lib.hid (Blk.below' kB_0SZ.out hb1); have kR_SZT := Lib.hid (Blk.below' kR_0SZ.out hb1); have kE_SZT := Lib.hid (Blk.below' kE_0SZ.out hb1); have kZ_SZT := Lib.hid (Blk.below' kZ_0SZ.out hb1); have N_SZT : Hid (w1.ownsRow (w.heap.size + 2) 99 2 (.slice A1 nd.length c1) nd.length (nds nd)) := own_mono hn1 (by simp [hW2.out]); have hs1 : w.heap.size + 2 ≤ w1.heap.size := Nat.le_trans (by simp [hW2.out]) hb1.size; have hs2 : W.heap.size + 2 ≤ w1.heap.size := Nat.le_trans (by simp) hb1.size; have s_SZT : w1.cell? ⟨w.heap.size, 0, none⟩ = some (.int .i64 sh) ∧ w1.cell? ⟨w.heap.size, 1, none⟩ = some (.int .i64 wi) ∧ w1.cell? ⟨w.heap.size, 2, none⟩ = some (.int .i64 ra) ∧ w1.cell? ⟨w.heap.size, 3, none⟩ = some (.int .i64 ta) ∧ w1.cell? ⟨w.heap.size, 4, none⟩ = some (.slice A nd.length c) ∧ w1.cell? ⟨w.heap.size, 5, none⟩ = some (.slice B ac.length d) := s_of kB_SZT.out; have how_SZT : Hid (w1.ownsRow (W.heap.size) 3 1 (.slice (some ⟨(W.heap.size), 0, none⟩) 0 0) 0 []) := own_empty kE_SZT.out (Nat.le_refl _); have hr_SZT : Hid (Rd w1 w.heap.size B (ints ac)) := H2.out _ b_SZT.out)
        | (go_at_call 20; (with_reducible refine (to_own A c nd ((W.alloc (.cells #[.int .i64 0, .int .i64 0, .int .i64 0, .int .i64 0, .slice none 0 0, .slice none 0 0, .slice none 0 0] 39)).alloc (.cells #[] 3)).drew (H1.out _ b_0ZS.out) hw hmax).mono ?_); rintro e w1 ⟨A1, c1, rfl, hn1, hb1⟩; have b_ZST : Hid (Below w.heap.size w w1) := below_step b_0ZS.out hb1; have kB_ZST := Lib.hid (Blk.below' kB_0ZS.out hb1); have kR_ZST := Lib.hid (Blk.below' kR_0ZS.out hb1); have kE_ZST := Lib.hid (Blk.below' kE_0ZS.out hb1); have kZ_ZST := Lib.hid (Blk.below' kZ_0ZS.out hb1); have N_ZST : Hid (w1.ownsRow (w.heap.size + 2) 99 2 (.slice A1 nd.length c1) nd.length (nds nd)) := own_mono hn1 (by simp [hW2.out]); have hs1 : w.heap.size + 2 ≤ w1.heap.size := Nat.le_trans (by simp [hW2.out]) hb1.size; have hs2 : W.heap.size + 2 ≤ w1.heap.size := Nat.le_trans (by simp) hb1.size; have s_ZST : w1.cell? ⟨w.heap.size, 0, none⟩ = some (.int .i64 sh) ∧ w1.cell? ⟨w.heap.size, 1, none⟩ = some (.int .i64 wi) ∧ w1.cell? ⟨w.heap.size, 2, none⟩ = some (.int .i64 ra) ∧ w1.cell? ⟨w.heap.size, 3, none⟩ = some (.int .i64 ta) ∧ w1.cell? ⟨w.heap.size, 4, none⟩ = some (.slice A nd.length c) ∧ w1.cell? ⟨w.heap.size, 5, none⟩ = some (.slice B ac.length d) := s_of kB_ZST.out; have how_ZST : Hid (w1.ownsRow (W.heap.size + 1) 3 1 (.slice (some ⟨(W.heap.size + 1), 0, none⟩) 0 0) 0 []) := own_empty kE_ZST.out (Nat.le_refl _); have hr_ZST : Hid (Rd w1 w.heap.size B (ints ac)) := H2.out _ b_ZST.out)
        | ((with_reducible refine app_at (w1.alloc (.cells #[] 3)) ?_); go_loud (refine step_appG (nm := ac.length) how_TS hr_TS (by simp) rfl _ _ _ rfl i0 (.int .i64 0) 8 Try.underlying23 hi hz0 hz1 hz2 rfl (by decide) rfl rfl (by rw [ints_len]; omega) (ints_one ac) (by unfold maxLen; omega) (by omega) (Nat.le_of_lt kE_TS.out.lt) ?_); go_loud (intro B5 c5 w5 hown5 hgr5); go_loud (have b5 : Hid (Below w.heap.size w w5) := below_gr (g := (w1.heap.size)) b_TS.out hgr5 (by have := hW2.out; omega)); go_loud (have kB5 := Lib.hid (Blk_grown kB_TS.out hgr5 (by have := hW2.out; simp [Value.ownBlock] <;> omega))); go_loud (have kR5 := Lib.hid (Blk_grown kR_TS.out hgr5 (by have := hW2.out; simp [Value.ownBlock] <;> omega))); go_loud (have N5 : Hid (w5.ownsRow (w.heap.size + 2) 99 2 (.slice A1 nd.length c1) nd.length (nds nd)) := own_grown (g := (w1.heap.size)) N_TS.out kE_TS.out (by decide) hgr5); go_loud (have O5 : Hid (w5.ownsRow (w.heap.size + 2) 3 1 (.slice B5 ac.length c5) ac.length (ints ac)) := own_mono hown5.out (by have := hW2.out; omega)); go_loud (have s5 : w5.cell? ⟨w.heap.size, 0, none⟩ = some (.int .i64 sh) ∧ w5.cell? ⟨w.heap.size, 1, none⟩ = some (.int .i64 wi) ∧ w5.cell? ⟨w.heap.size, 2, none⟩ = some (.int .i64 ra) ∧ w5.cell? ⟨w.heap.size, 3, none⟩ = some (.int .i64 ta) ∧ w5.cell? ⟨w.heap.size, 4, none⟩ = some (.slice A nd.length c) ∧ w5.cell? ⟨w.heap.size, 5, none⟩ = some (.slice B ac.length d) := s_of kB5.out); go_loud (have s6 : ∀ X, (w5.alloc X).cell? ⟨w.heap.size, 0, none⟩ = some (.int .i64 sh) ∧ (w5.alloc X).cell? ⟨w.heap.size, 1, none⟩ = some (.int .i64 wi) ∧ (w5.alloc X).cell? ⟨w.heap.size, 2, none⟩ = some (.int .i64 ra) ∧ (w5.alloc X).cell? ⟨w.heap.size, 3, none⟩ = some (.int .i64 ta) ∧ (w5.alloc X).cell? ⟨w.heap.size, 4, none⟩ = some (.slice A nd.length c) ∧ (w5.alloc X).cell? ⟨w.heap.size, 5, none⟩ = some (.slice B ac.length d) := fun X => s_of (kB5.out.alloc X)))
        | ((with_reducible refine app_at ((w1.alloc (.cells #[] 3)).alloc (.cells #[.int .i64 0, .int .i64 0, .int .i64 0, .int .i64 0, .slice none 0 0, .slice none 0 0, .slice none 0 0] 39)) ?_); go_loud (refine step_appG (nm := ac.length) how_TSZ hr_TSZ (by simp) rfl _ _ _ rfl i0 (.int .i64 0) 8 Try.underlying23 hi hz0 hz1 hz2 rfl (by decide) rfl rfl (by rw [ints_len]; omega) (ints_one ac) (by unfold maxLen; omega) (by omega) (Nat.le_of_lt kE_TSZ.out.lt) ?_); go_loud (intro B5 c5 w5 hown5 hgr5); go_loud (have b5 : Hid (Below w.heap.size w w5) := below_gr (g := (w1.heap.size)) b_TSZ.out hgr5 (by have := hW2.out; omega)); go_loud (have kB5 := Lib.hid (Blk_grown kB_TSZ.out hgr5 (by have := hW2.out; simp [Value.ownBlock] <;> omega))); go_loud (have kR5 := Lib.hid (Blk_grown kR_TSZ.out hgr5 (by have := hW2.out; simp [Value.ownBlock] <;> omega))); go_loud (have kZ5 : Hid (Blk w5 (w1.heap.size + 1) 39 #[.int .i64 0, .int .i64 0, .int .i64 0, .int .i64 0, .slice none 0 0, .slice none 0 0, .slice none 0 0]) := Blk_grown kZ_TSZ.out hgr5 (by have := hW2.out; simp [Value.ownBlock] <;> omega)); go_loud (have hzn : w.heap.size ≠ (w1.heap.size + 1) := by have := hW2.out; omega); go_loud (have s7 := s7_of kB5.out hzn); go_loud (have hzr : w.heap.size + 1 ≠ (w1.heap.size + 1) := by have := hW2.out; omega); go_loud (obtain ⟨zc0, zc1, zc2, zc3, zc4, zc5, zc6, zt0, zt1, zt2, zt3, zt4, zt5, zt6⟩ := z_of kZ5.out); go_loud (have N5 : Hid (w5.ownsRow (w.heap.size + 2) 99 2 (.slice A1 nd.length c1) nd.length (nds nd)) := own_grown (g := (w1.heap.size)) N_TSZ.out kE_TSZ.out (by decide) hgr5); go_loud (have O5 : Hid (w5.ownsRow (w.heap.size + 2) 3 1 (.slice B5 ac.length c5) ac.length (ints ac)) := own_mono hown5.out (by have := hW2.out; omega)); go_loud (have s5 : w5.cell? ⟨w.heap.size, 0, none⟩ = some (.int .i64 sh) ∧ w5.cell? ⟨w.heap.size, 1, none⟩ = some (.int .i64 wi) ∧ w5.cell? ⟨w.heap.size, 2, none⟩ = some (.int .i64 ra) ∧ w5.cell? ⟨w.heap.size, 3, none⟩ = some (.int .i64 ta) ∧ w5.cell? ⟨w.heap.size, 4, none⟩ = some (.slice A nd.length c) ∧ w5.cell? ⟨w.heap.size, 5, none⟩ = some (.slice B ac.length d) := s_of kB5.out))
        | ((with_reducible refine app_at ((w1.alloc (.cells #[.int .i64 0, .int .i64 0, .int .i64 0, .int .i64 0, .slice none 0 0, .slice none 0 0, .slice none 0 0] 39)).alloc (.cells #[] 3)) ?_); go_loud (refine step_appG (nm := ac.length) how_TZS hr_TZS (by simp) rfl _ _ _ rfl i0 (.int .i64 0) 8 Try.underlying23 hi hz0 hz1 hz2 rfl (by decide) rfl rfl (by rw [ints_len]; omega) (ints_one ac) (by unfold maxLen; omega) (by omega) (Nat.le_of_lt kE_TZS.out.lt) ?_); go_loud (intro B5 c5 w5 hown5 hgr5); go_loud (have b5 : Hid (Below w.heap.size w w5) := below_gr (g := (w1.heap.size + 1)) b_TZS.out hgr5 (by have := hW2.out; omega)); go_loud (have kB5 := Lib.hid (Blk_grown kB_TZS.out hgr5 (by have := hW2.out; simp [Value.ownBlock] <;> omega))); go_loud (have kR5 := Lib.hid (Blk_grown kR_TZS.out hgr5 (by have := hW2.out; simp [Value.ownBlock] <;> omega))); go_loud (have kZ5 : Hid (Blk w5 (w1.heap.size) 39 #[.int .i64 0, .int .i64 0, .int .i64 0, .int .i64 0, .slice none 0 0, .slice none 0 0, .slice none 0 0]) := Blk_grown kZ_TZS.out hgr5 (by have := hW2.out; simp [Value.ownBlock] <;> omega)); go_loud (have hzn : w.heap.size ≠ (w1.heap.size) := by have := hW2.out; omega); go_loud (have s7 := s7_of kB5.out hzn); go_loud (have hzr : w.heap.size + 1 ≠ (w1.heap.size) := by have := hW2.out; omega); go_loud (obtain ⟨zc0, zc1, zc2, zc3, zc4, zc5, zc6, zt0, zt1, zt2, zt3, zt4, zt5, zt6⟩ := z_of kZ5.out); go_loud (have N5 : Hid (w5.ownsRow (w.heap.size + 2) 99 2 (.slice A1 nd.length c1) nd.length (nds nd)) := own_grown (g := (w1.heap.size + 1)) N_TZS.out kE_TZS.out (by decide) hgr5); go_loud (have O5 : Hid (w5.ownsRow (w.heap.size + 2) 3 1 (.slice B5 ac.length c5) ac.length (ints ac)) := own_mono hown5.out (by have := hW2.out; omega)); go_loud (have s5 : w5.cell? ⟨w.heap.size, 0, none⟩ = some (.int .i64 sh) ∧ w5.cell? ⟨w.heap.size, 1, none⟩ = some (.int .i64 wi) ∧ w5.cell? ⟨w.heap.size, 2, none⟩ = some (.int .i64 ra) ∧ w5.cell? ⟨w.heap.size, 3, none⟩ = some (.int .i64 ta) ∧ w5.cell? ⟨w.heap.size, 4, none⟩ = some (.slice A nd.length c) ∧ w5.cell? ⟨w.heap.size, 5, none⟩ = some (.slice B ac.length d) := s_of kB5.out))
        | ((with_reducible refine app_at w1 ?_); go_loud (refine step_appG (nm := ac.length) how_ST hr_ST (by simp) rfl _ _ _ rfl i0 (.int .i64 0) 8 Try.underlying23 hi hz0 hz1 hz2 rfl (by decide) rfl rfl (by rw [ints_len]; omega) (ints_one ac) (by unfold maxLen; omega) (by omega) (Nat.le_of_lt kE_ST.out.lt) ?_); go_loud (intro B5 c5 w5 hown5 hgr5); go_loud (have b5 : Hid (Below w.heap.size w w5) := below_gr (g := (W.heap.size)) b_ST.out hgr5 (by have := hW2.out; omega)); go_loud (have kB5 := Lib.hid (Blk_grown kB_ST.out hgr5 (by have := hW2.out; simp [Value.ownBlock] <;> omega))); go_loud (have kR5 := Lib.hid (Blk_grown kR_ST.out hgr5 (by have := hW2.out; simp [Value.ownBlock] <;> omega))); go_loud (have N5 : Hid (w5.ownsRow (w.heap.size + 2) 99 2 (.slice A1 nd.length c1) nd.length (nds nd)) := own_grown (g := (W.heap.size)) N_ST.out kE_ST.out (by decide) hgr5); go_loud (have O5 : Hid (w5.ownsRow (w.heap.size + 2) 3 1 (.slice B5 ac.length c5) ac.length (ints ac)) := own_mono hown5.out (by have := hW2.out; omega)); go_loud (have s5 : w5.cell? ⟨w.heap.size, 0, none⟩ = some (.int .i64 sh) ∧ w5.cell? ⟨w.heap.size, 1, none⟩ = some (.int .i64 wi) ∧ w5.cell? ⟨w.heap.size, 2, none⟩ = some (.int .i64 ra) ∧ w5.cell? ⟨w.heap.size, 3, none⟩ = some (.int .i64 ta) ∧ w5.cell? ⟨w.heap.size, 4, none⟩ = some (.slice A nd.length c) ∧ w5.cell? ⟨w.heap.size, 5, none⟩ = some (.slice B ac.length d) := s_of kB5.out); go_loud (have s6 : ∀ X, (w5.alloc X).cell? ⟨w.heap.size, 0, none⟩ = some (.int .i64 sh) ∧ (w5.alloc X).cell? ⟨w.heap.size, 1, none⟩ = some (.int .i64 wi) ∧ (w5.alloc X).cell? ⟨w.heap.size, 2, none⟩ = some (.int .i64 ra) ∧ (w5.alloc X).cell? ⟨w.heap.size, 3, none⟩ = some (.int .i64 ta) ∧ (w5.alloc X).cell? ⟨w.heap.size, 4, none⟩ = some (.slice A nd.length c) ∧ (w5.alloc X).cell? ⟨w.heap.size, 5, none⟩ = some (.slice B ac.length d) := fun X => s_of (kB5.out.alloc X)))
        | ((with_reducible refine app_at (w1.alloc (.cells #[.int .i64 0, .int .i64 0, .int .i64 0, .int .i64 0, .slice none 0 0, .slice none 0 0, .slice none 0 0] 39)) ?_); go_loud (refine step_appG (nm := ac.length) how_STZ hr_STZ (by simp) rfl _ _ _ rfl i0 (.int .i64 0) 8 Try.underlying23 hi hz0 hz1 hz2 rfl (by decide) rfl rfl (by rw [ints_len]; omega) (ints_one ac) (by unfold maxLen; omega) (by omega) (Nat.le_of_lt kE_STZ.out.lt) ?_); go_loud (intro B5 c5 w5 hown5 hgr5); go_loud (have b5 : Hid (Below w.heap.size w w5) := below_gr (g := (W.heap.size)) b_STZ.out hgr5 (by have := hW2.out; omega)); go_loud (have kB5 := Lib.hid (Blk_grown kB_STZ.out hgr5 (by have := hW2.out; simp [Value.ownBlock] <;> omega))); go_loud (have kR5 := Lib.hid (Blk_grown kR_STZ.out hgr5 (by have := hW2.out; simp [Value.ownBlock] <;> omega))); go_loud (have kZ5 : Hid (Blk w5 (w1.heap.size) 39 #[.int .i64 0, .int .i64 0, .int .i64 0, .int .i64 0, .slice none 0 0, .slice none 0 0, .slice none 0 0]) := Blk_grown kZ_STZ.out hgr5 (by have := hW2.out; simp [Value.ownBlock] <;> omega)); go_loud (have hzn : w.heap.size ≠ (w1.heap.size) := by have := hW2.out; omega); go_loud (have s7 := s7_of kB5.out hzn); go_loud (have hzr : w.heap.size + 1 ≠ (w1.heap.size) := by have := hW2.out; omega); go_loud (obtain ⟨zc0, zc1, zc2, zc3, zc4, zc5, zc6, zt0, zt1, zt2, zt3, zt4, zt5, zt6⟩ := z_of kZ5.out); go_loud (have N5 : Hid (w5.ownsRow (w.heap.size + 2) 99 2 (.slice A1 nd.length c1) nd.length (nds nd)) := own_grown (g := (W.heap.size)) N_STZ.out kE_STZ.out (by decide) hgr5); go_loud (have O5 : Hid (w5.ownsRow (w.heap.size + 2) 3 1 (.slice B5 ac.length c5) ac.length (ints ac)) := own_mono hown5.out (by have := hW2.out; omega)); go_loud (have s5 : w5.cell? ⟨w.heap.size, 0, none⟩ = some (.int .i64 sh) ∧ w5.cell? ⟨w.heap.size, 1, none⟩ = some (.int .i64 wi) ∧ w5.cell? ⟨w.heap.size, 2, none⟩ = some (.int .i64 ra) ∧ w5.cell? ⟨w.heap.size, 3, none⟩ = some (.int .i64 ta) ∧ w5.cell? ⟨w.heap.size, 4, none⟩ = some (.slice A nd.length c) ∧ w5.cell? ⟨w.heap.size, 5, none⟩ = some (.slice B ac.length d) := s_of kB5.out))
        | ((with_reducible refine app_at (w1.alloc (.cells #[] 3)) ?_); go_loud (refine step_appG (nm := ac.length) how_ZTS hr_ZTS (by simp) rfl _ _ _ rfl i0 (.int .i64 0) 8 Try.underlying23 hi hz0 hz1 hz2 rfl (by decide) rfl rfl (by rw [ints_len]; omega) (ints_one ac) (by unfold maxLen; omega) (by omega) (Nat.le_of_lt kE_ZTS.out.lt) ?_); go_loud (intro B5 c5 w5 hown5 hgr5); go_loud (have b5 : Hid (Below w.heap.size w w5) := below_gr (g := (w1.heap.size)) b_ZTS.out hgr5 (by have := hW2.out; omega)); go_loud (have kB5 := Lib.hid (Blk_grown kB_ZTS.out hgr5 (by have := hW2.out; simp [Value.ownBlock] <;> omega))); go_loud (have kR5 := Lib.hid (Blk_grown kR_ZTS.out hgr5 (by have := hW2.out; simp [Value.ownBlock] <;> omega))); go_loud (have kZ5 : Hid (Blk w5 (W.heap.size) 39 #[.int .i64 0, .int .i64 0, .int .i64 0, .int .i64 0, .slice none 0 0, .slice none 0 0, .slice none 0 0]) := Blk_grown kZ_ZTS.out hgr5 (by have := hW2.out; simp [Value.ownBlock] <;> omega)); go_loud (have hzn : w.heap.size ≠ (W.heap.size) := by have := hW2.out; omega); go_loud (have s7 := s7_of kB5.out hzn); go_loud (have hzr : w.heap.size + 1 ≠ (W.heap.size) := by have := hW2.out; omega); go_loud (obtain ⟨zc0, zc1, zc2, zc3, zc4, zc5, zc6, zt0, zt1, zt2, zt3, zt4, zt5, zt6⟩ := z_of kZ5.out); go_loud (have N5 : Hid (w5.ownsRow (w.heap.size + 2) 99 2 (.slice A1 nd.length c1) nd.length (nds nd)) := own_grown (g := (w1.heap.size)) N_ZTS.out kE_ZTS.out (by decide) hgr5); go_loud (have O5 : Hid (w5.ownsRow (w.heap.size + 2) 3 1 (.slice B5 ac.length c5) ac.length (ints ac)) := own_mono hown5.out (by have := hW2.out; omega)); go_loud (have s5 : w5.cell? ⟨w.heap.size, 0, none⟩ = some (.int .i64 sh) ∧ w5.cell? ⟨w.heap.size, 1, none⟩ = some (.int .i64 wi) ∧ w5.cell? ⟨w.heap.size, 2, none⟩ = some (.int .i64 ra) ∧ w5.cell? ⟨w.heap.size, 3, none⟩ = some (.int .i64 ta) ∧ w5.cell? ⟨w.heap.size, 4, none⟩ = some (.slice A nd.length c) ∧ w5.cell? ⟨w.heap.size, 5, none⟩ = some (.slice B ac.length d) := s_of kB5.out))
        | ((with_reducible refine app_at w1 ?_); go_loud (refine step_appG (nm := ac.length) how_SZT hr_SZT (by simp) rfl _ _ _ rfl i0 (.int .i64 0) 8 Try.underlying23 hi hz0 hz1 hz2 rfl (by decide) rfl rfl (by rw [ints_len]; omega) (ints_one ac) (by unfold maxLen; omega) (by omega) (Nat.le_of_lt kE_SZT.out.lt) ?_); go_loud (intro B5 c5 w5 hown5 hgr5); go_loud (have b5 : Hid (Below w.heap.size w w5) := below_gr (g := (W.heap.size)) b_SZT.out hgr5 (by have := hW2.out; omega)); go_loud (have kB5 := Lib.hid (Blk_grown kB_SZT.out hgr5 (by have := hW2.out; simp [Value.ownBlock] <;> omega))); go_loud (have kR5 := Lib.hid (Blk_grown kR_SZT.out hgr5 (by have := hW2.out; simp [Value.ownBlock] <;> omega))); go_loud (have kZ5 : Hid (Blk w5 (W.heap.size + 1) 39 #[.int .i64 0, .int .i64 0, .int .i64 0, .int .i64 0, .slice none 0 0, .slice none 0 0, .slice none 0 0]) := Blk_grown kZ_SZT.out hgr5 (by have := hW2.out; simp [Value.ownBlock] <;> omega)); go_loud (have hzn : w.heap.size ≠ (W.heap.size + 1) := by have := hW2.out; omega); go_loud (have s7 := s7_of kB5.out hzn); go_loud (have hzr : w.heap.size + 1 ≠ (W.heap.size + 1) := by have := hW2.out; omega); go_loud (obtain ⟨zc0, zc1, zc2, zc3, zc4, zc5, zc6, zt0, zt1, zt2, zt3, zt4, zt5, zt6⟩ := z_of kZ5.out); go_loud (have N5 : Hid (w5.ownsRow (w.heap.size + 2) 99 2 (.slice A1 nd.length c1) nd.length (nds nd)) := own_grown (g := (W.heap.size)) N_SZT.out kE_SZT.out (by decide) hgr5); go_loud (have O5 : Hid (w5.ownsRow (w.heap.size + 2) 3 1 (.slice B5 ac.length c5) ac.length (ints ac)) := own_mono hown5.out (by have := hW2.out; omega)); go_loud (have s5 : w5.cell? ⟨w.heap.size, 0, none⟩ = some (.int .i64 sh) ∧ w5.cell? ⟨w.heap.size, 1, none⟩ = some (.int .i64 wi) ∧ w5.cell? ⟨w.heap.size, 2, none⟩ = some (.int .i64 ra) ∧ w5.cell? ⟨w.heap.size, 3, none⟩ = some (.int .i64 ta) ∧ w5.cell? ⟨w.heap.size, 4, none⟩ = some (.slice A nd.length c) ∧ w5.cell? ⟨w.heap.size, 5, none⟩ = some (.slice B ac.length d) := s_of kB5.out))
        | ((with_reducible refine app_at w1 ?_); go_loud (refine step_appG (nm := ac.length) how_ZST hr_ZST (by simp) rfl _ _ _ rfl i0 (.int .i64 0) 8 Try.underlying23 hi hz0 hz1 hz2 rfl (by decide) rfl rfl (by rw [ints_len]; omega) (ints_one ac) (by unfold maxLen; omega) (by omega) (Nat.le_of_lt kE_ZST.out.lt) ?_); go_loud (intro B5 c5 w5 hown5 hgr5); go_loud (have b5 : Hid (Below w.heap.size w w5) := below_gr (g := (W.heap.size + 1)) b_ZST.out hgr5 (by have := hW2.out; omega)); go_loud (have kB5 := Lib.hid (Blk_grown kB_ZST.out hgr5 (by have := hW2.out; simp [Value.ownBlock] <;> omega))); go_loud (have kR5 := Lib.hid (Blk_grown kR_ZST.out hgr5 (by have := hW2.out; simp [Value.ownBlock] <;> omega))); go_loud (have kZ5 : Hid (Blk w5 (W.heap.size) 39 #[.int .i64 0, .int .i64 0, .int .i64 0, .int .i64 0, .slice none 0 0, .slice none 0 0, .slice none 0 0]) := Blk_grown kZ_ZST.out hgr5 (by have := hW2.out; simp [Value.ownBlock] <;> omega)); go_loud (have hzn : w.heap.size ≠ (W.heap.size) := by have := hW2.out; omega); go_loud (have s7 := s7_of kB5.out hzn); go_loud (have hzr : w.heap.size + 1 ≠ (W.heap.size) := by have := hW2.out; omega); go_loud (obtain ⟨zc0, zc1, zc2, zc3, zc4, zc5, zc6, zt0, zt1, zt2, zt3, zt4, zt5, zt6⟩ := z_of kZ5.out); go_loud (have N5 : Hid (w5.ownsRow (w.heap.size + 2) 99 2 (.slice A1 nd.length c1) nd.length (nds nd)) := own_grown (g := (W.heap.size + 1)) N_ZST.out kE_ZST.out (by decide) hgr5); go_loud (have O5 : Hid (w5.ownsRow (w.heap.size + 2) 3 1 (.slice B5 ac.length c5) ac.length (ints ac)) := own_mono hown5.out (by have := hW2.out; omega)); go_loud (have s5 : w5.cell? ⟨w.heap.size, 0, none⟩ = some (.int .i64 sh) ∧ w5.cell? ⟨w.heap.size, 1, none⟩ = some (.int .i64 wi) ∧ w5.cell? ⟨w.heap.size, 2, none⟩ = some (.int .i64 ra) ∧ w5.cell? ⟨w.heap.size, 3, none⟩ = some (.int .i64 ta) ∧ w5.cell? ⟨w.heap.size, 4, none⟩ = some (.slice A nd.length c) ∧ w5.cell? ⟨w.heap.size, 5, none⟩ = some (.slice B ac.length d) := s_of kB5.out)))
    all_goals
      go_wp2_with fail
      go_meet
      first
        | (with_reducible exact end1 kB5.out kR5.out N5.out O5.out b5.out)
        | (with_reducible exact end2 kB5.out kR5.out N5.out O5.out b5.out kZ5.out (by have := hW2.out; omega))
  case rest =>
    obtain ⟨gO, A1, B5, c1, c5, rfl, hgO, kO, kB, kR, rN, rI, bl⟩ := hcut
    rename World => wS
    obtain ⟨j0, hj, hj0, hj1, hj2⟩ := info_parts psym_info
    go_wp2_with fail
    go_loopg [4] sy.length (fun g s4 w' => ∃ (j : Nat) (Ak : Option Addr) (ck : Nat), j + g = sy.length ∧ s4 = .int .i64 j ∧ Hid (Blk w' gO 39 #[.int .i64 sh, .int .i64 wi, .int .i64 ra, .int .i64 ta, .slice A1 nd.length c1, .slice B5 ac.length c5, .slice Ak j ck]) ∧ Hid (Blk w' w.heap.size 29 #[.int .i64 sh, .int .i64 wi, .int .i64 ra, .int .i64 ta, .slice A nd.length c, .slice B ac.length d, .slice C sy.length f]) ∧ Hid (Blk w' (w.heap.size + 1) 39 #[.int .i64 0, .int .i64 0, .int .i64 0, .int .i64 0, .slice none 0 0, .slice none 0 0, .slice none 0 0]) ∧ Hid (w'.ownsRow (w.heap.size + 2) 99 2 (.slice A1 nd.length c1) nd.length (nds nd)) ∧ Hid (w'.ownsRow (w.heap.size + 2) 3 1 (.slice B5 ac.length c5) ac.length (ints ac)) ∧ Hid (w'.ownsRow (w.heap.size + 2) 85 4 (.slice Ak j ck) j (smbs (sy.take j))) ∧ Below w.heap.size w w')
    case atStart => exact ⟨0, none, 0, by omega, rfl, kO, kB, kR, rN, rI, World.ownsRow_nil _ _ _ _, bl⟩
    case round =>
      obtain ⟨j, Ak, ck, hjg, rfl, hO, hB, hR, hN, hI, hS, hbl⟩ := hrel
      have f6 : wr.cell? ⟨w.heap.size, 6, none⟩ = some (.slice C sy.length f) := hB.out.cell 6
      have hgr := hO.out.lt
      have hwr := hR.out.lt
      by_cases hlt : (j : Int) < (sy.length : Int)
      · obtain ⟨g, rfl⟩ : ∃ g, gk = g + 1 := ⟨gk - 1, by omega⟩
        have hsw : Smb wr w.heap.size C sy := Rd.below hs.out hbl
        obtain ⟨b, o, hCe, hb, hcc⟩ := Smb.at (i := j) hsw (by omega)
        rw [hCe] at f6
        clear hCe
        obtain ⟨d0, d1, d2, d3⟩ := hcc j (by omega)
        have hpre : Hid (smbs (sy.take (j + 1)) = smbs (sy.take j) ++ [.int .i64 (sP sy j), .int .i64 (sQ sy j), .int .i64 (sW sy j), .float .f64 (sB sy j)]) := by show _ = _; rw [takeS_snoc (by omega), smbs_snoc]
        clear hcc hsw
        generalize sP sy j = xp at *
        generalize sQ sy j = xq at *
        generalize sW sy j = xw at *
        generalize sB sy j = xb at *
        have kS : Hid (Blk (wr.alloc (.cells #[.int .i64 xp, .int .i64 xq, .int .i64 xw, .float .f64 xb] 71)) wr.heap.size 71 #[.int .i64 xp, .int .i64 xq, .int .i64 xw, .float .f64 xb]) := Blk.fresh _ _ _
        have hO1 : Hid (Blk (wr.alloc (.cells #[.int .i64 xp, .int .i64 xq, .int .i64 xw, .float .f64 xb] 71)) gO 39 #[.int .i64 sh, .int .i64 wi, .int .i64 ra, .int .i64 ta, .slice A1 nd.length c1, .slice B5 ac.length c5, .slice Ak j ck]) := hO.out.alloc _
        have hB1 : Hid (Blk (wr.alloc (.cells #[.int .i64 xp, .int .i64 xq, .int .i64 xw, .float .f64 xb] 71)) w.heap.size 29 #[.int .i64 sh, .int .i64 wi, .int .i64 ra, .int .i64 ta, .slice A nd.length c, .slice B ac.length d, .slice C sy.length f]) := hB.out.alloc _
        have hR1 : Hid (Blk (wr.alloc (.cells #[.int .i64 xp, .int .i64 xq, .int .i64 xw, .float .f64 xb] 71)) (w.heap.size + 1) 39 #[.int .i64 0, .int .i64 0, .int .i64 0, .int .i64 0, .slice none 0 0, .slice none 0 0, .slice none 0 0]) := hR.out.alloc _
        have hN1 : Hid ((wr.alloc (.cells #[.int .i64 xp, .int .i64 xq, .int .i64 xw, .float .f64 xb] 71)).ownsRow (w.heap.size + 2) 99 2 (.slice A1 nd.length c1) nd.length (nds nd)) := World.ownsRow.alloc hN.out _
        have hI1 : Hid ((wr.alloc (.cells #[.int .i64 xp, .int .i64 xq, .int .i64 xw, .float .f64 xb] 71)).ownsRow (w.heap.size + 2) 3 1 (.slice B5 ac.length c5) ac.length (ints ac)) := World.ownsRow.alloc hI.out _
        have hS1 : Hid ((wr.alloc (.cells #[.int .i64 xp, .int .i64 xq, .int .i64 xw, .float .f64 xb] 71)).ownsRow (w.heap.size + 2) 85 4 (.slice Ak j ck) j (smbs (sy.take j))) := World.ownsRow.alloc hS.out _
        have hb1 : Hid (Below w.heap.size w (wr.alloc (.cells #[.int .i64 xp, .int .i64 xq, .int .i64 xw, .float .f64 xb] 71))) := below_up hbl _
        clear hO hB hR hN hI hS hbl
        go_upto_region 6 with fail
        generalize wr.alloc (.cells #[.int .i64 xp, .int .i64 xq, .int .i64 xw, .float .f64 xb] 71) = w1 at kS hO1 hB1 hR1 hN1 hI1 hS1 hb1 ⊢
        generalize wr.heap.size = gS at kS hgr hwr ⊢
        have s0 : w1.cell? ⟨gS, 0, none⟩ = some (.int .i64 xp) := kS.out.cell 0
        have s1 : w1.cell? ⟨gS, 1, none⟩ = some (.int .i64 xq) := kS.out.cell 1
        have s2 : w1.cell? ⟨gS, 2, none⟩ = some (.int .i64 xw) := kS.out.cell 2
        have s3 : w1.cell? ⟨gS, 3, none⟩ = some (.float .f64 xb) := kS.out.cell 3
        have v6 : w1.cell? ⟨gO, 6, none⟩ = some (.slice Ak j ck) := hO1.out.cell 6
        have hba : w.heap.size + 2 ≤ w1.heap.size := by have := hO1.out.lt; omega
        have h63 : j + 1 ≤ maxLen := by unfold maxLen; omega
        have hby : (j + 1) * 32 ≤ 140737488355328 := by omega
        go_wp2_with (at_builtin; refine wpList_app1G hS1 rfl _ _ _ rfl j0 (.agg #[.int .i64 0, .int .i64 0, .int .i64 0, .float .f64 0]) 32 Try.underlying37 hj hj0 hj1 hj2 rfl (by decide) rfl rfl rfl [.int .i64 xp, .int .i64 xq, .int .i64 xw, .float .f64 xb] rfl rfl (by simp [Value.oneCell']) h63 hby hba ?_; intro A2 c2 w2 hown2 hgr2; have hO2 := Lib.hid (Blk_grown (hO1.out.alloc _) hgr2 (Ne.symm (own_blk_ne hS1.out hO1.out (by decide)))); have z0 : w2.cell? ⟨gO, 6, none⟩ = some (.slice Ak j ck) := hO2.out.cell 6; have z1 : w2.frozen? ⟨gO, 6, none⟩ = false := hO2.out.thaw 6)
        have hB2 := Blk_grown (hB1.out.alloc _) hgr2 (Ne.symm (own_blk_ne hS1.out hB1.out (by decide)))
        have hR2 := Blk_grown (hR1.out.alloc _) hgr2 (Ne.symm (own_blk_ne hS1.out hR1.out (by decide)))
        have hN2 := own_own (World.ownsRow.alloc hN1.out _) (World.ownsRow.alloc hS1.out _) (by decide) hgr2
        have hI2 := own_own (World.ownsRow.alloc hI1.out _) (World.ownsRow.alloc hS1.out _) (by decide) hgr2
        have hb2 : Below w.heap.size w w2 := (below_up hb1.out _).grown hgr2 (by have := hb1.out.size; simp; omega) (fun q hq => by have := World.ownsRow.lt hS1.out q hq; omega)
        have hO3 : Hid (Blk (w2.setCell ⟨gO, 6, none⟩ (.slice A2 (j + 1) c2)) gO 39 #[.int .i64 sh, .int .i64 wi, .int .i64 ra, .int .i64 ta, .slice A1 nd.length c1, .slice B5 ac.length c5, .slice A2 (j + 1) c2]) := blk_set hO2.out 6 _
        have hB3 : Hid (Blk (w2.setCell ⟨gO, 6, none⟩ (.slice A2 (j + 1) c2)) w.heap.size 29 #[.int .i64 sh, .int .i64 wi, .int .i64 ra, .int .i64 ta, .slice A nd.length c, .slice B ac.length d, .slice C sy.length f]) := blk_far hB2 (by simp; omega) _
        have hR3 : Hid (Blk (w2.setCell ⟨gO, 6, none⟩ (.slice A2 (j + 1) c2)) (w.heap.size + 1) 39 #[.int .i64 0, .int .i64 0, .int .i64 0, .int .i64 0, .slice none 0 0, .slice none 0 0, .slice none 0 0]) := blk_far hR2 (by simp; omega) _
        have hN3 := Lib.hid (own_set1 hN2 hO2.out (by decide) 6 (.slice A2 (j + 1) c2))
        have hI3 := Lib.hid (own_set1 hI2 hO2.out (by decide) 6 (.slice A2 (j + 1) c2))
        have hS3 : Hid ((w2.setCell ⟨gO, 6, none⟩ (.slice A2 (j + 1) c2)).ownsRow (w.heap.size + 2) 85 4 (.slice A2 (j + 1) c2) (j + 1) (smbs (sy.take (j + 1)))) := by
          rw [hpre.out]
          exact own_set1 hown2.out hO2.out (by decide) 6 _
        have hb3 : Below w.heap.size w (w2.setCell ⟨gO, 6, none⟩ (.slice A2 (j + 1) c2)) := hb2.setCell (p := ⟨gO, 6, none⟩) (by show w.heap.size ≤ gO; omega) _
        clear hB2 hR2 hN2 hI2 hb2 hO2 hown2 hgr2 z0 z1
        go_wp2_with fail
        go_roundg g
        case measure => omega
        case rel => exact ⟨j + 1, A2, c2, by omega, by go_num, hO3, hB3, hR3, hN3, hI3, hS3, hb3⟩
      · have hjk : Hid (j = sy.length) := by show _ = _; omega
        have e0 := hO.out.cell 0
        have e1 := hO.out.cell 1
        have e2 := hO.out.cell 2
        have e3 := hO.out.cell 3
        have e4 := hO.out.cell 4
        have e5 := hO.out.cell 5
        have e6 := hO.out.cell 6
        obtain ⟨r0, r1, r2, r3, r4, r5, r6, y0, y1, y2, y3, y4, y5, y6⟩ := z_of hR.out
        simp only [List.getElem?_toArray, List.getElem?_cons_zero, List.getElem?_cons_succ] at e0 e1 e2 e3 e4 e5 e6
        obtain ⟨x0, x1, x2, x3, x4, x5, x6⟩ := st7_cells (a := .int .i64 sh) (b := .int .i64 wi) (c := .int .i64 ra) (d := .int .i64 ta) (e := .slice A1 nd.length c1) (f := .slice B5 ac.length c5) (h := .slice Ak j ck) hR.out
        have bF : Below w.heap.size w (st7 wr (w.heap.size + 1) (.int .i64 sh) (.int .i64 wi) (.int .i64 ra) (.int .i64 ta) (.slice A1 nd.length c1) (.slice B5 ac.length c5) (.slice Ak j ck)) := st7_below hbl (by omega)
        have NF := Lib.hid (Rd.of_own (own_st7 (qa := .int .i64 sh) (qb := .int .i64 wi) (qc := .int .i64 ra) (qd := .int .i64 ta) (qe := .slice A1 nd.length c1) (qf := .slice B5 ac.length c5) (qh := .slice Ak j ck) hN.out hR.out (by decide)))
        have UF := Lib.hid (Rd.of_own (own_st7 (qa := .int .i64 sh) (qb := .int .i64 wi) (qc := .int .i64 ra) (qd := .int .i64 ta) (qe := .slice A1 nd.length c1) (qf := .slice B5 ac.length c5) (qh := .slice Ak j ck) hI.out hR.out (by decide)))
        have SF : Hid (Smb (st7 wr (w.heap.size + 1) (.int .i64 sh) (.int .i64 wi) (.int .i64 ra) (.int .i64 ta) (.slice A1 nd.length c1) (.slice B5 ac.length c5) (.slice Ak j ck)) (st7 wr (w.heap.size + 1) (.int .i64 sh) (.int .i64 wi) (.int .i64 ra) (.int .i64 ta) (.slice A1 nd.length c1) (.slice B5 ac.length c5) (.slice Ak j ck)).heap.size Ak sy) := by
          have h := Rd.of_own (own_st7 (qa := .int .i64 sh) (qb := .int .i64 wi) (qc := .int .i64 ra) (qd := .int .i64 ta) (qe := .slice A1 nd.length c1) (qf := .slice B5 ac.length c5) (qh := .slice Ak j ck) hS.out hR.out (by decide))
          have e : sy.take j = sy := by rw [hjk.out, List.take_length]
          rw [e] at h
          exact h
        have hend := Lib.hid (madeCf_mk (sh := sh) (wi := wi) (ra := ra) (ta := ta) (c := c1) (d := c5) (f := ck) rfl rfl hjk.out NF.out UF.out SF.out bF)
        clear bF hO hB hR hN hI hS hbl
        go_wp2_with fail
        unfold st7 at x0 x1 x2 x3 x4 x5 x6 hend
        exact bodyPost_ret (v := .agg #[.int .i64 sh, .int .i64 wi, .int .i64 ra, .int .i64 ta, .slice A1 nd.length c1, .slice B5 ac.length c5, .slice Ak j ck]) (by simp [results, Try.results7, go_sem, x0, x1, x2, x3, x4, x5, x6]) rfl hend.out
end Go.Proofs.Ytkmkaidhpbjbnaa.Rul6
