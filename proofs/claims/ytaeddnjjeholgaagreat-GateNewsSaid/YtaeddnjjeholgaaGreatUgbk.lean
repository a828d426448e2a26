/- Texts side by side. -/
import Derived.Test.YtaeddnjjeholgaaGreatUgbj
set_option linter.unusedVariables false
set_option linter.unusedSimpArgs false
set_option maxRecDepth 100000
set_option maxHeartbeats 16000000
namespace Go.Proofs.YtaeddnjjeholgaaGreat
open Go.ChangeShapes Go.WideShapes Go.ChangeAt Go.RowKit Go.Lib Mem Cel Bkp Bks Hpa Gpl Gex Gxa
namespace Gxc
open Kap Lat Lax Gly Wpl Mdp Cfg Gow Gac Gat Gup Gma Gbe Gth Gmz Gsn Gsm Glp Gx1 Gx2 Gx3 Gx4 Gx5 Gre Gx6 Gx7 Gx8 Gx9 Gxb
theorem ac_tail {ρ : Nat → Nat} {w : World} {g0 g : Nat} {r : Aq} {a : Ap} {y : Acc} {t : List Acc} {m : Nat} (h : Ac ρ w g0 g r a) (ht : a.todo = y :: t) (hm : m = t.length) (A' : Option Addr) (c' : Nat) (hA' : (A' = Option.map (fun x => (⟨x.block, x.off + 1, none⟩ : Addr)) r.A ∧ c' = r.c - 1) ∨ (t.length = 0 ∧ c' = 0)) :
    Ac ρ (w.setCell ⟨g, 3, none⟩ (.slice A' m c')) g0 g { r with A := A', c := c', vs := r.vs.drop 1 } { a with todo := t } ∧ Fs (· = g + 8) ρ w ρ (w.setCell ⟨g, 3, none⟩ (.slice A' m c')) := by
  have f : Fs (· = g + 8) ρ w ρ (w.setCell ⟨g, 3, none⟩ (.slice A' m c')) := Fs.set _ _ _ _ _ _ h.own
  have o : Ot 118 w (w.setCell ⟨g, 3, none⟩ (.slice A' m c')) := Ot.set h.blk 3 _
  have htd := Tod.ot h.tod o f (by decide)
  have hac := h.acc.mono fun x v k => k.fs f (by omega)
  have hpu := Pua.ot h.pu o f (by omega) (by decide) (by decide) (by decide)
  have hb := blk_set h.blk 3 (.slice A' m c')
  rw [ht] at htd hac
  generalize hvs : r.vs = vs at htd hac
  cases hac with
  | cons h1 h2 =>
    rename_i v us
    obtain ⟨b, i, hA, _, _, hk⟩ := Tod.tail htd
    refine ⟨⟨?_, h.own, ?_, ?_, hpu⟩, f⟩
    · have e : ∀ us', acV g0 { r with A := A', c := c', vs := us' } { a with todo := t } = (acV g0 r a).setIfInBounds 3 (.slice A' m c') := fun us' => by rw [hm]; rfl
      rw [e]; exact hb
    · exact hk A' c' (hA'.imp (fun hA' => ⟨by rw [hA'.1, hA]; rfl, hA'.2⟩) id)
    · exact h2
theorem tod_cap {ρ : Nat → Nat} {w : World} {j n c : Nat} {A : Option Addr} {vs : List Value} (h : Tod ρ w j A n c vs) : n ≤ c := by
  obtain ⟨_, h | ⟨_, _, _, _, _, _, h, _⟩⟩ := h
  · omega
  · exact h
theorem ac_none {ρ : Nat → Nat} {w : World} {g0 g : Nat} {r : Aq} {a : Ap} (h : Ac ρ w g0 g r a) (ht : a.todo = []) :
    Ac ρ (w.setCell ⟨g, 3, none⟩ (.slice none 0 0)) g0 g { r with A := none, c := 0, vs := [] } a ∧ Fs (· = g + 8) ρ w ρ (w.setCell ⟨g, 3, none⟩ (.slice none 0 0)) := by
  have f : Fs (· = g + 8) ρ w ρ (w.setCell ⟨g, 3, none⟩ (.slice none 0 0)) := Fs.set _ _ _ _ _ _ h.own
  have o : Ot 118 w (w.setCell ⟨g, 3, none⟩ (.slice none 0 0)) := Ot.set h.blk 3 _
  refine ⟨⟨?_, h.own, ?_, ?_, Pua.ot h.pu o f (by omega) (by decide) (by decide) (by decide)⟩, f⟩
  · have e : acV g0 { r with A := none, c := 0, vs := [] } a = (acV g0 r a).setIfInBounds 3 (.slice none 0 0) := by unfold acV; rw [ht]; rfl
    rw [e]; exact blk_set h.blk 3 _
  · rw [ht]; exact Tod.nil
  · rw [ht]; exact .nil
theorem step_no {G G1 : Gp} {a a1 : Ap} {x : Acc} {l : List Acc} (hx : a.todo = x :: l) (he : accF G a x = (false, G1, a1)) (h : 0 < a1.todo.length) : stepA G a = (false, G1, a1) := by
  unfold stepA
  rw [hx]
  simp only [he, Bool.false_eq_true, if_false]
  rw [if_pos h]
theorem step_go {G G1 : Gp} {a a1 : Ap} {x y : Acc} {l t : List Acc} (hx : a.todo = x :: l) (he : accF G a x = (true, G1, a1)) (ht : a1.todo = y :: t) (h : 0 < t.length) : stepA G a = (false, G1, { a1 with todo := t }) := by
  unfold stepA
  rw [hx]
  simp only [he, if_true, ht, List.drop_succ_cons, List.drop_zero]
  rw [if_pos h]
theorem step_end {G G1 : Gp} {a a1 : Ap} {x y : Acc} {l : List Acc} (hx : a.todo = x :: l) (he : accF G a x = (true, G1, a1)) (ht : a1.todo = [y]) : stepA G a = (true, endG G1 a.place a1.c a1.d, { a1 with todo := [] }) := by
  unfold stepA
  rw [hx]
  simp only [he, if_true, ht, List.drop_succ_cons, List.drop_zero]
  rfl
theorem step0_any (base : Nat) (ρ : Nat → Nat) (q : Gq) (r : Aq) (g0 g : Nat) (G : Gp) (a : Ap) (w : World) (HG : Hid (Gt base ρ w g0 q G)) (ha : Hid (Ac ρ w g0 g r a)) (h0 : a.todo = []) :
    Calls Tryz.prog 18 #[pv g] w (MadeC base ρ g0 g r.gp w (.bool true) G a) := by
  have OV := over_any ρ g0 g r a w ha
  rw [h0, show decide (([] : List Acc).length = 0) = true from rfl] at OV
  go_enter Tryz.func18, Tryz.ntmps18
  go_wp2_with fail
  refine OV.mono ?_
  rintro e w2 ⟨rfl, rfl⟩
  go_wp2_with fail
  go_ret
  exact ⟨rfl, ρ, q, r, Fs.refl _ _ _, HG.out, ha.out, rfl⟩
theorem step_any (base : Nat) (ρ : Nat → Nat) (q : Gq) (r : Aq) (g0 g : Nat) (x : Acc) (l : List Acc) (G G1 : Gp) (a a1 : Ap) (ok : Bool) (w : World) (HG : Hid (Gt base ρ w g0 q G)) (ha : Hid (Ac ρ w g0 g r a)) (hx : a.todo = x :: l) (ok0 : OkX G a x) (hset : ∀ y f id z s, x ≠ .aft y (.settle f id z s)) (he : accF G a x = (ok, G1, a1)) (h1 : 0 < a1.todo.length) (h2 : a1.todo.length ≤ 1000000)
    (hE : ok = true → a1.todo.length = 1 → Vs G1 ∧ 0 ≤ a1.place ∧ a1.place.toNat < G1.log.length ∧ G1.log.length ≤ 1000000) (hp : a1.place = a.place) :
    Calls Tryz.prog 18 #[pv g] w (MadeC base ρ g0 g r.gp w (.bool (stepA G a).1) (stepA G a).2.1 (stepA G a).2.2) := by
  have OV := over_any ρ g0 g r a w ha
  have AX := fun vx hx => acc_any (w := w) x vx HG ha hx hset ok0
  rw [he] at AX
  have t3 := Ac.c3 ha.out
  have HA := ha.out.acc
  have HT := ha.out.tod
  rw [hx] at OV t3 HA HT
  obtain ⟨v, vs, hvs, hv, _⟩ : ∃ v vs, r.vs = v :: vs ∧ IsAcc ρ w g0 g r.gp x v ∧ Are (IsAcc ρ w g0 g r.gp) l vs := by
    generalize r.vs = us at HA
    cases HA with
    | cons h t => exact ⟨_, _, rfl, h, t⟩
  rw [hvs] at HT
  obtain ⟨b, o, hA, hcell, hnc, _⟩ := Tod.tail HT
  obtain ⟨k, cap, rfl, pk, hc⟩ := AX v hv
  rw [hA] at t3
  obtain ⟨⟨sb, sg, sa⟩, hst⟩ : ∃ y, y = stepA G a := ⟨_, rfl⟩
  rw [← hst]
  have SE := κ hst
  have HX := κ hx
  have HE := κ he
  clear AX HA HT hst
  rw [show decide ((x :: l).length = 0) = false from rfl] at OV
  simp only [List.length_cons] at t3
  clear hx ok0 hset he
  go_enter Tryz.func18, Tryz.ntmps18
  go_wp2_with fail
  refine OV.mono ?_
  rintro e w2 ⟨rfl, rfl⟩
  go_wp2_with fail
  rw [pk]
  refine hc.mono ?_
  rintro e w3 ⟨rfl, ρ3, q3, r3, f3, G3, A3, h3⟩
  obtain ⟨n, hn⟩ : ∃ n, n = a1.todo.length := ⟨_, rfl⟩
  have u3 : w3.cell? (α g 3) = some (.slice r3.A n r3.c) := by rw [hn]; exact Ac.c3 A3
  have z3 := Ac.z A3 3
  rw [← hn] at h1 h2 hE
  have HN := κ hn
  replace G3 := κ G3
  replace A3 := κ A3
  replace f3 := κ f3
  replace h3 := κ h3
  replace hE := κ hE
  replace hp := κ hp
  clear hn hA hcell hnc t3 OV pk hc hv hvs
  cases ok with
  | false =>
    go_wp2_with fail
    go_ret
    have e := SE.out
    rw [step_no HX.out HE.out (by rw [← HN.out]; exact h1)] at e
    cases e
    exact ⟨rfl, ρ3, q3, r3, f3.out, G3.out, A3.out, h3.out⟩
  | true =>
    obtain ⟨y, t, ht⟩ : ∃ y t, a1.todo = y :: t := by
      cases e : a1.todo with
      | nil => rw [HN.out, e] at h1; cases h1
      | cons y t => exact ⟨y, t, rfl⟩
    have HTD := κ ht
    have hnt : Hid (n = t.length + 1) := κ (by rw [HN.out, ht]; rfl)
    clear ht
    have hcap : n ≤ r3.c := by rw [HN.out]; exact tod_cap A3.out.tod
    by_cases h2n : n = 1
    · subst h2n
      obtain ⟨c, hc, hcc⟩ : ∃ c, r3.c = c ∧ (c = 1 ∨ ∃ d, c = d + 2) := ⟨_, rfl, by rcases Nat.lt_or_ge r3.c 2 with h | h; exact .inl (by omega); exact .inr ⟨r3.c - 2, by omega⟩⟩
      rw [hc] at u3
      replace hc := κ hc
      clear hcap
      rcases hcc with rfl | ⟨d, rfl⟩
      · go_wp2_with fail
        have htn : t = [] := List.eq_nil_of_length_eq_zero (by have := hnt.out; omega)
        subst htn
        obtain ⟨TL, FL⟩ := ac_tail (m := 0) A3.out HTD.out rfl (r3.A) (0) (.inr ⟨rfl, rfl⟩)
        obtain ⟨TN, FN⟩ := ac_none TL rfl
        have F4 : Hid (Fs (· = g + 8) ρ3 w3 ρ3 _) := κ (FL.trans FN)
        have G4 := κ (Gt.fs G3.out F4.out (fun k hk => G3.out.new k (Nat.le_trans F4.out.size hk)) (by omega))
        have A4 := κ TN
        have e := SE.out
        rw [step_end HX.out HE.out HTD.out] at e
        cases e
        obtain ⟨hV, p0, p1, p2⟩ := hE.out trivial trivial
        have hp := hp.out
        rw [hp] at p0 p1
        clear TL FL TN FN u3 z3 hE hnt
        generalize (w3.setCell _ _).setCell _ _ = w5 at F4 G4 A4 ⊢
        obtain ⟨pn, hpn⟩ : ∃ i : Nat, a.place = (i : Int) := ⟨a.place.toNat, (Int.toNat_of_nonneg p0).symm⟩
        rw [hpn] at hp p1 ⊢
        replace HG := HG
        have b5 : Below w5.heap.size w5 w5.drew := (Below.refl _ _).drew
        have GD := κ (Gt.ext G4.out b5)
        have AD := κ (Ac.ext A4.out b5)
        have FD : Hid (Fs (· = g + 8) ρ3 w3 ρ3 w5.drew) := κ (F4.out.trans (Fs.quiet b5))
        let T : World → Prop := fun w' => w'.cell? (α g 0) = some (.pointer (some (α g0 0))) ∧ w'.cell? (α g 2) = some (ι (pn : Int)) ∧ w'.cell? (α g 4) = some (ι a1.c) ∧ w'.cell? (α g 5) = some (ι a1.d)
        have c2 := (Ac.c2 AD.out :)
        rw [show ({ a1 with todo := [] } : Ap).place = (pn : Int) from hp] at c2
        have HT : Hid (T w5.drew) := κ ⟨Ac.c0 AD.out, c2, (Ac.c4 AD.out :), (Ac.c5 AD.out :)⟩
        have CE := end_any base ρ3 q3 g0 pn a1.c a1.d G1 w5.drew GD hV p1 p2
        clear b5 c2
        replace hp := κ hp
        replace hpn := κ hpn
        go_upto_region 8 with fail
        refine Ω T [] ?_
        generalize w5.drew = wd at GD AD FD HT CE ⊢
        refine jA 0 HT.out ?_
        refine jA 1 HT.out ?_
        refine jA 2 HT.out ?_
        refine jB 3 HT.out ?_
        refine jA 4 HT.out ?_
        refine jA 5 HT.out ?_
        refine jA 6 HT.out ?_
        refine jB 7 HT.out ?_
        refine jA 8 HT.out ?_
        refine jA 9 HT.out ?_
        refine jA 10 HT.out ?_
        refine jB 11 HT.out ?_
        refine jN 12 fun K' hK => ?_
        go_simp
        refine CE.mono ?_
        rintro e w6 ⟨rfl, g6, f6⟩
        have H6 : Hid (T w6) := κ ⟨ce f6 HT.out.1 AD.out.own (by omega), ce f6 HT.out.2.1 AD.out.own (by omega), ce f6 HT.out.2.2.1 AD.out.own (by omega), ce f6 HT.out.2.2.2 AD.out.own (by omega)⟩
        have A6 := Ac.fs AD.out f6 (by omega) (by decide)
        refine hK.out _ _ H6.out ?_
        clear hK K'
        refine jP ?_
        refine Δ ?_
        go_wp2_with fail
        go_ret
        exact ⟨rfl, ρ3, q3, _, (f3.out.trans (FD.out.mono fun i h => .inr h)).trans (f6.mono fun i h => .inl (by omega)), by rw [hpn.out]; exact g6, A6, h3.out⟩
      · go_wp2_with fail
        have htn : t = [] := List.eq_nil_of_length_eq_zero (by have := hnt.out; omega)
        subst htn
        obtain ⟨TL, FL⟩ := ac_tail (m := 0) A3.out HTD.out rfl (Option.map (fun x => (⟨x.block, x.off + 1, none⟩ : Addr)) r3.A) (d + 1) (.inl ⟨rfl, by rw [hc.out]; rfl⟩)
        obtain ⟨TN, FN⟩ := ac_none TL rfl
        have F4 : Hid (Fs (· = g + 8) ρ3 w3 ρ3 _) := κ (FL.trans FN)
        have G4 := κ (Gt.fs G3.out F4.out (fun k hk => G3.out.new k (Nat.le_trans F4.out.size hk)) (by omega))
        have A4 := κ TN
        have e := SE.out
        rw [step_end HX.out HE.out HTD.out] at e
        cases e
        obtain ⟨hV, p0, p1, p2⟩ := hE.out trivial trivial
        have hp := hp.out
        rw [hp] at p0 p1
        clear TL FL TN FN u3 z3 hE hnt
        generalize (w3.setCell _ _).setCell _ _ = w5 at F4 G4 A4 ⊢
        obtain ⟨pn, hpn⟩ : ∃ i : Nat, a.place = (i : Int) := ⟨a.place.toNat, (Int.toNat_of_nonneg p0).symm⟩
        rw [hpn] at hp p1 ⊢
        replace HG := HG
        have b5 : Below w5.heap.size w5 w5.drew := (Below.refl _ _).drew
        have GD := κ (Gt.ext G4.out b5)
        have AD := κ (Ac.ext A4.out b5)
        have FD : Hid (Fs (· = g + 8) ρ3 w3 ρ3 w5.drew) := κ (F4.out.trans (Fs.quiet b5))
        let T : World → Prop := fun w' => w'.cell? (α g 0) = some (.pointer (some (α g0 0))) ∧ w'.cell? (α g 2) = some (ι (pn : Int)) ∧ w'.cell? (α g 4) = some (ι a1.c) ∧ w'.cell? (α g 5) = some (ι a1.d)
        have c2 := (Ac.c2 AD.out :)
        rw [show ({ a1 with todo := [] } : Ap).place = (pn : Int) from hp] at c2
        have HT : Hid (T w5.drew) := κ ⟨Ac.c0 AD.out, c2, (Ac.c4 AD.out :), (Ac.c5 AD.out :)⟩
        have CE := end_any base ρ3 q3 g0 pn a1.c a1.d G1 w5.drew GD hV p1 p2
        clear b5 c2
        replace hp := κ hp
        replace hpn := κ hpn
        go_upto_region 8 with fail
        refine Ω T [] ?_
        generalize w5.drew = wd at GD AD FD HT CE ⊢
        refine jA 0 HT.out ?_
        refine jA 1 HT.out ?_
        refine jA 2 HT.out ?_
        refine jB 3 HT.out ?_
        refine jA 4 HT.out ?_
        refine jA 5 HT.out ?_
        refine jA 6 HT.out ?_
        refine jB 7 HT.out ?_
        refine jA 8 HT.out ?_
        refine jA 9 HT.out ?_
        refine jA 10 HT.out ?_
        refine jB 11 HT.out ?_
        refine jN 12 fun K' hK => ?_
        go_simp
        refine CE.mono ?_
        rintro e w6 ⟨rfl, g6, f6⟩
        have H6 : Hid (T w6) := κ ⟨ce f6 HT.out.1 AD.out.own (by omega), ce f6 HT.out.2.1 AD.out.own (by omega), ce f6 HT.out.2.2.1 AD.out.own (by omega), ce f6 HT.out.2.2.2 AD.out.own (by omega)⟩
        have A6 := Ac.fs AD.out f6 (by omega) (by decide)
        refine hK.out _ _ H6.out ?_
        clear hK K'
        refine jP ?_
        refine Δ ?_
        go_wp2_with fail
        go_ret
        exact ⟨rfl, ρ3, q3, _, (f3.out.trans (FD.out.mono fun i h => .inr h)).trans (f6.mono fun i h => .inl (by omega)), by rw [hpn.out]; exact g6, A6, h3.out⟩
    · obtain ⟨m, rfl⟩ : ∃ m, n = m + 2 := ⟨n - 2, by omega⟩
      clear h2n
      obtain ⟨c, hc⟩ : ∃ c, r3.c = m + 2 + c := ⟨r3.c - (m + 2), by omega⟩
      rw [hc] at u3
      replace hc := κ hc
      clear hcap
      go_wp2_with fail
      go_ret
      have e := SE.out
      have hnt := hnt.out
      rw [step_go HX.out HE.out HTD.out (by omega)] at e
      cases e
      obtain ⟨TL, FL⟩ := ac_tail (m := m + 1) A3.out HTD.out (by omega) (Option.map (fun x => (⟨x.block, x.off + 1, none⟩ : Addr)) r3.A) (m + 1 + c) (.inl ⟨rfl, by rw [hc.out]; omega⟩)
      exact ⟨rfl, ρ3, q3, _, f3.out.trans (FL.mono fun i h => .inr h), Gt.fs G3.out FL (fun k hk => G3.out.new k (Nat.le_trans FL.size hk)) (by omega), TL, h3.out⟩
end Gxc
namespace Gfi
open Kap Lat Lax Gly Wpl Mdp Cfg Gow Gac Gat Gup Gma Gbe Gth Gmz Gsn Gsm Gx5 Gx8 Gx9 Gxb Gxc
def Pre (G : Gp) (a : Ap) : Prop := ∃ x l, a.todo = x :: l ∧ OkX G a x ∧ (∀ y f id z s, x ≠ .aft y (.settle f id z s)) ∧ 0 < (accF G a x).2.2.todo.length ∧ (accF G a x).2.2.todo.length ≤ 1000000 ∧ (accF G a x).2.2.place = a.place ∧
  ((accF G a x).1 = true → (accF G a x).2.2.todo.length = 1 → Vs (accF G a x).2.1 ∧ 0 ≤ (accF G a x).2.2.place ∧ (accF G a x).2.2.place.toNat < (accF G a x).2.1.log.length ∧ (accF G a x).2.1.log.length ≤ 1000000)
theorem pre_any {base : Nat} {ρ : Nat → Nat} {q : Gq} {r : Aq} {g0 g : Nat} {G : Gp} {a : Ap} {w : World} (HG : Hid (Gt base ρ w g0 q G)) (ha : Hid (Ac ρ w g0 g r a)) (h : Pre G a) :
    Calls Tryz.prog 18 #[pv g] w (MadeC base ρ g0 g r.gp w (.bool (stepA G a).1) (stepA G a).2.1 (stepA G a).2.2) := by
  obtain ⟨x, l, h0, h1, h2, h3, h4, h5, h6⟩ := h
  exact step_any base ρ q r g0 g x l G _ a _ _ w HG ha h0 h1 h2 rfl h3 h4 h6 h5
inductive Fin' : Nat → Gp → Ap → Gp → Ap → Prop where
  | done {G : Gp} {a : Ap} (h : a.todo = []) : Fin' 0 G a G a
  | last {G G' : Gp} {a a' : Ap} (h : Pre G a) (e : stepA G a = (true, G', a')) : Fin' 0 G a G' a'
  | go {n : Nat} {G G1 G' : Gp} {a a1 a' : Ap} (h : Pre G a) (e : stepA G a = (false, G1, a1)) (t : Fin' n G1 a1 G' a') : Fin' (n + 1) G a G' a'
theorem finish_any (base : Nat) (ρ : Nat → Nat) (q : Gq) (r : Aq) (g0 g n : Nat) (G G' : Gp) (a a' : Ap) (w : World) (HG : Hid (Gt base ρ w g0 q G)) (ha : Hid (Ac ρ w g0 g r a)) (hf : Fin' n G a G' a') (hn : n ≤ 4000) (ht : a'.todo = []) :
    Calls Tryz.prog 23 #[pv g] w (MadeC base ρ g0 g r.gp w (.bool true) G' a') := by
  have HF := κ hf
  have HTD := κ ht
  clear hf ht
  go_enter Tryz.func23, Tryz.ntmps23
  go_upto_region 2 with fail
  go_loopg [3] 4096 (fun gk s3 w' => ∃ (j m : Nat) (ρj : Nat → Nat) (qj : Gq) (rj : Aq) (Gj : Gp) (aj : Ap), j + gk = 4096 ∧ j + m ≤ 4000 ∧ s3 = .int .i64 j ∧ Hid (Fs (CC g) ρ w ρj w') ∧ Hid (Gt base ρj w' g0 qj Gj) ∧ Hid (Ac ρj w' g0 g rj aj) ∧ Hid (rj.gp = r.gp) ∧ Hid (Fin' m Gj aj G' a'))
  case atStart => exact ⟨0, n, ρ, q, r, G, a, by omega, by omega, rfl, κ (Fs.refl _ _ _), HG, ha, κ rfl, HF⟩
  case round =>
    obtain ⟨j, m, ρj, qj, rj, Gj, aj, hjk, hjm, rfl, Fj, Hg, Ha, Hp, Hf⟩ := hrel
    clear HG ha HF
    obtain ⟨g8, rfl⟩ : ∃ g8, gk = g8 + 1 := ⟨gk - 1, by omega⟩
    have t0 : decide ((j : Int) < 4096) = true := by simp; omega
    have FIN : Hid (∀ ρ2 q2 r2 w2, Fs (CC g) ρj wr ρ2 w2 → Gt base ρ2 w2 g0 q2 G' → Ac ρ2 w2 g0 g r2 a' → r2.gp = rj.gp → MadeC base ρ g0 g r.gp w (.bool true) G' a' (.returned (.bool true)) w2) := κ fun ρ2 q2 r2 w2 f2 h2 a2 p2 => ⟨rfl, ρ2, q2, r2, Fj.out.trans f2, h2, a2, p2.trans Hp.out⟩
    have ST : (∃ G2 a2, Hid (m = m) ∧ Hid ((Fin' (m - 1) G2 a2 G' a' ∧ 1 ≤ m)) ∧ Calls Tryz.prog 18 #[pv g] wr (MadeC base ρj g0 g rj.gp wr (.bool false) G2 a2)) ∨ Calls Tryz.prog 18 #[pv g] wr (MadeC base ρj g0 g rj.gp wr (.bool true) G' a') := by
      have h := Hf.out
      cases h with
      | done h => exact .inr (step0_any base ρj qj rj g0 g G' a' wr Hg Ha h)
      | last h e => exact .inr (by have := pre_any Hg Ha h; rw [e] at this; exact this)
      | go h e t => exact .inl ⟨_, _, κ rfl, κ ⟨t, by omega⟩, by have := pre_any Hg Ha h; rw [e] at this; exact this⟩
    rcases ST with ⟨G2, a2, _, HM, hc⟩ | hc
    · go_wp2_with fail
      refine hc.mono ?_
      rintro e w2 ⟨rfl, ρ2, q2, r2, f2, g2, A2, p2⟩
      have F2 := κ (Fj.out.trans f2)
      have g2 := κ g2
      have A2 := κ A2
      have p2 := κ (p2.trans Hp.out)
      clear hc f2 Fj Hg Ha Hp Hf FIN
      go_wp2_with fail
      go_roundg g8
      case measure => omega
      case rel => exact ⟨j + 1, m - 1, ρ2, q2, r2, G2, a2, by omega, by have := HM.out.2; omega, by rw [Int.natCast_add]; rfl, F2, g2, A2, p2, κ HM.out.1⟩
    · go_wp2_with fail
      refine hc.mono ?_
      rintro e w2 ⟨rfl, ρ2, q2, r2, f2, g2, A2, p2⟩
      have HX := κ (FIN.out ρ2 q2 r2 w2 f2 g2 A2 p2)
      have OV := over_any ρ2 g0 g r2 a' w2 (κ A2)
      rw [HTD.out, show decide (([] : List Acc).length = 0) = true from rfl] at OV
      clear hc f2 Fj Hg Ha Hp Hf FIN g2 A2 p2
      go_wp2_with fail
      refine OV.mono ?_
      rintro e w3 ⟨rfl, rfl⟩
      go_wp2_with fail
      go_ret
      exact HX.out
end Gfi
namespace Gfg
open Gxc Gfi
variable {G G1 G' : Gp} {a a1 a' : Ap} {x : Acc} {rest rest1 : List Acc} {n : Nat}
theorem fin_go (ht : a.todo = x :: rest) (hx : OkX G a x) (hs : ∀ y f id z s, x ≠ .aft y (.settle f id z s)) (he : accF G a x = (true, G1, a1)) (h1 : a1.todo = x :: rest1) (h2 : 0 < rest1.length) (h3 : rest1.length ≤ 900000) (hp : a1.place = a.place) (t : Fin' n G1 { a1 with todo := rest1 } G' a') : Fin' (n + 1) G a G' a' := by
  refine .go ⟨x, rest, ht, hx, hs, ?_, ?_, ?_, ?_⟩ (step_go ht he h1 h2) t
  · rw [he]; show 0 < a1.todo.length; rw [h1]; exact Nat.succ_pos _
  · rw [he]; show a1.todo.length ≤ _; rw [h1, List.length_cons]; omega
  · rw [he]; exact hp
  · rw [he]; intro _ h; have h : a1.todo.length = 1 := h; rw [h1, List.length_cons] at h; omega
theorem fin_last (ht : a.todo = x :: rest) (hx : OkX G a x) (hs : ∀ y f id z s, x ≠ .aft y (.settle f id z s)) (he : accF G a x = (true, G1, a1)) (h1 : a1.todo = [x]) (hp : a1.place = a.place) (hv : Vs G1) (p0 : 0 ≤ a.place) (p1 : a.place.toNat < G1.log.length) (p2 : G1.log.length ≤ 1000000) : Fin' 0 G a (endG G1 a.place a1.c a1.d) { a1 with todo := [] } := by
  refine .last ⟨x, rest, ht, hx, hs, ?_, ?_, ?_, ?_⟩ (Gxc.step_end ht he h1)
  · rw [he]; show 0 < a1.todo.length; rw [h1]; exact Nat.succ_pos _
  · rw [he]; show a1.todo.length ≤ _; rw [h1]; show 1 ≤ 1000000; omega
  · rw [he]; exact hp
  · rw [he]; intro _ _; show Vs G1 ∧ 0 ≤ a1.place ∧ a1.place.toNat < G1.log.length ∧ _; rw [hp]; exact ⟨hv, p0, p1, p2⟩
end Gfg
end Go.Proofs.YtaeddnjjeholgaaGreat
