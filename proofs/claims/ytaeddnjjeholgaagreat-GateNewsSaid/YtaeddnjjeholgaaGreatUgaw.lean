/- Texts side by side. -/
import Derived.Test.YtaeddnjjeholgaaGreatUgav
set_option linter.unusedVariables false
set_option linter.unusedSimpArgs false
set_option maxRecDepth 100000
set_option maxHeartbeats 16000000
namespace Go.Proofs.YtaeddnjjeholgaaGreat
open Kap Lat Lax Go.ChangeShapes Go.WideShapes Go.ChangeAt Go.RowKit Go.Lib Mem Cel Bkp Bks Wpl Hpa Gpl Mdp Cfg Gow Gac Gat Gup Gex Gth Gmz Gsn Gsm
namespace Glp
theorem thenA_app (a : Ap) (l m : List Acc) : thenA (thenA a l) m = thenA a (l ++ m) := by simp [thenA, List.append_assoc]
theorem thenA_nil (a : Ap) : thenA a [] = a := by simp [thenA]
theorem map_take {f : Int → Acc} {xs : List Int} {k : Nat} (h : k < xs.length) : (xs.take k).map f ++ [f (gI xs k)] = (xs.take (k + 1)).map f := by
  rw [List.take_succ_eq_append_getElem h, List.map_append]
  congr 1
  simp [gI, h]
theorem len_then (a : Ap) (l : List Acc) : (thenA a l).todo.length = a.todo.length + l.length := by simp [thenA]
theorem takeNodes_any (base : Nat) (ρ : Nat → Nat) (q : Gq) (r : Aq) (g0 g gp : Nat) (G : Gp) (a : Ap) (w : World) (HG : Hid (Gt base ρ w g0 q G)) (ha : Hid (Ac ρ w g0 g r a)) (hgp : r.gp = some gp) (hp : Hid (∀ k, k < a.pu.path.length → 0 ≤ gI a.pu.path k ∧ gI a.pu.path k ≤ 400)) (hl : a.pu.path.length ≤ 1000) (hmax : a.todo.length ≤ 100000) (s0 : 0 ≤ G.sh) (s1 : G.sh ≤ 1000) :
    Calls Tryz.prog 110 #[pv g, pv gp] w (MadeT base ρ q g0 g r.gp w (.tuple #[]) G (thenA a (a.pu.path.map (fun n => .one (.take (ndL G n)))))) := by
  have hmf := Gmk.make_f
  obtain ⟨kP, oP, rP, _⟩ := ha.out.pu gp hgp
  have c1 : w.cell? ⟨gp, 1, none⟩ = some (.slice r.Ap a.pu.path.length r.cp) := kP.cell 1
  have RP : Hid (Ro0 ρ w r.Ap (ints a.pu.path)) := κ rP
  have HGP := κ hgp
  obtain ⟨n, hn⟩ : ∃ n, n = a.pu.path.length := ⟨_, rfl⟩
  rw [← hn] at c1 hl
  have HN := κ hn
  clear hn kP oP rP hgp
  go_enter Tryz.func110, Tryz.ntmps110
  go_wp2_with fail
  go_loopg [11] n (fun gk s11 w' => ∃ (j : Nat) (ρj : Nat → Nat) (rj : Aq), j + gk = n ∧ s11 = .int .i64 j ∧ Hid (Gt base ρj w' g0 q G) ∧ Hid (Ac ρj w' g0 g rj (thenA a ((a.pu.path.take j).map (fun n => .one (.take (ndL G n)))))) ∧ Hid (Fs (· = g + 8) ρ w ρj w') ∧ Hid (rj.gp = r.gp) ∧ Hid (Ro0 ρj w' r.Ap (ints a.pu.path)))
  case atStart => exact ⟨0, ρ, r, by omega, rfl, HG, κ (by simpa [thenA_nil] using ha.out), (κ (Fs.refl _ _ _)), κ rfl, RP⟩
  case round =>
    obtain ⟨j, ρj, rj, hg0, rfl, Hg, Ha, Ff, Hr, Hp⟩ := hrel
    by_cases hlt : j < n
    · obtain ⟨gk', rfl⟩ : ∃ x, gk = x + 1 := ⟨gk - 1, by omega⟩
      have t0 : decide ((j : Int) < (n : Int)) = true := by simp; omega
      have hjl : j < a.pu.path.length := by rw [← HN.out]; exact hlt
      obtain ⟨b, o, hA, hb, hcc⟩ := Ris.at (i := j) Hp.out.1 hjl
      have hc := hcc j hjl
      obtain ⟨h0, h1⟩ := hp.out j hjl
      have HAP := κ hA
      have hsl : (Value.slice r.Ap n r.cp) = .slice (some ⟨b, o, none⟩) n r.cp := by rw [hA]
      have HX : Hid (∃ x, x = gI a.pu.path j) := κ ⟨_, rfl⟩
      obtain ⟨x, hx⟩ := HX.out
      rw [← hx] at hc h0 h1
      have HXE := κ hx
      have HJL := κ hjl
      clear hcc hx hb hA HX hjl
      have c0 := Ac.c0 Ha.out
      simp only [hsl]
      clear hsl
      go_wp2_with fail
      refine (nodeLatch_any base ρj q g0 x G wr Hg h0 (by omega) s0 s1).mono ?_
      rintro e w9 ⟨rfl, rfl⟩
      go_wp2_with fail
      refine (take_acc g0 rj.gp Hg.out.new (ndL G x)).mono ?_
      rintro e w1 ⟨k, cap, rfl, hi, hb1⟩
      have b2 := β w1 (.cells #[.func (.func k) #[] cap] 126)
      have bb := Cel.below_step hb1 b2
      have G2 := κ (Gt.ext Hg.out bb)
      have A2 := κ (Ac.ext Ha.out bb)
      have P2 := κ (Ro0.fs Hp.out (fx bb) id)
      have F2 := κ (Ff.out.trans (Fs.quiet bb))
      have L2 : Hid (Are (IsAcc ρj (w1.alloc (.cells #[.func (.func k) #[] cap] 126)) g0 g rj.gp) [(.one (.take (ndL G x)))] [.func (.func k) #[] cap]) := κ (.cons (IsAcc.ext hi b2) .nil)
      have K2 := κ (Blk.fresh w1 126 #[.func (.func k) #[] cap])
      have l9 : Hid ((thenA a ((a.pu.path.take j).map (fun n => .one (.take (ndL G n))))).todo.length + 1 ≤ 1000000) := κ (by rw [len_then, List.length_map, List.length_take]; omega)
      clear hi hb1 b2 bb
      go_wp2_with fail
      generalize w1.alloc (.cells #[.func (.func k) #[] cap] 126) = w2 at G2 A2 P2 F2 L2 K2 ⊢
      refine (then_any base ρj q rj g0 g w1.heap.size 1 G _ _ _ w2 G2 A2 K2 L2 (κ rfl) (by decide) l9.out).mono ?_
      rintro e w3 ⟨rfl, ρ3, r3, f3, G3, A3, p3⟩
      have P3 := κ (Ro0.fs P2.out f3 (by omega))
      have F3 := κ (Fs.trans F2.out f3)
      have G3 := κ G3
      have A3 := κ A3
      have p3 := κ p3
      clear f3 c0
      go_wp2_with fail
      simp only [← HAP.out]
      go_roundg gk'
      case measure => omega
      case rel => exact ⟨j + 1, ρ3, r3, by omega, by rw [Int.natCast_add]; rfl, G3, κ (by have h9 := A3.out; rw [thenA_app, HXE.out, map_take (f := (fun n => .one (.take (ndL G n)))) HJL.out] at h9; exact h9), F3, κ (p3.out.trans Hr.out), P3⟩
    · have t0 : decide ((j : Int) < (n : Int)) = false := by simp; omega
      have hjn : j = n := by omega
      have hfin : Hid (Ac ρj wr g0 g rj (thenA a (a.pu.path.map (fun n => .one (.take (ndL G n)))))) := κ (by have h9 := Ha.out; rw [hjn, HN.out, List.take_length] at h9; exact h9)
      clear hjn
      go_wp2_with fail
      exact bodyPost_ret (v := .tuple #[]) (by simp [results, Tryz.results110, go_sem]) rfl ⟨rfl, ρj, rj, Ff.out, Hg.out, hfin.out, Hr.out⟩
theorem freeNodes_any (base : Nat) (ρ : Nat → Nat) (q : Gq) (r : Aq) (g0 g gp : Nat) (G : Gp) (a : Ap) (w : World) (HG : Hid (Gt base ρ w g0 q G)) (ha : Hid (Ac ρ w g0 g r a)) (hgp : r.gp = some gp) (hp : Hid (∀ k, k < a.pu.path.length → 0 ≤ gI a.pu.path k ∧ gI a.pu.path k ≤ 400)) (hl : a.pu.path.length ≤ 1000) (hmax : a.todo.length ≤ 100000) (s0 : 0 ≤ G.sh) (s1 : G.sh ≤ 1000) :
    Calls Tryz.prog 116 #[pv g, pv gp] w (MadeT base ρ q g0 g r.gp w (.tuple #[]) G (thenA a (a.pu.path.map (fun n => .one (.free (ndL G n)))))) := by
  have hmf := Gmk.make_f
  obtain ⟨kP, oP, rP, _⟩ := ha.out.pu gp hgp
  have c1 : w.cell? ⟨gp, 1, none⟩ = some (.slice r.Ap a.pu.path.length r.cp) := kP.cell 1
  have RP : Hid (Ro0 ρ w r.Ap (ints a.pu.path)) := κ rP
  have HGP := κ hgp
  obtain ⟨n, hn⟩ : ∃ n, n = a.pu.path.length := ⟨_, rfl⟩
  rw [← hn] at c1 hl
  have HN := κ hn
  clear hn kP oP rP hgp
  go_enter Tryz.func116, Tryz.ntmps116
  go_wp2_with fail
  go_loopg [11] n (fun gk s11 w' => ∃ (j : Nat) (ρj : Nat → Nat) (rj : Aq), j + gk = n ∧ s11 = .int .i64 j ∧ Hid (Gt base ρj w' g0 q G) ∧ Hid (Ac ρj w' g0 g rj (thenA a ((a.pu.path.take j).map (fun n => .one (.free (ndL G n)))))) ∧ Hid (Fs (· = g + 8) ρ w ρj w') ∧ Hid (rj.gp = r.gp) ∧ Hid (Ro0 ρj w' r.Ap (ints a.pu.path)))
  case atStart => exact ⟨0, ρ, r, by omega, rfl, HG, κ (by simpa [thenA_nil] using ha.out), (κ (Fs.refl _ _ _)), κ rfl, RP⟩
  case round =>
    obtain ⟨j, ρj, rj, hg0, rfl, Hg, Ha, Ff, Hr, Hp⟩ := hrel
    by_cases hlt : j < n
    · obtain ⟨gk', rfl⟩ : ∃ x, gk = x + 1 := ⟨gk - 1, by omega⟩
      have t0 : decide ((j : Int) < (n : Int)) = true := by simp; omega
      have hjl : j < a.pu.path.length := by rw [← HN.out]; exact hlt
      obtain ⟨b, o, hA, hb, hcc⟩ := Ris.at (i := j) Hp.out.1 hjl
      have hc := hcc j hjl
      obtain ⟨h0, h1⟩ := hp.out j hjl
      have HAP := κ hA
      have hsl : (Value.slice r.Ap n r.cp) = .slice (some ⟨b, o, none⟩) n r.cp := by rw [hA]
      have HX : Hid (∃ x, x = gI a.pu.path j) := κ ⟨_, rfl⟩
      obtain ⟨x, hx⟩ := HX.out
      rw [← hx] at hc h0 h1
      have HXE := κ hx
      have HJL := κ hjl
      clear hcc hx hb hA HX hjl
      have c0 := Ac.c0 Ha.out
      simp only [hsl]
      clear hsl
      go_wp2_with fail
      refine (nodeLatch_any base ρj q g0 x G wr Hg h0 (by omega) s0 s1).mono ?_
      rintro e w9 ⟨rfl, rfl⟩
      go_wp2_with fail
      refine (free_acc g0 rj.gp Hg.out.new (ndL G x)).mono ?_
      rintro e w1 ⟨k, cap, rfl, hi, hb1⟩
      have b2 := β w1 (.cells #[.func (.func k) #[] cap] 126)
      have bb := Cel.below_step hb1 b2
      have G2 := κ (Gt.ext Hg.out bb)
      have A2 := κ (Ac.ext Ha.out bb)
      have P2 := κ (Ro0.fs Hp.out (fx bb) id)
      have F2 := κ (Ff.out.trans (Fs.quiet bb))
      have L2 : Hid (Are (IsAcc ρj (w1.alloc (.cells #[.func (.func k) #[] cap] 126)) g0 g rj.gp) [(.one (.free (ndL G x)))] [.func (.func k) #[] cap]) := κ (.cons (IsAcc.ext hi b2) .nil)
      have K2 := κ (Blk.fresh w1 126 #[.func (.func k) #[] cap])
      have l9 : Hid ((thenA a ((a.pu.path.take j).map (fun n => .one (.free (ndL G n))))).todo.length + 1 ≤ 1000000) := κ (by rw [len_then, List.length_map, List.length_take]; omega)
      clear hi hb1 b2 bb
      go_wp2_with fail
      generalize w1.alloc (.cells #[.func (.func k) #[] cap] 126) = w2 at G2 A2 P2 F2 L2 K2 ⊢
      refine (then_any base ρj q rj g0 g w1.heap.size 1 G _ _ _ w2 G2 A2 K2 L2 (κ rfl) (by decide) l9.out).mono ?_
      rintro e w3 ⟨rfl, ρ3, r3, f3, G3, A3, p3⟩
      have P3 := κ (Ro0.fs P2.out f3 (by omega))
      have F3 := κ (Fs.trans F2.out f3)
      have G3 := κ G3
      have A3 := κ A3
      have p3 := κ p3
      clear f3 c0
      go_wp2_with fail
      simp only [← HAP.out]
      go_roundg gk'
      case measure => omega
      case rel => exact ⟨j + 1, ρ3, r3, by omega, by rw [Int.natCast_add]; rfl, G3, κ (by have h9 := A3.out; rw [thenA_app, HXE.out, map_take (f := (fun n => .one (.free (ndL G n)))) HJL.out] at h9; exact h9), F3, κ (p3.out.trans Hr.out), P3⟩
    · have t0 : decide ((j : Int) < (n : Int)) = false := by simp; omega
      have hjn : j = n := by omega
      have hfin : Hid (Ac ρj wr g0 g rj (thenA a (a.pu.path.map (fun n => .one (.free (ndL G n)))))) := κ (by have h9 := Ha.out; rw [hjn, HN.out, List.take_length] at h9; exact h9)
      clear hjn
      go_wp2_with fail
      exact bodyPost_ret (v := .tuple #[]) (by simp [results, Tryz.results116, go_sem]) rfl ⟨rfl, ρj, rj, Ff.out, Hg.out, hfin.out, Hr.out⟩
theorem seeUsed_any (base : Nat) (ρ : Nat → Nat) (q : Gq) (r : Aq) (g0 g gp : Nat) (G : Gp) (a : Ap) (w : World) (HG : Hid (Gt base ρ w g0 q G)) (ha : Hid (Ac ρ w g0 g r a)) (hgp : r.gp = some gp) (hp : Hid (∀ k, k < a.pu.path.length → 0 ≤ gI a.pu.path k ∧ gI a.pu.path k ≤ 400)) (hl : a.pu.path.length ≤ 1000) (hmax : a.todo.length ≤ 100000) (s0 : 0 ≤ G.sh) (s1 : G.sh ≤ 1000) :
    Calls Tryz.prog 111 #[pv g, pv gp] w (MadeT base ρ q g0 g r.gp w (.tuple #[]) G (thenA a (a.pu.path.map (fun n => .one (.load (usedW n) (.used n)))))) := by
  have hmf := Gmk.make_f
  obtain ⟨kP, oP, rP, _⟩ := ha.out.pu gp hgp
  have c1 : w.cell? ⟨gp, 1, none⟩ = some (.slice r.Ap a.pu.path.length r.cp) := kP.cell 1
  have RP : Hid (Ro0 ρ w r.Ap (ints a.pu.path)) := κ rP
  have HGP := κ hgp
  obtain ⟨n, hn⟩ : ∃ n, n = a.pu.path.length := ⟨_, rfl⟩
  rw [← hn] at c1 hl
  have HN := κ hn
  clear hn kP oP rP hgp
  have z0 := HG.out.new
  have HB0 := κ (β w (.cells #[pv gp] 184))
  have KB : Hid (B1 ρ (w.alloc (.cells #[pv gp] 184)) w.heap.size 184 #[pv gp]) := κ (B1.mk z0 rfl)
  have c1' : (w.alloc (.cells #[pv gp] 184)).cell? ⟨gp, 1, none⟩ = some (.slice r.Ap n r.cp) := ce (ρ := ρ) (ρ' := ρ) (fx HB0.out) c1 rfl id
  go_enter Tryz.func111, Tryz.ntmps111
  go_upto_region 1 with fail
  obtain ⟨gb, hgb⟩ : ∃ x, x = w.heap.size := ⟨_, rfl⟩
  simp only [← hgb] at KB ⊢
  clear hgb
  have HG1 := κ (Gt.ext HG.out HB0.out)
  have HA1 := κ (Ac.ext ha.out HB0.out)
  have RP1 := κ (Ro0.fs RP.out (fx HB0.out) id)
  have F1 : Hid (Fs (· = g + 8) ρ w ρ (w.alloc (.cells #[pv gp] 184))) := κ (Fs.quiet HB0.out)
  generalize w.alloc (.cells #[pv gp] 184) = w1 at KB c1' HG1 HA1 RP1 F1 ⊢
  have k0 := KB.out.1.cell 0
  simp at k0
  go_wp2_with fail
  go_loopg [11] n (fun gk s11 w' => ∃ (j : Nat) (ρj : Nat → Nat) (rj : Aq), j + gk = n ∧ s11 = .int .i64 j ∧ Hid (Gt base ρj w' g0 q G) ∧ Hid (Ac ρj w' g0 g rj (thenA a ((a.pu.path.take j).map (fun n => .one (.load (usedW n) (.used n)))))) ∧ Hid (Fs (· = g + 8) ρ w ρj w') ∧ Hid (rj.gp = r.gp) ∧ Hid (Ro0 ρj w' r.Ap (ints a.pu.path)) ∧ Hid (B1 ρj w' gb 184 #[pv gp]))
  case atStart => exact ⟨0, ρ, r, by omega, rfl, HG1, κ (by simpa [thenA_nil] using HA1.out), F1, κ rfl, RP1, KB⟩
  case round =>
    clear HG1 HA1 RP1 F1 KB c1' k0
    obtain ⟨j, ρj, rj, hg0, rfl, Hg, Ha, Ff, Hr, Hp, Kb⟩ := hrel
    by_cases hlt : j < n
    · obtain ⟨gk', rfl⟩ : ∃ x, gk = x + 1 := ⟨gk - 1, by omega⟩
      have t0 : decide ((j : Int) < (n : Int)) = true := by simp; omega
      have hjl : j < a.pu.path.length := by rw [← HN.out]; exact hlt
      obtain ⟨b, o, hA, hb, hcc⟩ := Ris.at (i := j) Hp.out.1 hjl
      have hc := hcc j hjl
      obtain ⟨h0, h1⟩ := hp.out j hjl
      have HAP := κ hA
      have hsl : (Value.slice r.Ap n r.cp) = .slice (some ⟨b, o, none⟩) n r.cp := by rw [hA]
      have HX : Hid (∃ x, x = gI a.pu.path j) := κ ⟨_, rfl⟩
      obtain ⟨x, hx⟩ := HX.out
      rw [← hx] at hc h0 h1
      have HXE := κ hx
      have HJL := κ hjl
      clear hcc hx hb hA HX hjl
      simp only [hsl]
      clear hsl
      have bx := β wr (.cells #[.int .i64 x] 3)
      have KX := κ (B1.mk (ρ := ρj) (te := 3) (cs := #[.int .i64 x]) Hg.out.new rfl)
      have KP := κ (B1.ext Kb.out bx)
      have G1 := κ (Gt.ext Hg.out bx)
      have A1 := κ (Ac.ext Ha.out bx)
      have P1 := κ (Ro0.fs Hp.out (fx bx) id)
      have F1 := κ (Ff.out.trans (Fs.quiet bx))
      have GPJ := κ (Hr.out.trans HGP.out)
      go_wp2_with fail
      refine (usedWord_any x _ h0 (by omega)).mono ?_
      rintro e w9 ⟨rfl, rfl⟩
      go_wp2_with fail
      obtain ⟨gx, hgx⟩ : ∃ y, y = wr.heap.size := ⟨_, rfl⟩
      simp only [← hgx] at KX ⊢
      clear hgx bx
      generalize wr.alloc (.cells #[.int .i64 x] 3) = w5 at KX KP G1 A1 P1 F1 ⊢
      refine (load_acc g0 rj.gp G1.out.new (usedW x) (.used x) 153 #[pv gb, pv gx] ⟨_, _, _, rfl, ⟨GPJ.out, KP.out⟩, KX.out⟩).mono ?_
      rintro e w1 ⟨k, cap, rfl, hi, hb1⟩
      have b2 := β w1 (.cells #[.func (.func k) #[] cap] 126)
      have bb := Cel.below_step hb1 b2
      have G2 := κ (Gt.ext G1.out bb)
      have A2 := κ (Ac.ext A1.out bb)
      have P2 := κ (Ro0.fs P1.out (fx bb) id)
      have KP2 := κ (B1.ext KP.out bb)
      have F2 := κ (F1.out.trans (Fs.quiet bb))
      have L2 : Hid (Are (IsAcc ρj (w1.alloc (.cells #[.func (.func k) #[] cap] 126)) g0 g rj.gp) [(.one (.load (usedW x) (.used x)))] [.func (.func k) #[] cap]) := κ (.cons (IsAcc.ext hi b2) .nil)
      have K2 := κ (Blk.fresh w1 126 #[.func (.func k) #[] cap])
      have l9 : Hid ((thenA a ((a.pu.path.take j).map (fun n => .one (.load (usedW n) (.used n))))).todo.length + 1 ≤ 1000000) := κ (by rw [len_then, List.length_map, List.length_take]; omega)
      clear hi hb1 b2 bb
      go_wp2_with fail
      generalize w1.alloc (.cells #[.func (.func k) #[] cap] 126) = w2 at G2 A2 P2 F2 L2 K2 KP2 ⊢
      refine (then_any base ρj q rj g0 g w1.heap.size 1 G _ _ _ w2 G2 A2 K2 L2 (κ rfl) (by decide) l9.out).mono ?_
      rintro e w3 ⟨rfl, ρ3, r3, f3, G3, A3, p3⟩
      have P3 := κ (Ro0.fs P2.out f3 (by omega))
      have KP3 := κ (B1.fs KP2.out f3 (by omega))
      have F3 := κ (Fs.trans F2.out f3)
      have G3 := κ G3
      have A3 := κ A3
      have p3 := κ p3
      clear f3
      go_wp2_with fail
      simp only [← HAP.out]
      go_roundg gk'
      case measure => omega
      case rel => exact ⟨j + 1, ρ3, r3, by omega, by rw [Int.natCast_add]; rfl, G3, κ (by have h9 := A3.out; rw [thenA_app, HXE.out, map_take (f := (fun n => .one (.load (usedW n) (.used n)))) HJL.out] at h9; exact h9), F3, κ (p3.out.trans Hr.out), P3, KP3⟩
    · have t0 : decide ((j : Int) < (n : Int)) = false := by simp; omega
      have hjn : j = n := by omega
      have hfin : Hid (Ac ρj wr g0 g rj (thenA a (a.pu.path.map (fun n => .one (.load (usedW n) (.used n)))))) := κ (by have h9 := Ha.out; rw [hjn, HN.out, List.take_length] at h9; exact h9)
      clear hjn
      go_wp2_with fail
      exact bodyPost_ret (v := .tuple #[]) (by simp [results, Tryz.results111, go_sem]) rfl ⟨rfl, ρj, rj, Ff.out, Hg.out, hfin.out, Hr.out⟩
theorem seeCaps_any (base : Nat) (ρ : Nat → Nat) (q : Gq) (r : Aq) (g0 g gp : Nat) (G : Gp) (a : Ap) (w : World) (HG : Hid (Gt base ρ w g0 q G)) (ha : Hid (Ac ρ w g0 g r a)) (hgp : r.gp = some gp) (hp : Hid (∀ k, k < a.pu.path.length → 0 ≤ gI a.pu.path k ∧ gI a.pu.path k ≤ 400)) (hl : a.pu.path.length ≤ 1000) (hmax : a.todo.length ≤ 100000) (s0 : 0 ≤ G.sh) (s1 : G.sh ≤ 1000) :
    Calls Tryz.prog 112 #[pv g, pv gp] w (MadeT base ρ q g0 g r.gp w (.tuple #[]) G (thenA a (a.pu.path.map (fun n => .one (.load (capW n) (.caps n)))))) := by
  have hmf := Gmk.make_f
  obtain ⟨kP, oP, rP, _⟩ := ha.out.pu gp hgp
  have c1 : w.cell? ⟨gp, 1, none⟩ = some (.slice r.Ap a.pu.path.length r.cp) := kP.cell 1
  have RP : Hid (Ro0 ρ w r.Ap (ints a.pu.path)) := κ rP
  have HGP := κ hgp
  obtain ⟨n, hn⟩ : ∃ n, n = a.pu.path.length := ⟨_, rfl⟩
  rw [← hn] at c1 hl
  have HN := κ hn
  clear hn kP oP rP hgp
  have z0 := HG.out.new
  have HB0 := κ (β w (.cells #[pv gp] 184))
  have KB : Hid (B1 ρ (w.alloc (.cells #[pv gp] 184)) w.heap.size 184 #[pv gp]) := κ (B1.mk z0 rfl)
  have c1' : (w.alloc (.cells #[pv gp] 184)).cell? ⟨gp, 1, none⟩ = some (.slice r.Ap n r.cp) := ce (ρ := ρ) (ρ' := ρ) (fx HB0.out) c1 rfl id
  go_enter Tryz.func112, Tryz.ntmps112
  go_upto_region 1 with fail
  obtain ⟨gb, hgb⟩ : ∃ x, x = w.heap.size := ⟨_, rfl⟩
  simp only [← hgb] at KB ⊢
  clear hgb
  have HG1 := κ (Gt.ext HG.out HB0.out)
  have HA1 := κ (Ac.ext ha.out HB0.out)
  have RP1 := κ (Ro0.fs RP.out (fx HB0.out) id)
  have F1 : Hid (Fs (· = g + 8) ρ w ρ (w.alloc (.cells #[pv gp] 184))) := κ (Fs.quiet HB0.out)
  generalize w.alloc (.cells #[pv gp] 184) = w1 at KB c1' HG1 HA1 RP1 F1 ⊢
  have k0 := KB.out.1.cell 0
  simp at k0
  go_wp2_with fail
  go_loopg [11] n (fun gk s11 w' => ∃ (j : Nat) (ρj : Nat → Nat) (rj : Aq), j + gk = n ∧ s11 = .int .i64 j ∧ Hid (Gt base ρj w' g0 q G) ∧ Hid (Ac ρj w' g0 g rj (thenA a ((a.pu.path.take j).map (fun n => .one (.load (capW n) (.caps n)))))) ∧ Hid (Fs (· = g + 8) ρ w ρj w') ∧ Hid (rj.gp = r.gp) ∧ Hid (Ro0 ρj w' r.Ap (ints a.pu.path)) ∧ Hid (B1 ρj w' gb 184 #[pv gp]))
  case atStart => exact ⟨0, ρ, r, by omega, rfl, HG1, κ (by simpa [thenA_nil] using HA1.out), F1, κ rfl, RP1, KB⟩
  case round =>
    clear HG1 HA1 RP1 F1 KB c1' k0
    obtain ⟨j, ρj, rj, hg0, rfl, Hg, Ha, Ff, Hr, Hp, Kb⟩ := hrel
    by_cases hlt : j < n
    · obtain ⟨gk', rfl⟩ : ∃ x, gk = x + 1 := ⟨gk - 1, by omega⟩
      have t0 : decide ((j : Int) < (n : Int)) = true := by simp; omega
      have hjl : j < a.pu.path.length := by rw [← HN.out]; exact hlt
      obtain ⟨b, o, hA, hb, hcc⟩ := Ris.at (i := j) Hp.out.1 hjl
      have hc := hcc j hjl
      obtain ⟨h0, h1⟩ := hp.out j hjl
      have HAP := κ hA
      have hsl : (Value.slice r.Ap n r.cp) = .slice (some ⟨b, o, none⟩) n r.cp := by rw [hA]
      have HX : Hid (∃ x, x = gI a.pu.path j) := κ ⟨_, rfl⟩
      obtain ⟨x, hx⟩ := HX.out
      rw [← hx] at hc h0 h1
      have HXE := κ hx
      have HJL := κ hjl
      clear hcc hx hb hA HX hjl
      simp only [hsl]
      clear hsl
      have bx := β wr (.cells #[.int .i64 x] 3)
      have KX := κ (B1.mk (ρ := ρj) (te := 3) (cs := #[.int .i64 x]) Hg.out.new rfl)
      have KP := κ (B1.ext Kb.out bx)
      have G1 := κ (Gt.ext Hg.out bx)
      have A1 := κ (Ac.ext Ha.out bx)
      have P1 := κ (Ro0.fs Hp.out (fx bx) id)
      have F1 := κ (Ff.out.trans (Fs.quiet bx))
      have GPJ := κ (Hr.out.trans HGP.out)
      go_wp2_with fail
      refine (capWord_any x _ h0 (by omega)).mono ?_
      rintro e w9 ⟨rfl, rfl⟩
      go_wp2_with fail
      obtain ⟨gx, hgx⟩ : ∃ y, y = wr.heap.size := ⟨_, rfl⟩
      simp only [← hgx] at KX ⊢
      clear hgx bx
      generalize wr.alloc (.cells #[.int .i64 x] 3) = w5 at KX KP G1 A1 P1 F1 ⊢
      refine (load_acc g0 rj.gp G1.out.new (capW x) (.caps x) 154 #[pv gb, pv gx] ⟨_, _, _, rfl, ⟨GPJ.out, KP.out⟩, KX.out⟩).mono ?_
      rintro e w1 ⟨k, cap, rfl, hi, hb1⟩
      have b2 := β w1 (.cells #[.func (.func k) #[] cap] 126)
      have bb := Cel.below_step hb1 b2
      have G2 := κ (Gt.ext G1.out bb)
      have A2 := κ (Ac.ext A1.out bb)
      have P2 := κ (Ro0.fs P1.out (fx bb) id)
      have KP2 := κ (B1.ext KP.out bb)
      have F2 := κ (F1.out.trans (Fs.quiet bb))
      have L2 : Hid (Are (IsAcc ρj (w1.alloc (.cells #[.func (.func k) #[] cap] 126)) g0 g rj.gp) [(.one (.load (capW x) (.caps x)))] [.func (.func k) #[] cap]) := κ (.cons (IsAcc.ext hi b2) .nil)
      have K2 := κ (Blk.fresh w1 126 #[.func (.func k) #[] cap])
      have l9 : Hid ((thenA a ((a.pu.path.take j).map (fun n => .one (.load (capW n) (.caps n))))).todo.length + 1 ≤ 1000000) := κ (by rw [len_then, List.length_map, List.length_take]; omega)
      clear hi hb1 b2 bb
      go_wp2_with fail
      generalize w1.alloc (.cells #[.func (.func k) #[] cap] 126) = w2 at G2 A2 P2 F2 L2 K2 KP2 ⊢
      refine (then_any base ρj q rj g0 g w1.heap.size 1 G _ _ _ w2 G2 A2 K2 L2 (κ rfl) (by decide) l9.out).mono ?_
      rintro e w3 ⟨rfl, ρ3, r3, f3, G3, A3, p3⟩
      have P3 := κ (Ro0.fs P2.out f3 (by omega))
      have KP3 := κ (B1.fs KP2.out f3 (by omega))
      have F3 := κ (Fs.trans F2.out f3)
      have G3 := κ G3
      have A3 := κ A3
      have p3 := κ p3
      clear f3
      go_wp2_with fail
      simp only [← HAP.out]
      go_roundg gk'
      case measure => omega
      case rel => exact ⟨j + 1, ρ3, r3, by omega, by rw [Int.natCast_add]; rfl, G3, κ (by have h9 := A3.out; rw [thenA_app, HXE.out, map_take (f := (fun n => .one (.load (capW n) (.caps n)))) HJL.out] at h9; exact h9), F3, κ (p3.out.trans Hr.out), P3, KP3⟩
    · have t0 : decide ((j : Int) < (n : Int)) = false := by simp; omega
      have hjn : j = n := by omega
      have hfin : Hid (Ac ρj wr g0 g rj (thenA a (a.pu.path.map (fun n => .one (.load (capW n) (.caps n)))))) := κ (by have h9 := Ha.out; rw [hjn, HN.out, List.take_length] at h9; exact h9)
      clear hjn
      go_wp2_with fail
      exact bodyPost_ret (v := .tuple #[]) (by simp [results, Tryz.results112, go_sem]) rfl ⟨rfl, ρj, rj, Ff.out, Hg.out, hfin.out, Hr.out⟩
end Glp
end Go.Proofs.YtaeddnjjeholgaaGreat
