/- Texts side by side. -/
import Derived.Test.YtaeddnjjeholgaaGreatUgbk
set_option linter.unusedVariables false
set_option linter.unusedSimpArgs false
set_option maxRecDepth 100000
set_option maxHeartbeats 16000000
namespace Go.Proofs.YtaeddnjjeholgaaGreat
open Kap Lat Lax Gly Go.ChangeShapes Go.WideShapes Go.ChangeAt Go.RowKit Go.Lib Mem Cel Bkp Bks Wpl Hpa Gpl Mdp Cfg Cfr Gow Gac Gat Gup Gex Gma Gbe Gth Gmz Gsn Gsm Mdc Mdf Bka Bkj Rul1 Gcf Rr4 Gx7 Gbp
namespace Gnw
open Cn (ToldV toldV_mk)
theorem nd_few {sh wi ra ta : Int} {nd : List (Int × Int)} {ac : List Int} {sy : List (Int × Int × Int × Nat)} (h : cfgF sh wi ra ta nd ac sy = 0) : nd.length ≤ 1000 := by
  have h1 := (cfg_ok h).2.1
  by_cases h2 : 32 < nd.length
  · unfold Tre.chk at h1; rw [if_pos h2] at h1; cases h1
  · omega
theorem ptr_info : (Tryz.prog.info? 46).map (fun i => (i.zero, i.size, i.bytes)) = some (some (.pointer none), 1, 8) := by kernel_rfl
theorem madeP (n : Nat) : madeCells #[.pointer none] n = (lps (List.replicate n none)).toArray := by
  have e : lps (List.replicate n none) = List.replicate n (.pointer none) := by unfold lps; rw [List.map_replicate]; rfl
  rw [e]
  apply Array.ext
  · simp [madeCells]
  · intro i h1 h2
    simp [madeCells, Nat.mod_one]
def own3 (g0 gl gc gw gh : Nat) : Nat → Nat := fun k => if k = g0 then 1 else if k = gl then 4 else if k = gc ∨ k = gw ∨ k = gh then 2 else 0
theorem fz5 {g0 gl gc gw gh : Nat} {A : Option Addr} {xs : List Value} (h0 : Fz g0 A xs) (h1 : Fz gl A xs) (h2 : Fz gc A xs) (h3 : Fz gw A xs) (h4 : Fz gh A xs) : xs = [] ∨ ∀ a, A = some a → own3 g0 gl gc gw gh a.block = 0 := by
  rcases h0 with h | h0
  · exact .inl h
  rcases h1 with h | h1
  · exact .inl h
  rcases h2 with h | h2
  · exact .inl h
  rcases h3 with h | h3
  · exact .inl h
  rcases h4 with h | h4
  · exact .inl h
  refine .inr fun a ha => ?_
  have := h0 a ha; have := h1 a ha; have := h2 a ha; have := h3 a ha; have := h4 a ha
  unfold own3
  rw [if_neg (by omega), if_neg (by omega), if_neg (by omega)]
theorem gt_new {base : Nat} {w : World} {g0 gl gc gw gh wk nl al sl : Nat} {sh wi ra ta : Int} {A B C : Option Addr} {c d f : Nat} {nd : List (Int × Int)} {ac : List Int} {sy : List (Int × Int × Int × Nat)} {s : S} (L1 : nl = nd.length) (L2 : al = ac.length) (L3 : sl = sy.length)
    (KG : Blk w g0 99 #[.int .i64 sh, .int .i64 wi, .int .i64 ra, .int .i64 ta, .slice A nl c, .slice B al d, .slice C sl f, pv gc, .slice none 0 0, .slice (some ⟨gl, 0, none⟩) wk wk, .slice none 0 0, .slice none 0 0, .slice none 0 0]) (KL : Blk w gl 46 (lps (List.replicate wk none)).toArray) (NA : Nds w w.heap.size A nd) (NB : Ris w w.heap.size B ac) (NC : Smb w w.heap.size C sy) (CS : Cs w 147 gc gw gh s)
    (FA : ∀ b, b = g0 ∨ b = gl ∨ b = gc ∨ b = gw ∨ b = gh → Fz b A (nds nd) ∧ Fz b B (ints ac) ∧ Fz b C (smbs sy)) (ne : g0 ≠ gl ∧ g0 ≠ gc ∧ g0 ≠ gw ∧ g0 ≠ gh ∧ gl ≠ gc ∧ gl ≠ gw ∧ gl ≠ gh) (hb : base ≤ g0 ∧ base ≤ gl ∧ base ≤ gc ∧ base ≤ gw ∧ base ≤ gh) :
    Gt base (own3 g0 gl gc gw gh) w g0 ⟨A, B, C, c, d, f, gc, gw, gh, none, 0, [], gl, none, 0, none, 0, none, 0⟩ ⟨sh, wi, ra, ta, nd, ac, sy, [], s, [], [], [], List.replicate wk none⟩ := by
  have l0 := KG.lt
  have l1 := KL.lt
  have l2 := CS.c.lt
  have l3 := CS.cw.lt
  have l4 := CS.ch.lt
  have z := fun b h => FA b h
  have f0 := FA g0 (by omega); have f1 := FA gl (by omega); have f2 := FA gc (by omega); have f3 := FA gw (by omega); have f4 := FA gh (by omega)
  subst L1 L2 L3
  refine ⟨fun k hk => ?_, fun k hk => ?_, fun k => ?_, by omega, by simpa [gqV] using KG, if_pos rfl, ⟨NA, fz5 f0.1 f1.1 f2.1 f3.1 f4.1⟩, ⟨NB, fz5 f0.2.1 f1.2.1 f2.2.1 f3.2.1 f4.2.1⟩, ⟨NC, fz5 f0.2.2 f1.2.2 f2.2.2 f3.2.2 f4.2.2⟩, CS, ⟨?_, ?_, ?_⟩, ⟨World.ownsRow_nil _ _ _ _, fun b hb => by cases hb⟩, rfl, fun i hi => absurd hi (Nat.not_lt_zero _), KL, ?_, ⟨World.ownsRow_nil _ _ _ _, fun b hb => by cases hb⟩, ⟨World.ownsRow_nil _ _ _ _, fun b hb => by cases hb⟩, ⟨World.ownsRow_nil _ _ _ _, fun b hb => by cases hb⟩⟩
  · unfold own3; rw [if_neg (by omega), if_neg (by omega), if_neg (by omega)]
  · unfold own3; rw [if_neg (by omega), if_neg (by omega), if_neg (by omega)]
  · unfold own3
    by_cases h1 : k = g0
    · rw [if_pos h1]; omega
    · by_cases h2 : k = gl
      · rw [if_neg h1, if_pos h2]; omega
      · by_cases h3 : k = gc ∨ k = gw ∨ k = gh
        · rw [if_neg h1, if_neg h2, if_pos h3]; omega
        · rw [if_neg h1, if_neg h2, if_neg h3]; omega
  · show own3 g0 gl gc gw gh gc = 2; unfold own3; rw [if_neg (by omega), if_neg (by omega), if_pos (by omega)]
  · show own3 g0 gl gc gw gh gw = 2; unfold own3; rw [if_neg (by omega), if_neg (by omega), if_pos (by omega)]
  · show own3 g0 gl gc gw gh gh = 2; unfold own3; rw [if_neg (by omega), if_neg (by omega), if_pos (by omega)]
  · show own3 g0 gl gc gw gh gl = 4; unfold own3; rw [if_neg (by omega), if_pos rfl]
theorem latch_any (g0 sN : Nat) (n : Int) (w : World) (t0 : w.cell? ⟨g0, 0, none⟩ = some (.int .i64 (sN : Int))) (h0 : 0 ≤ n) (h1 : n ≤ 1000) (s1 : sN ≤ 1000) : Calls Tryz.prog 37 #[pv g0, .int .i64 n] w (ToldV (.int .i64 (2 + (sN : Int) + n)) w) := by
  have e1 : wrap64 (2 + (sN : Int)) = 2 + (sN : Int) := w64 (by omega) (by omega)
  have e2 : wrap64 (2 + (sN : Int) + n) = 2 + (sN : Int) + n := w64 (by omega) (by omega)
  go_enter Tryz.func37, Tryz.ntmps37
  go_wp2
  go_ret
  exact toldV_mk rfl
theorem nds_cells {w : World} {B b o : Nat} {l : List (Int × Int)} (h : Nds w B (some ⟨b, o, none⟩) l) (j : Nat) (hj : j < l.length) : w.cell? ⟨b, o + j * 2, none⟩ = some (.int .i64 (nP l j)) ∧ w.cell? ⟨b, o + j * 2 + 1, none⟩ = some (.int .i64 (nC l j)) := by
  obtain ⟨b2, o2, he, _, hc⟩ := Nds.at h (by omega)
  injection he with he
  injection he with h1 h2
  subst h1; subst h2
  exact hc j hj
def capS (nd : List (Int × Int)) (k : Nat) (s : S) : S := (List.range k).foldl (fun (s : S) (n : Nat) => storeF s (capW (n : Int)) (nd.getD n (0, 0)).2) s
theorem capS_succ (nd : List (Int × Int)) (k : Nat) (s : S) : capS nd (k + 1) s = storeF (capS nd k s) (capW (k : Int)) (nC nd k) := by
  unfold capS
  rw [List.range_succ, List.foldl_append]
  rfl
theorem storeF_len (s : S) (a v : Int) : (storeF s a v).ws.length = s.ws.length ∧ (storeF s a v).hs = s.hs := by
  unfold storeF
  split
  · exact ⟨by simp, rfl⟩
  · exact ⟨rfl, rfl⟩
theorem capS_len (nd : List (Int × Int)) (k : Nat) (s : S) : (capS nd k s).ws.length = s.ws.length ∧ (capS nd k s).hs = s.hs := by
  induction k with
  | zero => exact ⟨rfl, rfl⟩
  | succ k ih => rw [capS_succ]; exact ⟨(storeF_len _ _ _).1.trans ih.1, (storeF_len _ _ _).2.trans ih.2⟩
def newS (sh : Int) (n : Nat) : S := ⟨List.replicate (1 + 2 * n) 0, List.replicate (2 + sh.toNat + n) (-1), 0⟩
def newG (sh wi ra ta : Int) (nd : List (Int × Int)) (ac : List Int) (sy : List (Int × Int × Int × Nat)) (wk k j : Nat) : Gp :=
  ⟨sh, wi, ra, ta, nd, ac, sy, (List.range j).map (fun k : Nat => beginF ac.length (k : Int)), capS nd k (newS sh nd.length), [], [], [], List.replicate wk none⟩
def MadeNg (sh wi ra ta : Int) (nd : List (Int × Int)) (ac : List Int) (sy : List (Int × Int × Int × Nat)) (wk : Nat) (w : World) (e : Ending) (w' : World) : Prop :=
  Below w.heap.size w w' ∧ (cfgF sh wi ra ta nd ac sy ≠ 0 → e = .returned (.tuple #[.pointer none, .int .i64 (cfgF sh wi ra ta nd ac sy)])) ∧
  (cfgF sh wi ra ta nd ac sy = 0 → ∃ ρ g0 q, e = .returned (.tuple #[.pointer (some ⟨g0, 0, none⟩), .int .i64 0]) ∧ Gt w.heap.size ρ w' g0 q (newG sh wi ra ta nd ac sy wk nd.length sh.toNat))
theorem new_any (sh wi ra ta : Int) (A B C : Option Addr) (nl al sl c d f wk : Nat) (nd : List (Int × Int)) (ac : List Int) (sy : List (Int × Int × Int × Nat)) (w : World) (L1 : Hid (nl = nd.length)) (L2 : Hid (al = ac.length)) (L3 : Hid (sl = sy.length))
    (hn : Hid (Nds w w.heap.size A nd)) (ha : Hid (Ris w w.heap.size B ac)) (hs : Hid (Smb w w.heap.size C sy)) (hw : Hid (WfN nd)) (m1 : nl ≤ 100000) (m2 : al ≤ 100000) (m3 : sl ≤ 100000) (k1 : 1 ≤ wk) (k8 : wk ≤ 8) :
    Calls Tryz.prog 8 #[.agg #[.int .i64 sh, .int .i64 wi, .int .i64 ra, .int .i64 ta, .slice A nl c, .slice B al d, .slice C sl f], .int .i64 (wk : Int)] w (MadeNg sh wi ra ta nd ac sy wk w) := by
  have U0 : Hid (Below w.heap.size w (w.alloc (.cells #[.int .i64 sh, .int .i64 wi, .int .i64 ra, .int .i64 ta, .slice A nl c, .slice B al d, .slice C sl f] 43))) := (Below.refl _ _).alloc (Nat.le_refl _) _
  have C0 : Hid (Blk (w.alloc (.cells #[.int .i64 sh, .int .i64 wi, .int .i64 ra, .int .i64 ta, .slice A nl c, .slice B al d, .slice C sl f] 43)) w.heap.size 43 #[.int .i64 sh, .int .i64 wi, .int .i64 ra, .int .i64 ta, .slice A nl c, .slice B al d, .slice C sl f]) := Blk.fresh _ _ _
  have N0 : Hid (Nds (w.alloc (.cells #[.int .i64 sh, .int .i64 wi, .int .i64 ra, .int .i64 ta, .slice A nl c, .slice B al d, .slice C sl f] 43)) (w.alloc (.cells #[.int .i64 sh, .int .i64 wi, .int .i64 ra, .int .i64 ta, .slice A nl c, .slice B al d, .slice C sl f] 43)).heap.size A nd) := Rd.below' hn.out U0.out U0.out.size
  have R0 : Hid (Ris (w.alloc (.cells #[.int .i64 sh, .int .i64 wi, .int .i64 ra, .int .i64 ta, .slice A nl c, .slice B al d, .slice C sl f] 43)) (w.alloc (.cells #[.int .i64 sh, .int .i64 wi, .int .i64 ra, .int .i64 ta, .slice A nl c, .slice B al d, .slice C sl f] 43)).heap.size B ac) := Rd.below' ha.out U0.out U0.out.size
  have S0 : Hid (Smb (w.alloc (.cells #[.int .i64 sh, .int .i64 wi, .int .i64 ra, .int .i64 ta, .slice A nl c, .slice B al d, .slice C sl f] 43)) (w.alloc (.cells #[.int .i64 sh, .int .i64 wi, .int .i64 ra, .int .i64 ta, .slice A nl c, .slice B al d, .slice C sl f] 43)).heap.size C sy) := Rd.below' hs.out U0.out U0.out.size
  go_enter Tryz.func8, Tryz.ntmps8
  go_upto_region 1 with fail
  obtain ⟨gC, hgC⟩ : ∃ k, k = w.heap.size := ⟨_, rfl⟩
  have C1' : Hid (Blk (w.alloc (.cells #[.int .i64 sh, .int .i64 wi, .int .i64 ra, .int .i64 ta, .slice A nl c, .slice B al d, .slice C sl f] 43)) gC 43 #[.int .i64 sh, .int .i64 wi, .int .i64 ra, .int .i64 ta, .slice A nl c, .slice B al d, .slice C sl f]) := by rw [hgC]; exact C0.out
  have HGC : Hid (w.heap.size ≤ gC) := by show _ ≤ _; omega
  simp only [← hgC]
  clear hgC C0
  generalize (w.alloc (.cells #[.int .i64 sh, .int .i64 wi, .int .i64 ra, .int .i64 ta, .slice A nl c, .slice B al d, .slice C sl f] 43)) = w0 at U0 C1' N0 R0 S0 ⊢
  have CK := check5_any sh wi ra ta A B C c d f nd ac sy w0 N0 R0 S0 hw (by rw [← L1.out]; omega) (by rw [← L2.out]; omega) (by rw [← L3.out]; omega)
  obtain ⟨cc, hcc⟩ : ∃ k, k = cfgF sh wi ra ta nd ac sy := ⟨_, rfl⟩
  rw [← hcc, ← L1.out, ← L2.out, ← L3.out] at CK
  have HCC := Lib.hid hcc
  clear hcc
  obtain ⟨y0, y1, y2, y3, y4, y5, y6⟩ := q7_of C1'.out
  go_wp2_with fail
  refine CK.mono ?_
  rintro e w1 ⟨rfl, hb1⟩
  have U1 := Lib.hid (CrdB.below_step U0.out hb1)
  have C2 := Lib.hid (Blk.below' C1'.out hb1)
  have N1 : Hid (Nds w1 w1.heap.size A nd) := Rd.below' N0.out hb1 hb1.size
  have R1 : Hid (Ris w1 w1.heap.size B ac) := Rd.below' R0.out hb1 hb1.size
  have S1 : Hid (Smb w1 w1.heap.size C sy) := Rd.below' S0.out hb1 hb1.size
  clear hb1 y0 y1 y2 y3 y4 y5 y6 N0 R0 S0 C1' U0 CK
  by_cases hc0 : cc = 0
  case neg =>
    have t1 : (cc != 0) = true := by simp [hc0]
    have hfin : MadeNg sh wi ra ta nd ac sy wk w (.returned (.tuple #[.pointer none, .int .i64 cc])) w1 := ⟨U1.out, fun _ => by rw [HCC.out], fun h => absurd (HCC.out.trans h) hc0⟩
    have HF := Lib.hid hfin
    clear hfin
    go_wp2_with fail
    exact bodyPost_ret (v := .tuple #[.pointer none, .int .i64 cc]) (by simp [results, Tryz.results8, go_sem]) rfl HF.out
  case pos =>
    have t1 : (cc != 0) = false := by simp [hc0]
    obtain ⟨hsz, hchk, ha1, ha2, hacc, hs1, hs2, htab⟩ := cfg_ok (HCC.out.symm.trans hc0)
    obtain ⟨z1, z2, z3, z4, z5, z6, z7, z8⟩ := siz_ok hsz
    have hal : al ≤ 1000 := by rw [L2.out]; omega
    obtain ⟨sN, hsN⟩ : ∃ k : Nat, sh = k := ⟨sh.toNat, by omega⟩
    subst hsN
    have HC0 : Hid (cfgF (sN : Int) wi ra ta nd ac sy = 0) := HCC.out.symm.trans hc0
    clear hsz hchk ha1 ha2 hacc hs1 hs2 htab hc0 HCC z3 z4 z5 z6 z7 z8
    go_upto_region 6 with fail
    have OC := fun W hn ha hs => owncfg_any (sN : Int) wi ra ta A B C nl al sl c d f nd ac sy W L1 L2 L3 hn ha hs m1 m2 m3
    have hmk : ∀ wx, (Instr.makeSlice 96 (.int .i64 (wk : Int)) (.int .i64 (wk : Int))).run Tryz.prog wx = .ok (.slice (some ⟨wx.heap.size, 0, none⟩) wk wk) (wx.alloc (.cells (madeCells #[.pointer none] wk) 46)) := fun wx =>
      Go.run_make_row' 96 46 (.pointer none) 8 Tryz.underlying96 ptr_info rfl .i64 .i64 wk (by omega) (by omega) wx
    obtain ⟨M, hM⟩ : ∃ M, M = Obj.cells (madeCells #[.pointer none] wk) 46 := ⟨_, rfl⟩
    simp only [← hM] at hmk
    have kM : Hid (∀ wx : World, Blk (wx.alloc M) wx.heap.size 46 (lps (List.replicate wk none)).toArray) := κ fun wx => by
      subst hM; have := Blk.fresh wx 46 (madeCells #[.pointer none] wk); rw [madeP] at this ⊢; exact this
    clear hM
    go_cut [7] (fun s7 wx => ∃ (g0 gl : Nat) (A1 B1 C1 : Option Addr) (c1 d1 f1 : Nat), s7 = .pointer (some ⟨g0, 0, none⟩) ∧ Hid (Blk wx g0 99 #[.int .i64 (sN : Int), .int .i64 wi, .int .i64 ra, .int .i64 ta, .slice A1 nl c1, .slice B1 al d1, .slice C1 sl f1, .pointer none, .slice none 0 0, .slice (some ⟨gl, 0, none⟩) wk wk, .slice none 0 0, .slice none 0 0, .slice none 0 0]) ∧ Hid (Blk wx gl 46 (lps (List.replicate wk none)).toArray) ∧ Hid (Nds wx wx.heap.size A1 nd) ∧ Hid (Ris wx wx.heap.size B1 ac) ∧ Hid (Smb wx wx.heap.size C1 sy) ∧ Hid ((Fz g0 A1 (nds nd) ∧ Fz g0 B1 (ints ac) ∧ Fz g0 C1 (smbs sy)) ∧ (Fz gl A1 (nds nd) ∧ Fz gl B1 (ints ac) ∧ Fz gl C1 (smbs sy))) ∧ Hid (g0 ≠ gl ∧ w.heap.size ≤ g0 ∧ w.heap.size ≤ gl ∧ g0 ≠ gC ∧ gl ≠ gC) ∧ Hid (Blk wx gC 43 #[.int .i64 (sN : Int), .int .i64 wi, .int .i64 ra, .int .i64 ta, .slice A nl c, .slice B al d, .slice C sl f]) ∧ Hid (Below w.heap.size w wx))
    case first =>
      let T : World → Prop := fun w' => w'.cell? ⟨gC, 0, none⟩ = some (.int .i64 (sN : Int)) ∧ w'.cell? ⟨gC, 1, none⟩ = some (.int .i64 wi) ∧ w'.cell? ⟨gC, 2, none⟩ = some (.int .i64 ra) ∧ w'.cell? ⟨gC, 3, none⟩ = some (.int .i64 ta) ∧ w'.cell? ⟨gC, 4, none⟩ = some (.slice A nl c) ∧ w'.cell? ⟨gC, 5, none⟩ = some (.slice B al d) ∧ w'.cell? ⟨gC, 6, none⟩ = some (.slice C sl f)
      have b1 : Below w1.heap.size w1 w1.drew := (Below.refl _ _).drew
      have Cd := κ (Blk.below' C2.out b1)
      have Ud := κ (CrdB.below_step U1.out b1)
      have Nd : Hid (Nds w1.drew w1.drew.heap.size A nd) := κ (Rd.below' N1.out b1 b1.size)
      have Rd' : Hid (Ris w1.drew w1.drew.heap.size B ac) := κ (Rd.below' R1.out b1 b1.size)
      have Sd : Hid (Smb w1.drew w1.drew.heap.size C sy) := κ (Rd.below' S1.out b1 b1.size)
      have HT : Hid (T w1.drew) := κ (q7_of Cd.out)
      clear b1
      refine Ω T [] ?_
      generalize w1.drew = wd at Cd Ud Nd Rd' Sd HT ⊢
      refine jB 0 HT.out ?_
      refine jA 2 HT.out ?_
      refine wpL_two (m := 1) (n := 3) (by kernel_rfl) rfl rfl ?_ ?_
      · intro K' hK
        go_simp
        refine (OC wd Nd Rd' Sd).mono ?_
        rintro e w2 ⟨A1, B1, C1, c1, d1, f1, rfl, NA, NB, NC, fa1, fb1, fc1, hbb⟩
        have NA := κ NA
        have NB := κ NB
        have NC := κ NC
        have Cw2 := κ (Blk.below' Cd.out hbb)
        have Uw2 := κ (CrdB.below_step Ud.out hbb)
        clear hbb
        have HT2 : Hid (T w2) := κ (q7_of Cw2.out)
        refine hK.out _ _ HT2.out ?_
        clear hK K'
        refine jP ?_
        have b3 := β w2 M
        have KL3 := κ (kM.out w2)
        have NA3 : Hid (Nds (w2.alloc M) (w2.alloc M).heap.size A1 nd) := κ (Rd.below' NA.out b3 b3.size)
        have NB3 : Hid (Ris (w2.alloc M) (w2.alloc M).heap.size B1 ac) := κ (Rd.below' NB.out b3 b3.size)
        have NC3 : Hid (Smb (w2.alloc M) (w2.alloc M).heap.size C1 sy) := κ (Rd.below' NC.out b3 b3.size)
        have FL : Hid (Fz w2.heap.size A1 (nds nd) ∧ Fz w2.heap.size B1 (ints ac) ∧ Fz w2.heap.size C1 (smbs sy)) := κ ⟨fz_old NA.out (Nat.le_refl _), fz_old NB.out (Nat.le_refl _), fz_old NC.out (Nat.le_refl _)⟩
        have LL : Hid (w.heap.size ≤ w2.heap.size ∧ w2.heap.size ≠ gC) := κ ⟨Uw2.out.size, by have := Cw2.out.lt; omega⟩
        have Cw3 := κ (Blk.below' Cw2.out b3)
        have Uw3 := κ (CrdB.below_step Uw2.out b3)
        have HT3 : Hid (T (w2.alloc M)) := κ (q7_of Cw3.out)
        clear b3 NA NB NC Cw2 HT2
        refine jN 3 fun K' hK => ?_
        go_simp
        obtain ⟨gl, hgl⟩ : ∃ y, y = w2.heap.size := ⟨_, rfl⟩
        simp only [← hgl] at KL3 FL LL ⊢
        clear hgl Uw2
        generalize w2.alloc M = w3 at KL3 NA3 NB3 NC3 Cw3 Uw3 HT3 ⊢
        refine hK.out _ _ HT3.out ?_
        clear hK K'
        refine jP ?_
        refine jA 4 HT3.out ?_
        have bA : Hid (Below w3.heap.size w3 (w3.alloc (.cells #[.int .i64 (sN : Int), .int .i64 wi, .int .i64 ra, .int .i64 ta, .slice A1 nl c1, .slice B1 al d1, .slice C1 sl f1, .pointer none, .slice none 0 0, .slice (some ⟨gl, 0, none⟩) wk wk, .slice none 0 0, .slice none 0 0, .slice none 0 0] 99))) := κ ((Below.refl _ _).alloc (Nat.le_refl _) _)
        have KG : Hid (Blk (w3.alloc (.cells #[.int .i64 (sN : Int), .int .i64 wi, .int .i64 ra, .int .i64 ta, .slice A1 nl c1, .slice B1 al d1, .slice C1 sl f1, .pointer none, .slice none 0 0, .slice (some ⟨gl, 0, none⟩) wk wk, .slice none 0 0, .slice none 0 0, .slice none 0 0] 99)) w3.heap.size 99 #[.int .i64 (sN : Int), .int .i64 wi, .int .i64 ra, .int .i64 ta, .slice A1 nl c1, .slice B1 al d1, .slice C1 sl f1, .pointer none, .slice none 0 0, .slice (some ⟨gl, 0, none⟩) wk wk, .slice none 0 0, .slice none 0 0, .slice none 0 0]) := κ (Blk.fresh _ _ _)
        have HTA : Hid (T (w3.alloc (.cells #[.int .i64 (sN : Int), .int .i64 wi, .int .i64 ra, .int .i64 ta, .slice A1 nl c1, .slice B1 al d1, .slice C1 sl f1, .pointer none, .slice none 0 0, .slice (some ⟨gl, 0, none⟩) wk wk, .slice none 0 0, .slice none 0 0, .slice none 0 0] 99))) := κ (q7_of (Blk.below' Cw3.out bA.out))
        refine jN 5 fun K' hK => ?_
        go_simp
        refine hK.out _ _ HTA.out ?_
        clear hK K'
        refine jP ?_
        refine jA 6 HTA.out ?_
        refine Δ ?_
        go_wp2_with fail
        go_meet
        exact ⟨w3.heap.size, gl, A1, B1, C1, c1, d1, f1, rfl, KG, κ (Blk.below' KL3.out bA.out), κ (Rd.below' NA3.out bA.out bA.out.size), κ (Rd.below' NB3.out bA.out bA.out.size), κ (Rd.below' NC3.out bA.out bA.out.size), κ ⟨⟨fz_old NA3.out (Nat.le_refl _), fz_old NB3.out (Nat.le_refl _), fz_old NC3.out (Nat.le_refl _)⟩, FL.out⟩, κ ⟨by have := KL3.out.lt; omega, Uw3.out.size, LL.out.1, by have := Cw3.out.lt; omega, LL.out.2⟩, κ (Blk.below' Cw3.out bA.out), κ (CrdB.below_step Uw3.out bA.out)⟩
      · intro K' hK
        have b3 := β wd M
        have KL2 := κ (kM.out wd)
        have Nd2 : Hid (Nds (wd.alloc M) (wd.alloc M).heap.size A nd) := κ (Rd.below' Nd.out b3 b3.size)
        have Rd2 : Hid (Ris (wd.alloc M) (wd.alloc M).heap.size B ac) := κ (Rd.below' Rd'.out b3 b3.size)
        have Sd2 : Hid (Smb (wd.alloc M) (wd.alloc M).heap.size C sy) := κ (Rd.below' Sd.out b3 b3.size)
        have LL : Hid (w.heap.size ≤ wd.heap.size ∧ wd.heap.size ≠ gC) := κ ⟨Ud.out.size, by have := Cd.out.lt; omega⟩
        have C22 := κ (Blk.below' Cd.out b3)
        have U22 := κ (CrdB.below_step Ud.out b3)
        have HT2 : Hid (T (wd.alloc M)) := κ (q7_of C22.out)
        clear b3 Nd Rd' Sd Cd HT
        go_simp
        obtain ⟨gl, hgl⟩ : ∃ y, y = wd.heap.size := ⟨_, rfl⟩
        simp only [← hgl] at KL2 LL ⊢
        clear hgl Ud
        generalize wd.alloc M = wm at KL2 Nd2 Rd2 Sd2 C22 U22 HT2 ⊢
        refine hK.out _ _ HT2.out ?_
        clear hK K'
        refine jP ?_
        refine jN 1 fun K' hK => ?_
        go_simp
        refine (OC wm Nd2 Rd2 Sd2).mono ?_
        rintro e w3 ⟨A1, B1, C1, c1, d1, f1, rfl, NA3, NB3, NC3, fa1, fb1, fc1, hbb⟩
        have NA3 := κ NA3
        have NB3 := κ NB3
        have NC3 := κ NC3
        have Cw3 := κ (Blk.below' C22.out hbb)
        have Uw3 := κ (CrdB.below_step U22.out hbb)
        have KL3 := κ (Blk.below' KL2.out hbb)
        have FL : Hid (Fz gl A1 (nds nd) ∧ Fz gl B1 (ints ac) ∧ Fz gl C1 (smbs sy)) := κ ⟨fz_new fa1 KL2.out.lt, fz_new fb1 KL2.out.lt, fz_new fc1 KL2.out.lt⟩
        clear hbb
        have HT3 : Hid (T w3) := κ (q7_of Cw3.out)
        refine hK.out _ _ HT3.out ?_
        clear hK K'
        refine jP ?_
        refine jA 4 HT3.out ?_
        have bA : Hid (Below w3.heap.size w3 (w3.alloc (.cells #[.int .i64 (sN : Int), .int .i64 wi, .int .i64 ra, .int .i64 ta, .slice A1 nl c1, .slice B1 al d1, .slice C1 sl f1, .pointer none, .slice none 0 0, .slice (some ⟨gl, 0, none⟩) wk wk, .slice none 0 0, .slice none 0 0, .slice none 0 0] 99))) := κ ((Below.refl _ _).alloc (Nat.le_refl _) _)
        have KG : Hid (Blk (w3.alloc (.cells #[.int .i64 (sN : Int), .int .i64 wi, .int .i64 ra, .int .i64 ta, .slice A1 nl c1, .slice B1 al d1, .slice C1 sl f1, .pointer none, .slice none 0 0, .slice (some ⟨gl, 0, none⟩) wk wk, .slice none 0 0, .slice none 0 0, .slice none 0 0] 99)) w3.heap.size 99 #[.int .i64 (sN : Int), .int .i64 wi, .int .i64 ra, .int .i64 ta, .slice A1 nl c1, .slice B1 al d1, .slice C1 sl f1, .pointer none, .slice none 0 0, .slice (some ⟨gl, 0, none⟩) wk wk, .slice none 0 0, .slice none 0 0, .slice none 0 0]) := κ (Blk.fresh _ _ _)
        have HTA : Hid (T (w3.alloc (.cells #[.int .i64 (sN : Int), .int .i64 wi, .int .i64 ra, .int .i64 ta, .slice A1 nl c1, .slice B1 al d1, .slice C1 sl f1, .pointer none, .slice none 0 0, .slice (some ⟨gl, 0, none⟩) wk wk, .slice none 0 0, .slice none 0 0, .slice none 0 0] 99))) := κ (q7_of (Blk.below' Cw3.out bA.out))
        refine jN 5 fun K' hK => ?_
        go_simp
        refine hK.out _ _ HTA.out ?_
        clear hK K'
        refine jP ?_
        refine jA 6 HTA.out ?_
        refine Δ ?_
        go_wp2_with fail
        go_meet
        exact ⟨w3.heap.size, gl, A1, B1, C1, c1, d1, f1, rfl, KG, κ (Blk.below' KL3.out bA.out), κ (Rd.below' NA3.out bA.out bA.out.size), κ (Rd.below' NB3.out bA.out bA.out.size), κ (Rd.below' NC3.out bA.out bA.out.size), κ ⟨⟨fz_old NA3.out (Nat.le_refl _), fz_old NB3.out (Nat.le_refl _), fz_old NC3.out (Nat.le_refl _)⟩, FL.out⟩, κ ⟨by have := KL3.out.lt; omega, Uw3.out.size, LL.out.1, by have := Cw3.out.lt; omega, LL.out.2⟩, κ (Blk.below' Cw3.out bA.out), κ (CrdB.below_step Uw3.out bA.out)⟩
    case rest =>
      obtain ⟨g0, gl, A1, B1, C1, c1, d1, f1, rfl, KG, KL, NA, NB, NC, FA, NE, C3, U2⟩ := hcut
      rename World => w2
      clear OC hmk kM N1 R1 S1
      have hnl : nl ≤ 1000 := by rw [L1.out]; exact nd_few HC0.out
      have b2 : Below w2.heap.size w2 w2.drew := (Below.refl _ _).drew
      replace KG := κ (Blk.below' KG.out b2)
      replace KL := κ (Blk.below' KL.out b2)
      have NA2 : Hid (Nds w2.drew w2.drew.heap.size A1 nd) := κ (Rd.below' NA.out b2 b2.size)
      have NB2 : Hid (Ris w2.drew w2.drew.heap.size B1 ac) := κ (Rd.below' NB.out b2 b2.size)
      have NC2 : Hid (Smb w2.drew w2.drew.heap.size C1 sy) := κ (Rd.below' NC.out b2 b2.size)
      replace C3 := κ (Blk.below' C3.out b2)
      have Ud := κ (CrdB.below_step U2.out b2)
      let T : World → Prop := fun w' => w'.cell? ⟨gC, 4, none⟩ = some (.slice A nl c) ∧ True
      have HT : Hid (T w2.drew) := κ ⟨C3.out.cell 4, trivial⟩
      clear b2 NA NB NC U2
      go_upto_region 7 with fail
      refine Ω T [16] ?_
      generalize w2.drew = wd at KG KL NA2 NB2 NC2 C3 Ud HT ⊢
      refine jA 0 HT.out ?_
      refine jA 1 HT.out ?_
      refine jB 2 HT.out ?_
      refine jA 3 HT.out ?_
      refine jA 5 HT.out ?_
      refine jA 6 HT.out ?_
      refine jB 7 HT.out ?_
      refine jA 8 HT.out ?_
      refine jN 4 fun K' hK => ?_
      go_simp
      refine (usedWord_any (nl : Int) wd (by omega) (by omega)).mono ?_
      rintro e _ ⟨rfl, rfl⟩
      refine hK.out _ _ HT.out ?_
      clear hK K'
      refine jP ?_
      refine jN 9 fun K' hK => ?_
      go_simp
      refine (latch_any g0 sN (nl : Int) wd (KG.out.cell 0) (by omega) (by omega) (by omega)).mono ?_
      rintro e _ ⟨rfl, rfl⟩
      refine hK.out _ _ HT.out ?_
      clear hK K'
      refine jP ?_
      refine jN 10 fun K' hK => ?_
      go_simp
      have CN := Cz.new_any (1 + 2 * nl) (2 + sN + nl) wd (by omega) (by omega)
      rw [show (((1 + 2 * nl : Nat) : Nat) : Int) = 1 + 2 * (nl : Int) by omega, show (((2 + sN + nl : Nat) : Nat) : Int) = 2 + (sN : Int) + (nl : Int) by omega] at CN
      refine CN.mono ?_
      rintro e w3 ⟨gc, gw, gh, rfl, CS, lc, lw, lh, hb3⟩
      unfold Cz.vNew
      have KG3 := κ (Blk.below' KG.out hb3)
      have KL3 := κ (Blk.below' KL.out hb3)
      have NA3 : Hid (Nds w3 w3.heap.size A1 nd) := κ (Rd.below' NA2.out hb3 hb3.size)
      have NB3 : Hid (Ris w3 w3.heap.size B1 ac) := κ (Rd.below' NB2.out hb3 hb3.size)
      have NC3 : Hid (Smb w3 w3.heap.size C1 sy) := κ (Rd.below' NC2.out hb3 hb3.size)
      have F3 : Hid (∀ b, wd.heap.size ≤ b → Fz b A1 (nds nd) ∧ Fz b B1 (ints ac) ∧ Fz b C1 (smbs sy)) := κ fun b hb => ⟨fz_old NA2.out hb, fz_old NB2.out hb, fz_old NC2.out hb⟩
      have LT : Hid (g0 < wd.heap.size ∧ gl < wd.heap.size ∧ gC < wd.heap.size ∧ w.heap.size ≤ wd.heap.size) := κ ⟨KG.out.lt, KL.out.lt, C3.out.lt, Ud.out.size⟩
      have C4 := κ (Blk.below' C3.out hb3)
      have U4 := κ (CrdB.below_step Ud.out hb3)
      have HT3 : Hid (T w3) := κ ⟨C4.out.cell 4, trivial⟩
      have CS := κ CS
      have LC : Hid (wd.heap.size ≤ gc ∧ wd.heap.size ≤ gw ∧ wd.heap.size ≤ gh) := κ ⟨lc, lw, lh⟩
      clear hb3 lc lw lh CN KG KL NA2 NB2 NC2 C3 Ud HT
      refine hK.out _ _ HT3.out ?_
      clear hK K'
      refine jP ?_
      refine jA 11 HT3.out ?_
      refine jA 12 HT3.out ?_
      refine jA 13 HT3.out ?_
      refine jA 14 HT3.out ?_
      refine jA 15 HT3.out ?_
      have y7 := KG3.out.thaw 7
      have x7 := KG3.out.cell 7
      refine jV 16 fun K' hK => ?_
      go_simp
      refine hK.out _ _ ?_
      clear hK K'
      refine jP ?_
      refine Δ ?_
      have HG : Hid (Gt w.heap.size (own3 g0 gl gc gw gh) (w3.setCell ⟨g0, 7, none⟩ (.pointer (some ⟨gc, 0, none⟩))) g0 ⟨A1, B1, C1, c1, d1, f1, gc, gw, gh, none, 0, [], gl, none, 0, none, 0, none, 0⟩ (newG (sN : Int) wi ra ta nd ac sy wk 0 0)) := κ (by
        have h1 := LC.out; have h2 := LT.out; have h3 := NE.out
        unfold newG newS capS
        simp only [List.range_zero, List.map_nil, List.foldl_nil, Int.toNat_natCast, ← L1.out]
        have hk4 := blk_set KG3.out 7 (.pointer (some ⟨gc, 0, none⟩))
        refine gt_new (nl := nl) (al := al) (sl := sl) L1.out L2.out L3.out (by simpa using hk4) (blk_far KL3.out (by omega) _) (rd_st NA3.out FA.out.1.1) (rd_st NB3.out FA.out.1.2.1) (rd_st NC3.out FA.out.1.2.2) ⟨blk_far CS.out.c (by omega) _, blk_far CS.out.cw (by omega) _, blk_far CS.out.ch (by omega) _, CS.out.n1, CS.out.n2, CS.out.n3⟩ ?_ (by omega) (by omega)
        intro b hb
        rcases hb with rfl | rfl | hb
        · exact FA.out.1
        · exact FA.out.2
        · exact F3.out b (by omega))
      have KC : Hid (Gac.B1 (own3 g0 gl gc gw gh) (w3.setCell ⟨g0, 7, none⟩ (.pointer (some ⟨gc, 0, none⟩))) gC 43 #[.int .i64 (sN : Int), .int .i64 wi, .int .i64 ra, .int .i64 ta, .slice A nl c, .slice B al d, .slice C sl f]) := κ (by
        have h1 := LC.out; have h2 := LT.out; have h3 := NE.out
        exact ⟨blk_far C4.out (by omega) _, by unfold own3; rw [if_neg (by omega), if_neg (by omega), if_neg (by omega)]⟩)
      have UB : Hid (Below w.heap.size w (w3.setCell ⟨g0, 7, none⟩ (.pointer (some ⟨gc, 0, none⟩)))) := κ (U4.out.setCell (p := ⟨g0, 7, none⟩) NE.out.2.1 _)
      clear y7 x7 CS F3 LT LC HT3 C4 U4 KG3 KL3 NA3 NB3 NC3 FA NE
      generalize (own3 g0 gl gc gw gh) = ρ0 at HG KC
      generalize (w3.setCell ⟨g0, 7, none⟩ (.pointer (some ⟨gc, 0, none⟩))) = w4 at HG KC UB ⊢
      have y0 : w4.cell? ⟨gC, 4, none⟩ = some (.slice A nl c) := KC.out.1.cell 4
      go_upto_region 9 with fail
      clear y0
      go_loopg [47] nl (fun gk s47 w' => ∃ (j : Nat) (ρj : Nat → Nat) (qj : Gq), j + gk = nl ∧ s47 = .int .i64 j ∧ Hid (Gt w.heap.size ρj w' g0 qj (newG (sN : Int) wi ra ta nd ac sy wk j 0)) ∧ Hid (Gac.B1 ρj w' gC 43 #[.int .i64 (sN : Int), .int .i64 wi, .int .i64 ra, .int .i64 ta, .slice A nl c, .slice B al d, .slice C sl f]) ∧ Hid (Below w.heap.size w w'))
      case atStart => exact ⟨0, ρ0, _, by omega, rfl, HG, KC, UB⟩
      case round =>
        clear HG KC UB
        obtain ⟨j, ρj, qj, hg0, rfl, Hg, Kc, Ur⟩ := hrel
        by_cases hlt : j < nl
        · obtain ⟨g8, rfl⟩ : ∃ g8, gk = g8 + 1 := ⟨gk - 1, by omega⟩
          have t0 : decide ((j : Int) < (nl : Int)) = true := by simp; omega
          have hjn : j < nd.length := by rw [← L1.out]; exact hlt
          obtain ⟨bA, oA, hA, hbA, _⟩ := Nds.at hn.out (by omega)
          subst hA
          obtain ⟨c1', c2'⟩ := nds_cells (Rd.below' hn.out Ur.out Ur.out.size) j hjn
          have HJN := κ hjn
          clear hjn
          have bN := β wr (.cells #[.int .i64 (nP nd j), .int .i64 (nC nd j)] 102)
          have G5 := κ (Gt.ext Hg.out bN)
          have K5 := κ (Gmz.B1.ext Kc.out bN)
          have U5 := κ (CrdB.below_step Ur.out bN)
          have KN := κ (Blk.fresh wr 102 #[.int .i64 (nP nd j), .int .i64 (nC nd j)])
          go_upto_region 11 with fail
          obtain ⟨gn, hgn⟩ : ∃ y, y = wr.heap.size := ⟨_, rfl⟩
          simp only [← hgn] at KN ⊢
          clear hgn bN Hg Kc Ur c1' c2'
          generalize (wr.alloc (.cells #[.int .i64 (nP nd j), .int .i64 (nC nd j)] 102)) = w5 at G5 K5 U5 KN ⊢
          have b5 : Below w5.heap.size w5 w5.drew := (Below.refl _ _).drew
          replace G5 := κ (Gt.ext G5.out b5)
          replace K5 := κ (Gmz.B1.ext K5.out b5)
          replace U5 := κ (CrdB.below_step U5.out b5)
          replace KN := κ (Blk.below' KN.out b5)
          let T : World → Prop := fun w' => w'.cell? ⟨g0, 7, none⟩ = some (.pointer (some ⟨qj.gc, 0, none⟩)) ∧ w'.cell? ⟨gn, 1, none⟩ = some (.int .i64 (nC nd j))
          have HT : Hid (T w5.drew) := κ ⟨Gt.c7 G5.out, KN.out.cell 1⟩
          clear b5
          refine Ω T [8] ?_
          generalize w5.drew = wd at G5 K5 U5 KN HT ⊢
          refine jA 0 HT.out ?_
          refine jA 1 HT.out ?_
          refine jA 2 HT.out ?_
          refine jB 3 HT.out ?_
          refine jA 4 HT.out ?_
          refine jA 6 HT.out ?_
          refine jB 7 HT.out ?_
          refine jN 5 fun K' hK => ?_
          go_simp
          refine (capWord_any (j : Int) wd (by omega) (by omega)).mono ?_
          rintro e _ ⟨rfl, rfl⟩
          refine hK.out _ _ HT.out ?_
          clear hK K'
          refine jP ?_
          have CL := capS_len nd j (newS (sN : Int) nd.length)
          have HL1 : (newG (sN : Int) wi ra ta nd ac sy wk j 0).cs.ws.length = 1 + 2 * nl := by show (capS _ _ _).ws.length = _; rw [CL.1, L1.out]; exact List.length_replicate
          have HL2 : (newG (sN : Int) wi ra ta nd ac sy wk j 0).cs.hs.length = 2 + sN + nl := by show (capS _ _ _).hs.length = _; rw [CL.2, L1.out]; exact List.length_replicate
          have CT := Cn.store_any qj.gc qj.gw qj.gh (newG (sN : Int) wi ra ta nd ac sy wk j 0).cs (1 + 2 * (j : Int) + 1) (nC nd j) wd (κ G5.out.cs) (by omega) (by omega)
          clear CL HL1 HL2
          refine jV 8 fun K' hK => ?_
          go_simp
          refine CT.mono ?_
          rintro e w6 ⟨rfl, hc, hk⟩
          have G6 : Hid (Gt w.heap.size ρj w6 g0 qj (newG (sN : Int) wi ra ta nd ac sy wk (j + 1) 0)) := κ (by
            have h := G5.out.cells hk hc fun i hi => G5.out.new i (Nat.le_trans hk.size hi)
            unfold newG at h ⊢
            rw [capS_succ]
            exact h)
          have F6 : Fs (· = 2) ρj wd ρj w6 := Fs.kept hk G5.out.o2.1 G5.out.o2.2.1 G5.out.o2.2.2
          have K6 := κ (Gac.B1.fs K5.out F6 (by decide))
          have U6 := κ (U5.out.trans (F6.below G5.out.bs (fun k hk => by rw [G5.out.low k hk]; decide)))
          clear F6 hc hk CT
          refine hK.out _ _ ?_
          clear hK K'
          refine jP ?_
          refine Δ ?_
          clear HT G5 K5 U5 KN
          go_wp2_with fail
          go_roundg g8
          case measure => omega
          case rel => exact ⟨j + 1, ρj, qj, by omega, by rw [Int.natCast_add]; rfl, G6, K6, U6⟩
        · have t0 : decide ((j : Int) < (nl : Int)) = false := by simp; omega
          have HG : Hid (Gt w.heap.size ρj wr g0 qj (newG (sN : Int) wi ra ta nd ac sy wk nl 0)) := κ (by have h := Hg.out; rwa [show j = nl by omega] at h)
          have y0 : wr.cell? ⟨gC, 0, none⟩ = some (.int .i64 (sN : Int)) := Kc.out.1.cell 0
          clear Hg
          go_upto_region 14 with fail
          clear y0
          rename World => w8
          go_loopg [64] sN (fun gk s64 w' => ∃ (j : Nat) (ρj : Nat → Nat) (qj : Gq), j + gk = sN ∧ s64 = .int .i64 j ∧ Hid (Gt w.heap.size ρj w' g0 qj (newG (sN : Int) wi ra ta nd ac sy wk nl j)) ∧ Hid (Gac.B1 ρj w' gC 43 #[.int .i64 (sN : Int), .int .i64 wi, .int .i64 ra, .int .i64 ta, .slice A nl c, .slice B al d, .slice C sl f]) ∧ Hid (Below w.heap.size w w'))
          case atStart => exact ⟨0, ρj, _, by omega, rfl, HG, Kc, Ur⟩
          case round =>
            clear HG Kc Ur
            obtain ⟨i, ρi, qi, hg1, rfl, Hg, Kc, Ur⟩ := hrel
            by_cases hlt2 : i < sN
            · obtain ⟨g9, rfl⟩ : ∃ g9, gk = g9 + 1 := ⟨gk - 1, by omega⟩
              have t0 : decide ((i : Int) < (sN : Int)) = true := by simp; omega
              go_upto_region 16 with fail
              have b5 : Below wr.heap.size wr wr.drew := (Below.refl _ _).drew
              have G5 := κ (Gt.ext Hg.out b5)
              have K5 := κ (Gmz.B1.ext Kc.out b5)
              have U5 := κ (CrdB.below_step Ur.out b5)
              have LEN : (newG (sN : Int) wi ra ta nd ac sy wk nl i).bs.length = i := by simp [newG]
              have t8 : wr.drew.cell? ⟨g0, 8, none⟩ = some (.slice qi.Ab i qi.cb) := by have := Gt.c8 G5.out; rwa [LEN] at this
              let T : World → Prop := fun w' => w'.cell? ⟨g0, 8, none⟩ = some (.slice qi.Ab i qi.cb) ∧ w'.cell? ⟨gC, 0, none⟩ = some (.int .i64 (sN : Int)) ∧ w'.cell? ⟨gC, 1, none⟩ = some (.int .i64 wi) ∧ w'.cell? ⟨gC, 2, none⟩ = some (.int .i64 ra) ∧ w'.cell? ⟨gC, 3, none⟩ = some (.int .i64 ta) ∧ w'.cell? ⟨gC, 4, none⟩ = some (.slice A nl c) ∧ w'.cell? ⟨gC, 5, none⟩ = some (.slice B al d) ∧ w'.cell? ⟨gC, 6, none⟩ = some (.slice C sl f)
              have HT : Hid (T wr.drew) := κ ⟨t8, q7_of K5.out.1⟩
              have BB := bbegin_fresh (sN : Int) wi ra ta A B C nl al sl c d f (i : Int) wr.drew hal
              unfold MadeBg at BB
              rw [show bkA (some ⟨wr.drew.heap.size + 1 + 1, 0, none⟩) none al 0 (beginF al (i : Int)) = .agg #[.int .i64 (i : Int), .int .i64 0, .slice (some ⟨wr.drew.heap.size + 1 + 1, 0, none⟩) al al, .slice none 0 0] from by simp [bkA, beginF]] at BB
              clear b5 t8 Hg Kc Ur
              refine Ω T [12] ?_
              generalize wr.drew = wd at G5 K5 U5 HT BB ⊢
              refine jA 0 HT.out ?_
              refine jA 1 HT.out ?_
              refine jA 2 HT.out ?_
              refine jA 3 HT.out ?_
              refine jB 4 HT.out ?_
              refine jB 5 HT.out ?_
              refine jA 6 HT.out ?_
              refine jN 7 fun K' hK => ?_
              go_simp
              refine BB.mono ?_
              rintro e w6 ⟨rfl, hbm, hb6⟩
              have G6 := κ (Gt.ext G5.out hb6)
              have K6 := κ (Gmz.B1.ext K5.out hb6)
              have U6 := κ (CrdB.below_step U5.out hb6)
              have HT6 : Hid (T w6) := κ ⟨by have := Gt.c8 G6.out; rwa [LEN] at this, q7_of K6.out.1⟩
              obtain ⟨X, hX⟩ : ∃ X : Bx, X = ⟨some ⟨wd.heap.size + 1 + 1, 0, none⟩, none, al, 0, List.replicate al rc0, beginF al (i : Int)⟩ := ⟨_, rfl⟩
              have BX : Hid (Bk0 ρi w6 X) := κ (by rw [hX]; exact Bk0.fresh (x := ⟨some ⟨wd.heap.size + 1 + 1, 0, none⟩, none, al, 0, List.replicate al rc0, beginF al (i : Int)⟩) hbm G5.out.new (Fb_begin _ al wd (Nat.le_refl _)))
              have VX : bxV X = [.int .i64 (i : Int), .int .i64 0, .slice (some ⟨wd.heap.size + 1 + 1, 0, none⟩) al al, .slice none 0 0] := by rw [hX]; simp [bxV, beginF]
              have XB : Hid (X.b = beginF al (i : Int)) := κ (by rw [hX])
              clear hX hbm hb6
              refine hK.out _ _ HT6.out ?_
              clear hK K'
              refine jP ?_
              have b7 := β w6 (.cells #[.int .i64 (i : Int), .int .i64 0, .slice (some ⟨wd.heap.size + 1 + 1, 0, none⟩) al al, .slice none 0 0] 63)
              have G7 := κ (Gt.ext G6.out b7)
              have K7 := κ (Gmz.B1.ext K6.out b7)
              have U7 := κ (CrdB.below_step U6.out b7)
              have BX7 := κ (BX.out.fs (Fs.quiet (C := fun _ => False) b7) id)
              have HT7 : Hid (T (w6.alloc (.cells #[.int .i64 (i : Int), .int .i64 0, .slice (some ⟨wd.heap.size + 1 + 1, 0, none⟩) al al, .slice none 0 0] 63))) := κ ⟨by have := Gt.c8 G7.out; rwa [LEN] at this, q7_of K7.out.1⟩
              clear b7
              refine jN 8 fun K' hK => ?_
              go_simp
              refine hK.out _ _ HT7.out ?_
              clear hK K'
              refine jP ?_
              obtain ⟨i0, hi, hz0, hz1, hz2⟩ := info_parts infoBk
              have ow : (w6.alloc (.cells #[.int .i64 (i : Int), .int .i64 0, .slice (some ⟨wd.heap.size + 1 + 1, 0, none⟩) al al, .slice none 0 0] 63)).ownsRow 0 63 4 (.slice qi.Ab i qi.cb) i (bxs qi.xs) := by have := G7.out.row.1; rwa [LEN] at this
              have one : ∀ u ∈ bxV X, u.oneCell' = true := by rw [VX]; intro u hu; simp only [List.mem_cons, List.not_mem_nil, or_false] at hu; rcases hu with rfl | rfl | rfl | rfl <;> rfl
              refine jN 9 fun K' hK => ?_
              refine step_append_lies (w6.alloc (.cells #[.int .i64 (i : Int), .int .i64 0, .slice (some ⟨wd.heap.size + 1 + 1, 0, none⟩) al al, .slice none 0 0] 63)) rfl _ _ 97 rfl 0 63 i0 (.agg #[.int .i64 0, .int .i64 0, .slice none 0 0, .slice none 0 0]) 4 64 Tryz.underlying97 hi hz0 hz1 hz2 rfl (by decide) (.slice qi.Ab i qi.cb) i (bxs qi.xs) rfl ow ⟨w6.heap.size, 0, none⟩ 1 1 (bxV X) rfl (by rw [VX]; rfl) (by rw [VX]; exact one_cells (w := w6) rfl) one (by decide) (by simp only [maxLen]; omega) (by omega) (Nat.zero_le _) _ rfl ?_
              intro gn cap w9 ho hg hat hlt9
              have XB2 : X.b = beginF ac.length (i : Int) := by rw [XB.out, L2.out]
              have e9 : Fs (· = 3) ρi (w6.alloc (.cells #[.int .i64 (i : Int), .int .i64 0, .slice (some ⟨wd.heap.size + 1 + 1, 0, none⟩) al al, .slice none 0 0] 63)) (if (Value.slice qi.Ab i qi.cb).ownBlock = some gn then ρi else put ρi gn 3) w9 := Fs.grown hg (fun b hb => G7.out.row.2 b (by rw [LEN]; exact hb)) (grow_own hat) (fun N _ h => grow_cap (by decide) N h)
              have b9 := e9.blk G7.out.blk (by rw [G7.out.o0]; decide)
              have s8 : w9.cell? ⟨g0, 8, none⟩ = some (.slice qi.Ab i qi.cb) := by have := b9.cell 8; rw [show (gqV qi (newG (sN : Int) wi ra ta nd ac sy wk nl i))[8]? = some (.slice qi.Ab (newG (sN : Int) wi ra ta nd ac sy wk nl i).bs.length qi.cb) from rfl, LEN] at this; exact this
              have z8 := b9.thaw 8
              have H9 : Hid (T w9) := κ ⟨s8, q7_of (e9.blk K7.out.1 (by rw [K7.out.2]; decide))⟩
              obtain ⟨ρ9, hGn, fGn⟩ := Gt.bookgrow G7.out X BX7.out (by rw [LEN, bxs_snoc]; exact ho) (by rw [LEN]; exact hg) (by rw [LEN]; exact hat) hlt9
              rw [LEN] at hGn fGn
              have HGn : Hid (Gt w.heap.size ρ9 (w9.setCell ⟨g0, 8, none⟩ (.slice (some ⟨gn, 0, none⟩) (i + 1) cap)) g0 _ (newG (sN : Int) wi ra ta nd ac sy wk nl (i + 1))) := κ (by
                have h := hGn
                rw [XB2] at h
                unfold newG at h ⊢
                rw [List.range_succ, List.map_append]
                exact h)
              have Kn := κ (Gac.B1.fs K7.out fGn (by decide))
              have Un := κ (U7.out.trans (fGn.below G7.out.bs (fun k hk => by rw [G7.out.low k hk]; decide)))
              clear hGn fGn ho hg hat hlt9 e9 b9 XB XB2 VX one ow BX BX7 HT HT6 HT7 G5 G6 G7 K5 K6 K7 U5 U6 U7 BB hi hz0 hz1 hz2
              refine hK.out _ _ H9.out ?_
              clear hK K'
              refine jP ?_
              refine jA 10 H9.out ?_
              refine jA 11 H9.out ?_
              refine jV 12 fun K' hK => ?_
              go_simp
              refine hK.out _ _ ?_
              clear hK K'
              refine jP ?_
              refine Δ ?_
              clear H9 s8 z8
              generalize (w9.setCell ⟨g0, 8, none⟩ (.slice (some ⟨gn, 0, none⟩) (i + 1) cap)) = w10 at HGn Kn Un ⊢
              go_wp2_with fail
              go_roundg g9
              case measure => omega
              case rel => exact ⟨i + 1, ρ9, _, by omega, by rw [Int.natCast_add]; rfl, HGn, Kn, Un⟩
            · have t0 : decide ((i : Int) < (sN : Int)) = false := by simp; omega
              have hin : i = sN := by omega
              have HF : Hid (MadeNg (sN : Int) wi ra ta nd ac sy wk w (.returned (.tuple #[.pointer (some ⟨g0, 0, none⟩), .int .i64 0])) wr) := κ ⟨Ur.out, fun h => absurd HC0.out h, fun _ => ⟨ρi, g0, qi, rfl, by have h := Hg.out; rw [hin, L1.out] at h; rw [Int.toNat_natCast]; exact h⟩⟩
              clear hin Hg Kc Ur
              go_wp2_with fail
              exact bodyPost_ret (v := .tuple #[.pointer (some ⟨g0, 0, none⟩), .int .i64 0]) (by simp [results, Tryz.results8, go_sem]) rfl HF.out
end Gnw
end Go.Proofs.YtaeddnjjeholgaaGreat
