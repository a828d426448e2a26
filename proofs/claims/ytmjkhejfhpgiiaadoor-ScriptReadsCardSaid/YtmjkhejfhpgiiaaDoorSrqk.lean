/- Texts side by side. -/
import Derived.Test.YtmjkhejfhpgiiaaDoorSrqj
set_option linter.unusedVariables false
set_option linter.unusedSimpArgs false
set_option maxRecDepth 100000
set_option maxHeartbeats 16000000
namespace Go.Proofs.YtmjkhejfhpgiiaaDoor
open Kap Go.ChangeShapes Go.WideShapes Go.ChangeAt Go.RowKit Go.Lib Mem Tre Fix3 Cfg Stk Lat Lap Rul1 Wpl Spa Spm Shw Scf
namespace Srd
def st9 (W : World) (g : Nat) (v0 v1 v2 v3 v4 v5 v6 v7 v8 : Value) : World := (((((((((W.setCell ⟨g, 0, none⟩ v0).setCell ⟨g, 1, none⟩ v1).setCell ⟨g, 2, none⟩ v2).setCell ⟨g, 3, none⟩ v3).setCell ⟨g, 4, none⟩ v4).setCell ⟨g, 5, none⟩ v5).setCell ⟨g, 6, none⟩ v6).setCell ⟨g, 7, none⟩ v7).setCell ⟨g, 8, none⟩ v8)
theorem st9_blk {W : World} {g : Nat} {te : TypeId} {u0 u1 u2 u3 u4 u5 u6 u7 u8 v0 v1 v2 v3 v4 v5 v6 v7 v8 : Value} (hk : Blk W g te #[u0, u1, u2, u3, u4, u5, u6, u7, u8]) : Blk (st9 W g v0 v1 v2 v3 v4 v5 v6 v7 v8) g te #[v0, v1, v2, v3, v4, v5, v6, v7, v8] := by
  have k0 : Blk (W.setCell ⟨g, 0, none⟩ v0) g te #[v0, u1, u2, u3, u4, u5, u6, u7, u8] := blk_st hk 0 v0
  have k1 : Blk ((W.setCell ⟨g, 0, none⟩ v0).setCell ⟨g, 1, none⟩ v1) g te #[v0, v1, u2, u3, u4, u5, u6, u7, u8] := blk_st k0 1 v1
  have k2 : Blk (((W.setCell ⟨g, 0, none⟩ v0).setCell ⟨g, 1, none⟩ v1).setCell ⟨g, 2, none⟩ v2) g te #[v0, v1, v2, u3, u4, u5, u6, u7, u8] := blk_st k1 2 v2
  have k3 : Blk ((((W.setCell ⟨g, 0, none⟩ v0).setCell ⟨g, 1, none⟩ v1).setCell ⟨g, 2, none⟩ v2).setCell ⟨g, 3, none⟩ v3) g te #[v0, v1, v2, v3, u4, u5, u6, u7, u8] := blk_st k2 3 v3
  have k4 : Blk (((((W.setCell ⟨g, 0, none⟩ v0).setCell ⟨g, 1, none⟩ v1).setCell ⟨g, 2, none⟩ v2).setCell ⟨g, 3, none⟩ v3).setCell ⟨g, 4, none⟩ v4) g te #[v0, v1, v2, v3, v4, u5, u6, u7, u8] := blk_st k3 4 v4
  have k5 : Blk ((((((W.setCell ⟨g, 0, none⟩ v0).setCell ⟨g, 1, none⟩ v1).setCell ⟨g, 2, none⟩ v2).setCell ⟨g, 3, none⟩ v3).setCell ⟨g, 4, none⟩ v4).setCell ⟨g, 5, none⟩ v5) g te #[v0, v1, v2, v3, v4, v5, u6, u7, u8] := blk_st k4 5 v5
  have k6 : Blk (((((((W.setCell ⟨g, 0, none⟩ v0).setCell ⟨g, 1, none⟩ v1).setCell ⟨g, 2, none⟩ v2).setCell ⟨g, 3, none⟩ v3).setCell ⟨g, 4, none⟩ v4).setCell ⟨g, 5, none⟩ v5).setCell ⟨g, 6, none⟩ v6) g te #[v0, v1, v2, v3, v4, v5, v6, u7, u8] := blk_st k5 6 v6
  have k7 : Blk ((((((((W.setCell ⟨g, 0, none⟩ v0).setCell ⟨g, 1, none⟩ v1).setCell ⟨g, 2, none⟩ v2).setCell ⟨g, 3, none⟩ v3).setCell ⟨g, 4, none⟩ v4).setCell ⟨g, 5, none⟩ v5).setCell ⟨g, 6, none⟩ v6).setCell ⟨g, 7, none⟩ v7) g te #[v0, v1, v2, v3, v4, v5, v6, v7, u8] := blk_st k6 7 v7
  have k8 : Blk (((((((((W.setCell ⟨g, 0, none⟩ v0).setCell ⟨g, 1, none⟩ v1).setCell ⟨g, 2, none⟩ v2).setCell ⟨g, 3, none⟩ v3).setCell ⟨g, 4, none⟩ v4).setCell ⟨g, 5, none⟩ v5).setCell ⟨g, 6, none⟩ v6).setCell ⟨g, 7, none⟩ v7).setCell ⟨g, 8, none⟩ v8) g te #[v0, v1, v2, v3, v4, v5, v6, v7, v8] := blk_st k7 8 v8
  exact k8
theorem st9_below {B : Nat} {w0 W : World} {g : Nat} {v0 v1 v2 v3 v4 v5 v6 v7 v8 : Value} (hb : Below B w0 W) (hg : B ≤ g) : Below B w0 (st9 W g v0 v1 v2 v3 v4 v5 v6 v7 v8) := (((((((((hb.setCell (p := ⟨g, 0, none⟩) hg v0).setCell (p := ⟨g, 1, none⟩) hg v1).setCell (p := ⟨g, 2, none⟩) hg v2).setCell (p := ⟨g, 3, none⟩) hg v3).setCell (p := ⟨g, 4, none⟩) hg v4).setCell (p := ⟨g, 5, none⟩) hg v5).setCell (p := ⟨g, 6, none⟩) hg v6).setCell (p := ⟨g, 7, none⟩) hg v7).setCell (p := ⟨g, 8, none⟩) hg v8)
theorem st9_far {W : World} {g g' : Nat} {te : TypeId} {cs : Array Value} {v0 v1 v2 v3 v4 v5 v6 v7 v8 : Value} (k : Blk W g te cs) (hne : g ≠ g') : Blk (st9 W g' v0 v1 v2 v3 v4 v5 v6 v7 v8) g te cs := (far_st (far_st (far_st (far_st (far_st (far_st (far_st (far_st (far_st k hne v0) hne v1) hne v2) hne v3) hne v4) hne v5) hne v6) hne v7) hne v8)
theorem z9_of {W : World} {g : Nat} {te : TypeId} {v0 v1 v2 v3 v4 v5 v6 v7 v8 : Value} (h : Blk W g te #[v0, v1, v2, v3, v4, v5, v6, v7, v8]) : W.cell? ⟨g, 0, none⟩ = some v0 ∧ W.cell? ⟨g, 1, none⟩ = some v1 ∧ W.cell? ⟨g, 2, none⟩ = some v2 ∧ W.cell? ⟨g, 3, none⟩ = some v3 ∧ W.cell? ⟨g, 4, none⟩ = some v4 ∧ W.cell? ⟨g, 5, none⟩ = some v5 ∧ W.cell? ⟨g, 6, none⟩ = some v6 ∧ W.cell? ⟨g, 7, none⟩ = some v7 ∧ W.cell? ⟨g, 8, none⟩ = some v8 ∧ W.frozen? ⟨g, 0, none⟩ = false ∧ W.frozen? ⟨g, 1, none⟩ = false ∧ W.frozen? ⟨g, 2, none⟩ = false ∧ W.frozen? ⟨g, 3, none⟩ = false ∧ W.frozen? ⟨g, 4, none⟩ = false ∧ W.frozen? ⟨g, 5, none⟩ = false ∧ W.frozen? ⟨g, 6, none⟩ = false ∧ W.frozen? ⟨g, 7, none⟩ = false ∧ W.frozen? ⟨g, 8, none⟩ = false := ⟨h.cell 0, h.cell 1, h.cell 2, h.cell 3, h.cell 4, h.cell 5, h.cell 6, h.cell 7, h.cell 8, h.thaw 0, h.thaw 1, h.thaw 2, h.thaw 3, h.thaw 4, h.thaw 5, h.thaw 6, h.thaw 7, h.thaw 8⟩
theorem q9_of {W : World} {g : Nat} {te : TypeId} {v0 v1 v2 v3 v4 v5 v6 v7 v8 : Value} (h : Blk W g te #[v0, v1, v2, v3, v4, v5, v6, v7, v8]) : W.cell? ⟨g, 0, none⟩ = some v0 ∧ W.cell? ⟨g, 1, none⟩ = some v1 ∧ W.cell? ⟨g, 2, none⟩ = some v2 ∧ W.cell? ⟨g, 3, none⟩ = some v3 ∧ W.cell? ⟨g, 4, none⟩ = some v4 ∧ W.cell? ⟨g, 5, none⟩ = some v5 ∧ W.cell? ⟨g, 6, none⟩ = some v6 ∧ W.cell? ⟨g, 7, none⟩ = some v7 ∧ W.cell? ⟨g, 8, none⟩ = some v8 := ⟨h.cell 0, h.cell 1, h.cell 2, h.cell 3, h.cell 4, h.cell 5, h.cell 6, h.cell 7, h.cell 8⟩
theorem blk_ne {w : World} {a b : Nat} {ta tb : TypeId} {ca cb : Array Value} (h : Blk w a ta ca) (k : Blk w b tb cb) (ht : ta ≠ tb) : a ≠ b := by
  rintro rfl
  have := h.symm.trans k
  injection this with this
  injection this with _ this
  exact ht this
theorem Cn.mono {l : List UInt8} {w W w' : World} {gA gB gC : Nat} (h : Cn l W w' gA gB gC) (hs : w.heap.size ≤ W.heap.size) : Cn l w w' gA gB gC := ⟨h.a, h.b, h.c, Nat.le_trans hs h.la, Nat.le_trans hs h.lb, Nat.le_trans hs h.lc⟩
theorem Cn.below {l : List UInt8} {w W w' : World} {gA gB gC : Nat} (h : Cn l w W gA gB gC) (hb : Below W.heap.size W w') : Cn l w w' gA gB gC := ⟨h.a.below' hb, h.b.below' hb, h.c.below' hb, h.la, h.lb, h.lc⟩
def lsV : Array Value := #[.slice none 0 0, .slice none 0 0, .slice none 0 0]
def scV (l : List UInt8) (gA gB gC gL : Nat) (pk : Value) : Array Value := #[.int .i64 (1 + bt l 0 % 3), .int .i64 (bt l 1 % 4), .int .i64 (1 + bt l 2 % 6), .int .i64 (1 + bt l 3 % 6), .slice (some ⟨gA, 0, none⟩) 4 4, .slice (some ⟨gB, 0, none⟩) 3 3, .slice (some ⟨gC, 0, none⟩) 2 2, .slice (some ⟨gL, 0, none⟩) 3 3, pk]
structure Sr (l : List UInt8) (w w' : World) (gS gA gB gC gL : Nat) : Prop where
  s : Blk w' gS 30 (scV l gA gB gC gL (.slice none 0 0))
  c : Cn l w w' gA gB gC
  li : Blk w' gL 45 lsV
  ls : w.heap.size ≤ gS
  ll : w.heap.size ≤ gL
theorem ms_info : (Tryd.prog.info? 45).map (fun i => (i.zero, i.size, i.bytes)) = some (some (.slice none 0 0), 1, 24) := by kernel_rfl
theorem mk3 (W : World) : (Instr.makeSlice 28 (.int .i64 3) (.int .i64 3)).run Tryd.prog W = .ok (.slice (some ⟨W.heap.size, 0, none⟩) 3 3) (W.alloc (.cells #[.slice none 0 0, .slice none 0 0, .slice none 0 0] 45)) :=
  by
    have h := Go.run_make_row' (P := Tryd.prog) 28 45 (.slice none 0 0) 24 Tryd.underlying28 ms_info rfl .i64 .i64 3 (by omega) (by omega) W
    have e : madeCells #[Value.slice none 0 0] 3 = #[.slice none 0 0, .slice none 0 0, .slice none 0 0] := by kernel_rfl
    rw [e] at h
    exact h
theorem sr_fin {l : List UInt8} {w0 W : World} {gS gA gB gC gL : Nat} (hc : Hid (Cn l w0 W gA gB gC)) (hm : Hid (Blk W gL 45 #[.slice none 0 0, .slice none 0 0, .slice none 0 0])) (hs : Hid (Blk W gS 30 #[.int .i64 0, .int .i64 0, .int .i64 0, .int .i64 0, .slice none 0 0, .slice none 0 0, .slice none 0 0, .slice none 0 0, .slice none 0 0])) (ll : Hid (w0.heap.size ≤ gL)) (ls : Hid (w0.heap.size ≤ gS)) (hb : Hid (Below w0.heap.size w0 W)) :
    Sr l w0 (st9 W gS (.int .i64 (1 + bt l 0 % 3)) (.int .i64 (bt l 1 % 4)) (.int .i64 (1 + bt l 2 % 6)) (.int .i64 (1 + bt l 3 % 6)) (.slice (some ⟨gA, 0, none⟩) 4 4) (.slice (some ⟨gB, 0, none⟩) 3 3) (.slice (some ⟨gC, 0, none⟩) 2 2) (.slice (some ⟨gL, 0, none⟩) 3 3) (.slice none 0 0)) gS gA gB gC gL ∧ Below w0.heap.size w0 (st9 W gS (.int .i64 (1 + bt l 0 % 3)) (.int .i64 (bt l 1 % 4)) (.int .i64 (1 + bt l 2 % 6)) (.int .i64 (1 + bt l 3 % 6)) (.slice (some ⟨gA, 0, none⟩) 4 4) (.slice (some ⟨gB, 0, none⟩) 3 3) (.slice (some ⟨gC, 0, none⟩) 2 2) (.slice (some ⟨gL, 0, none⟩) 3 3) (.slice none 0 0)) :=
  ⟨⟨st9_blk hs.out, ⟨st9_far hc.out.a (blk_ne hc.out.a hs.out (by decide)), st9_far hc.out.b (blk_ne hc.out.b hs.out (by decide)), st9_far hc.out.c (blk_ne hc.out.c hs.out (by decide)), hc.out.la, hc.out.lb, hc.out.lc⟩, st9_far hm.out (blk_ne hm.out hs.out (by decide)), ls.out, ll.out⟩, st9_below hb.out ls.out⟩
def MadeSr (l : List UInt8) (w : World) (e : Ending) (w' : World) : Prop := ∃ gA gB gC gL, e = .returned (.agg (scV l gA gB gC gL (.slice none 0 0))) ∧ Cn l w w' gA gB gC ∧ Blk w' gL 45 lsV ∧ Below w.heap.size w w'
theorem sreadS_any (l : List UInt8) (A : Option Addr) (c : Nat) (w : World) (hl : Hid (By w w.heap.size A l)) (hn : (l.length : Int) ≤ 12) : Calls Tryd.prog 4 #[.slice A l.length c] w (MadeSr l w) := by
  have mk : ∀ W : World, (Instr.makeSlice 28 (.int .i64 3) (.int .i64 3)).run Tryd.prog W = .ok (.slice (some ⟨W.heap.size, 0, none⟩) 3 3) (W.alloc (.cells #[.slice none 0 0, .slice none 0 0, .slice none 0 0] 45)) := mk3
  have b0 := κ (β w (.cells #[.int .i64 0, .int .i64 0, .int .i64 0, .int .i64 0, .slice none 0 0, .slice none 0 0, .slice none 0 0, .slice none 0 0, .slice none 0 0] 30))
  have z0 := κ (δ w 30 #[.int .i64 0, .int .i64 0, .int .i64 0, .int .i64 0, .slice none 0 0, .slice none 0 0, .slice none 0 0, .slice none 0 0, .slice none 0 0] w.heap.size rfl)
  have l0 := κ (Rd.below' hl.out b0.out b0.out.size)
  go_enter Tryd.func4, Tryd.ntmps4
  go_upto_region 1 with fail
  generalize w.alloc (.cells #[.int .i64 0, .int .i64 0, .int .i64 0, .int .i64 0, .slice none 0 0, .slice none 0 0, .slice none 0 0, .slice none 0 0, .slice none 0 0] 30) = w0 at b0 z0 l0 ⊢
  have hg : Hid (w.heap.size ≤ w.heap.size) := κ (Nat.le_refl _)
  generalize hgR : w.heap.size = gR at z0 ⊢
  have hg : Hid (w.heap.size ≤ gR) := κ (by omega)
  clear hgR
  go_cut [3] (fun s3 wx => ∃ gS gA gB gC gL, s3 = .pointer (some ⟨gS, 0, none⟩) ∧ Hid (Sr l w0 wx gS gA gB gC gL) ∧ Hid (Below w0.heap.size w0 wx))
  case first =>
    refine wp_region_noPanic ?_
    refine wp_region_L (T := (fun _ => True)) (st := [5]) (by kernel_rfl) ?_
    have HT : Hid True := κ trivial
    have bW : Hid (Below w0.heap.size w0 w0.drew) := κ (Below.refl _ _).drew
    have lW : Hid (By w0.drew w0.drew.heap.size A l) := l0
    generalize w0.drew = wD at bW lW ⊢
    refine wpL_word (i := 0) (v := ?_) rfl (by kernel_rfl) (fun _ _ _ h => h) (by kernel_rfl) _ _ _ _ (by kernel_rfl) (by kernel_rfl) (Or.inl ⟨by rfl, ?_⟩) (fun _ => HT.out) ?_
    rotate_left
    · intro w' _
      go_simp
      try with_reducible rfl
    (try simp only [Act.put, List.getElem_toArray, List.getElem_cons_succ, List.getElem_cons_zero, List.setIfInBounds_toArray, List.set_cons_zero, List.set_cons_succ])
    refine wpL_three (m := 1) (n := 2) (p := 4) (by kernel_rfl) rfl rfl rfl ?_ ?_ ?_
    · intro K' hK
      go_simp
      refine (sconfig_any l A c wD lW (by omega)).mono ?_
      rintro e wE ⟨gA, gB, gC, rfl, hc, hb⟩
      have b2 := κ (Rul1.below_step bW.out hb)
      have l2 := κ (Rd.below' lW.out hb hb.size)
      have MC := κ (Cn.mono hc bW.out.size)
      clear hc hb bW lW
      unfold cnV
      refine hK.out _ _ trivial ?_
      clear hK K'
      (try simp only [Act.put, List.getElem_toArray, List.getElem_cons_succ, List.getElem_cons_zero, List.setIfInBounds_toArray, List.set_cons_zero, List.set_cons_succ])
      have bW := b2
      have lW := l2
      clear b2 l2
      have NC := MC
      clear MC
      generalize wE = wD at *
      refine wpL_two (m := 2) (n := 4) (by kernel_rfl) rfl rfl ?_ ?_
      · intro K' hK
        go_simp
        have hu : Below wD.heap.size wD (wD.alloc (.cells #[.slice none 0 0, .slice none 0 0, .slice none 0 0] 45)) := (Below.refl _ _).alloc (Nat.le_refl _) _
        have b2 := κ (Rul1.below_step bW.out hu)
        have l2 := κ (Rd.below' lW.out hu hu.size)
        have MM := κ (Blk.fresh wD 45 #[.slice none 0 0, .slice none 0 0, .slice none 0 0])
        have lL : Hid (w0.heap.size ≤ wD.heap.size) := κ bW.out.size
        have MC := κ (Cn.below NC.out hu)
        clear hu bW lW NC
        generalize wD.alloc (.cells #[.slice none 0 0, .slice none 0 0, .slice none 0 0] 45) = wE at b2 l2 MM MC ⊢
        generalize wD.heap.size = gL at MM lL ⊢
        refine hK.out _ _ trivial ?_
        clear hK K'
        (try simp only [Act.put, List.getElem_toArray, List.getElem_cons_succ, List.getElem_cons_zero, List.setIfInBounds_toArray, List.set_cons_zero, List.set_cons_succ])
        have bW := b2
        have lW := l2
        clear b2 l2
        have NC := MC
        clear MC
        have NM := MM
        clear MM
        generalize wE = wD at *
        refine wpL_word (i := 3) (v := ?_) rfl (by kernel_rfl) (fun _ _ _ h => h) (by kernel_rfl) _ _ _ _ (by kernel_rfl) (by kernel_rfl) (Or.inl ⟨by rfl, ?_⟩) (fun _ => HT.out) ?_
        rotate_left
        · intro w' _
          go_simp
          try with_reducible rfl
        (try simp only [Act.put, List.getElem_toArray, List.getElem_cons_succ, List.getElem_cons_zero, List.setIfInBounds_toArray, List.set_cons_zero, List.set_cons_succ])
        refine wpL_next (n := 4) (by kernel_rfl) rfl ?_
        · intro K' hK
          go_simp
          have hu : Below wD.heap.size wD (wD.alloc (.cells #[.int .i64 0, .int .i64 0, .int .i64 0, .int .i64 0, .slice none 0 0, .slice none 0 0, .slice none 0 0, .slice none 0 0, .slice none 0 0] 30)) := (Below.refl _ _).alloc (Nat.le_refl _) _
          have b2 := κ (Rul1.below_step bW.out hu)
          have l2 := κ (Rd.below' lW.out hu hu.size)
          have MS := κ (Blk.fresh wD 30 #[.int .i64 0, .int .i64 0, .int .i64 0, .int .i64 0, .slice none 0 0, .slice none 0 0, .slice none 0 0, .slice none 0 0, .slice none 0 0])
          have lS : Hid (w0.heap.size ≤ wD.heap.size) := κ bW.out.size
          have MC := κ (Cn.below NC.out hu)
          have MM := κ (NM.out.below' hu)
          clear hu bW lW NC NM
          generalize wD.alloc (.cells #[.int .i64 0, .int .i64 0, .int .i64 0, .int .i64 0, .slice none 0 0, .slice none 0 0, .slice none 0 0, .slice none 0 0, .slice none 0 0] 30) = wE at b2 l2 MS MC MM ⊢
          generalize wD.heap.size = gS at MS lS ⊢
          refine hK.out _ _ trivial ?_
          clear hK K'
          (try simp only [Act.put, List.getElem_toArray, List.getElem_cons_succ, List.getElem_cons_zero, List.setIfInBounds_toArray, List.set_cons_zero, List.set_cons_succ])
          have bW := b2
          have lW := l2
          clear b2 l2
          have NC := MC
          clear MC
          have NM := MM
          clear MM
          have NS := MS
          clear MS
          generalize wE = wD at *
          obtain ⟨s0, s1, s2, s3, s4, s5, s6, s7, s8, y0, y1, y2, y3, y4, y5, y6, y7, y8⟩ := z9_of NS.out
          refine wpL_late (n := 5) (by kernel_rfl) rfl (by kernel_rfl) (fun K' hK => ?_)
          go_simp
          refine hK.out _ _ ?_
          clear hK K'
          (try simp only [Act.put, List.getElem_toArray, List.getElem_cons_succ, List.getElem_cons_zero, List.setIfInBounds_toArray, List.set_cons_zero, List.set_cons_succ])
          refine wpL_done (by kernel_rfl) ?_ _
          refine NoPanic.normal ?_
          have F := sr_fin NC NM NS lL lS bW
          clear s0 y0 s1 y1 s2 y2 s3 y3 s4 y4 s5 y5 s6 y6 s7 y7 s8 y8
          go_wp2_with fail
          go_meet
          unfold st9 at F
          exact ⟨gS, gA, gB, gC, gL, rfl, κ F.1, κ F.2⟩
      · intro K' hK
        go_simp
        have hu : Below wD.heap.size wD (wD.alloc (.cells #[.int .i64 0, .int .i64 0, .int .i64 0, .int .i64 0, .slice none 0 0, .slice none 0 0, .slice none 0 0, .slice none 0 0, .slice none 0 0] 30)) := (Below.refl _ _).alloc (Nat.le_refl _) _
        have b2 := κ (Rul1.below_step bW.out hu)
        have l2 := κ (Rd.below' lW.out hu hu.size)
        have MS := κ (Blk.fresh wD 30 #[.int .i64 0, .int .i64 0, .int .i64 0, .int .i64 0, .slice none 0 0, .slice none 0 0, .slice none 0 0, .slice none 0 0, .slice none 0 0])
        have lS : Hid (w0.heap.size ≤ wD.heap.size) := κ bW.out.size
        have MC := κ (Cn.below NC.out hu)
        clear hu bW lW NC
        generalize wD.alloc (.cells #[.int .i64 0, .int .i64 0, .int .i64 0, .int .i64 0, .slice none 0 0, .slice none 0 0, .slice none 0 0, .slice none 0 0, .slice none 0 0] 30) = wE at b2 l2 MS MC ⊢
        generalize wD.heap.size = gS at MS lS ⊢
        refine hK.out _ _ trivial ?_
        clear hK K'
        (try simp only [Act.put, List.getElem_toArray, List.getElem_cons_succ, List.getElem_cons_zero, List.setIfInBounds_toArray, List.set_cons_zero, List.set_cons_succ])
        have bW := b2
        have lW := l2
        clear b2 l2
        have NC := MC
        clear MC
        have NS := MS
        clear MS
        generalize wE = wD at *
        refine wpL_next (n := 2) (by kernel_rfl) rfl ?_
        · intro K' hK
          go_simp
          have hu : Below wD.heap.size wD (wD.alloc (.cells #[.slice none 0 0, .slice none 0 0, .slice none 0 0] 45)) := (Below.refl _ _).alloc (Nat.le_refl _) _
          have b2 := κ (Rul1.below_step bW.out hu)
          have l2 := κ (Rd.below' lW.out hu hu.size)
          have MM := κ (Blk.fresh wD 45 #[.slice none 0 0, .slice none 0 0, .slice none 0 0])
          have lL : Hid (w0.heap.size ≤ wD.heap.size) := κ bW.out.size
          have MC := κ (Cn.below NC.out hu)
          have MS := κ (NS.out.below' hu)
          clear hu bW lW NC NS
          generalize wD.alloc (.cells #[.slice none 0 0, .slice none 0 0, .slice none 0 0] 45) = wE at b2 l2 MM MC MS ⊢
          generalize wD.heap.size = gL at MM lL ⊢
          refine hK.out _ _ trivial ?_
          clear hK K'
          (try simp only [Act.put, List.getElem_toArray, List.getElem_cons_succ, List.getElem_cons_zero, List.setIfInBounds_toArray, List.set_cons_zero, List.set_cons_succ])
          have bW := b2
          have lW := l2
          clear b2 l2
          have NC := MC
          clear MC
          have NS := MS
          clear MS
          have NM := MM
          clear MM
          generalize wE = wD at *
          refine wpL_word (i := 3) (v := ?_) rfl (by kernel_rfl) (fun _ _ _ h => h) (by kernel_rfl) _ _ _ _ (by kernel_rfl) (by kernel_rfl) (Or.inl ⟨by rfl, ?_⟩) (fun _ => HT.out) ?_
          rotate_left
          · intro w' _
            go_simp
            try with_reducible rfl
          (try simp only [Act.put, List.getElem_toArray, List.getElem_cons_succ, List.getElem_cons_zero, List.setIfInBounds_toArray, List.set_cons_zero, List.set_cons_succ])
          obtain ⟨s0, s1, s2, s3, s4, s5, s6, s7, s8, y0, y1, y2, y3, y4, y5, y6, y7, y8⟩ := z9_of NS.out
          refine wpL_late (n := 5) (by kernel_rfl) rfl (by kernel_rfl) (fun K' hK => ?_)
          go_simp
          refine hK.out _ _ ?_
          clear hK K'
          (try simp only [Act.put, List.getElem_toArray, List.getElem_cons_succ, List.getElem_cons_zero, List.setIfInBounds_toArray, List.set_cons_zero, List.set_cons_succ])
          refine wpL_done (by kernel_rfl) ?_ _
          refine NoPanic.normal ?_
          have F := sr_fin NC NM NS lL lS bW
          clear s0 y0 s1 y1 s2 y2 s3 y3 s4 y4 s5 y5 s6 y6 s7 y7 s8 y8
          go_wp2_with fail
          go_meet
          unfold st9 at F
          exact ⟨gS, gA, gB, gC, gL, rfl, κ F.1, κ F.2⟩
    · intro K' hK
      go_simp
      have hu : Below wD.heap.size wD (wD.alloc (.cells #[.slice none 0 0, .slice none 0 0, .slice none 0 0] 45)) := (Below.refl _ _).alloc (Nat.le_refl _) _
      have b2 := κ (Rul1.below_step bW.out hu)
      have l2 := κ (Rd.below' lW.out hu hu.size)
      have MM := κ (Blk.fresh wD 45 #[.slice none 0 0, .slice none 0 0, .slice none 0 0])
      have lL : Hid (w0.heap.size ≤ wD.heap.size) := κ bW.out.size
      clear hu bW lW
      generalize wD.alloc (.cells #[.slice none 0 0, .slice none 0 0, .slice none 0 0] 45) = wE at b2 l2 MM ⊢
      generalize wD.heap.size = gL at MM lL ⊢
      refine hK.out _ _ trivial ?_
      clear hK K'
      (try simp only [Act.put, List.getElem_toArray, List.getElem_cons_succ, List.getElem_cons_zero, List.setIfInBounds_toArray, List.set_cons_zero, List.set_cons_succ])
      have bW := b2
      have lW := l2
      clear b2 l2
      have NM := MM
      clear MM
      generalize wE = wD at *
      refine wpL_two (m := 1) (n := 4) (by kernel_rfl) rfl rfl ?_ ?_
      · intro K' hK
        go_simp
        refine (sconfig_any l A c wD lW (by omega)).mono ?_
        rintro e wE ⟨gA, gB, gC, rfl, hc, hb⟩
        have b2 := κ (Rul1.below_step bW.out hb)
        have l2 := κ (Rd.below' lW.out hb hb.size)
        have MC := κ (Cn.mono hc bW.out.size)
        have MM := κ (NM.out.below' hb)
        clear hc hb bW lW NM
        unfold cnV
        refine hK.out _ _ trivial ?_
        clear hK K'
        (try simp only [Act.put, List.getElem_toArray, List.getElem_cons_succ, List.getElem_cons_zero, List.setIfInBounds_toArray, List.set_cons_zero, List.set_cons_succ])
        have bW := b2
        have lW := l2
        clear b2 l2
        have NM := MM
        clear MM
        have NC := MC
        clear MC
        generalize wE = wD at *
        refine wpL_word (i := 3) (v := ?_) rfl (by kernel_rfl) (fun _ _ _ h => h) (by kernel_rfl) _ _ _ _ (by kernel_rfl) (by kernel_rfl) (Or.inl ⟨by rfl, ?_⟩) (fun _ => HT.out) ?_
        rotate_left
        · intro w' _
          go_simp
          try with_reducible rfl
        (try simp only [Act.put, List.getElem_toArray, List.getElem_cons_succ, List.getElem_cons_zero, List.setIfInBounds_toArray, List.set_cons_zero, List.set_cons_succ])
        refine wpL_next (n := 4) (by kernel_rfl) rfl ?_
        · intro K' hK
          go_simp
          have hu : Below wD.heap.size wD (wD.alloc (.cells #[.int .i64 0, .int .i64 0, .int .i64 0, .int .i64 0, .slice none 0 0, .slice none 0 0, .slice none 0 0, .slice none 0 0, .slice none 0 0] 30)) := (Below.refl _ _).alloc (Nat.le_refl _) _
          have b2 := κ (Rul1.below_step bW.out hu)
          have l2 := κ (Rd.below' lW.out hu hu.size)
          have MS := κ (Blk.fresh wD 30 #[.int .i64 0, .int .i64 0, .int .i64 0, .int .i64 0, .slice none 0 0, .slice none 0 0, .slice none 0 0, .slice none 0 0, .slice none 0 0])
          have lS : Hid (w0.heap.size ≤ wD.heap.size) := κ bW.out.size
          have MM := κ (NM.out.below' hu)
          have MC := κ (Cn.below NC.out hu)
          clear hu bW lW NM NC
          generalize wD.alloc (.cells #[.int .i64 0, .int .i64 0, .int .i64 0, .int .i64 0, .slice none 0 0, .slice none 0 0, .slice none 0 0, .slice none 0 0, .slice none 0 0] 30) = wE at b2 l2 MS MM MC ⊢
          generalize wD.heap.size = gS at MS lS ⊢
          refine hK.out _ _ trivial ?_
          clear hK K'
          (try simp only [Act.put, List.getElem_toArray, List.getElem_cons_succ, List.getElem_cons_zero, List.setIfInBounds_toArray, List.set_cons_zero, List.set_cons_succ])
          have bW := b2
          have lW := l2
          clear b2 l2
          have NM := MM
          clear MM
          have NC := MC
          clear MC
          have NS := MS
          clear MS
          generalize wE = wD at *
          obtain ⟨s0, s1, s2, s3, s4, s5, s6, s7, s8, y0, y1, y2, y3, y4, y5, y6, y7, y8⟩ := z9_of NS.out
          refine wpL_late (n := 5) (by kernel_rfl) rfl (by kernel_rfl) (fun K' hK => ?_)
          go_simp
          refine hK.out _ _ ?_
          clear hK K'
          (try simp only [Act.put, List.getElem_toArray, List.getElem_cons_succ, List.getElem_cons_zero, List.setIfInBounds_toArray, List.set_cons_zero, List.set_cons_succ])
          refine wpL_done (by kernel_rfl) ?_ _
          refine NoPanic.normal ?_
          have F := sr_fin NC NM NS lL lS bW
          clear s0 y0 s1 y1 s2 y2 s3 y3 s4 y4 s5 y5 s6 y6 s7 y7 s8 y8
          go_wp2_with fail
          go_meet
          unfold st9 at F
          exact ⟨gS, gA, gB, gC, gL, rfl, κ F.1, κ F.2⟩
      · intro K' hK
        go_simp
        have hu : Below wD.heap.size wD (wD.alloc (.cells #[.int .i64 0, .int .i64 0, .int .i64 0, .int .i64 0, .slice none 0 0, .slice none 0 0, .slice none 0 0, .slice none 0 0, .slice none 0 0] 30)) := (Below.refl _ _).alloc (Nat.le_refl _) _
        have b2 := κ (Rul1.below_step bW.out hu)
        have l2 := κ (Rd.below' lW.out hu hu.size)
        have MS := κ (Blk.fresh wD 30 #[.int .i64 0, .int .i64 0, .int .i64 0, .int .i64 0, .slice none 0 0, .slice none 0 0, .slice none 0 0, .slice none 0 0, .slice none 0 0])
        have lS : Hid (w0.heap.size ≤ wD.heap.size) := κ bW.out.size
        have MM := κ (NM.out.below' hu)
        clear hu bW lW NM
        generalize wD.alloc (.cells #[.int .i64 0, .int .i64 0, .int .i64 0, .int .i64 0, .slice none 0 0, .slice none 0 0, .slice none 0 0, .slice none 0 0, .slice none 0 0] 30) = wE at b2 l2 MS MM ⊢
        generalize wD.heap.size = gS at MS lS ⊢
        refine hK.out _ _ trivial ?_
        clear hK K'
        (try simp only [Act.put, List.getElem_toArray, List.getElem_cons_succ, List.getElem_cons_zero, List.setIfInBounds_toArray, List.set_cons_zero, List.set_cons_succ])
        have bW := b2
        have lW := l2
        clear b2 l2
        have NM := MM
        clear MM
        have NS := MS
        clear MS
        generalize wE = wD at *
        refine wpL_next (n := 1) (by kernel_rfl) rfl ?_
        · intro K' hK
          go_simp
          refine (sconfig_any l A c wD lW (by omega)).mono ?_
          rintro e wE ⟨gA, gB, gC, rfl, hc, hb⟩
          have b2 := κ (Rul1.below_step bW.out hb)
          have l2 := κ (Rd.below' lW.out hb hb.size)
          have MC := κ (Cn.mono hc bW.out.size)
          have MM := κ (NM.out.below' hb)
          have MS := κ (NS.out.below' hb)
          clear hc hb bW lW NM NS
          unfold cnV
          refine hK.out _ _ trivial ?_
          clear hK K'
          (try simp only [Act.put, List.getElem_toArray, List.getElem_cons_succ, List.getElem_cons_zero, List.setIfInBounds_toArray, List.set_cons_zero, List.set_cons_succ])
          have bW := b2
          have lW := l2
          clear b2 l2
          have NM := MM
          clear MM
          have NS := MS
          clear MS
          have NC := MC
          clear MC
          generalize wE = wD at *
          refine wpL_word (i := 3) (v := ?_) rfl (by kernel_rfl) (fun _ _ _ h => h) (by kernel_rfl) _ _ _ _ (by kernel_rfl) (by kernel_rfl) (Or.inl ⟨by rfl, ?_⟩) (fun _ => HT.out) ?_
          rotate_left
          · intro w' _
            go_simp
            try with_reducible rfl
          (try simp only [Act.put, List.getElem_toArray, List.getElem_cons_succ, List.getElem_cons_zero, List.setIfInBounds_toArray, List.set_cons_zero, List.set_cons_succ])
          obtain ⟨s0, s1, s2, s3, s4, s5, s6, s7, s8, y0, y1, y2, y3, y4, y5, y6, y7, y8⟩ := z9_of NS.out
          refine wpL_late (n := 5) (by kernel_rfl) rfl (by kernel_rfl) (fun K' hK => ?_)
          go_simp
          refine hK.out _ _ ?_
          clear hK K'
          (try simp only [Act.put, List.getElem_toArray, List.getElem_cons_succ, List.getElem_cons_zero, List.setIfInBounds_toArray, List.set_cons_zero, List.set_cons_succ])
          refine wpL_done (by kernel_rfl) ?_ _
          refine NoPanic.normal ?_
          have F := sr_fin NC NM NS lL lS bW
          clear s0 y0 s1 y1 s2 y2 s3 y3 s4 y4 s5 y5 s6 y6 s7 y7 s8 y8
          go_wp2_with fail
          go_meet
          unfold st9 at F
          exact ⟨gS, gA, gB, gC, gL, rfl, κ F.1, κ F.2⟩
    · intro K' hK
      go_simp
      have hu : Below wD.heap.size wD (wD.alloc (.cells #[.int .i64 0, .int .i64 0, .int .i64 0, .int .i64 0, .slice none 0 0, .slice none 0 0, .slice none 0 0, .slice none 0 0, .slice none 0 0] 30)) := (Below.refl _ _).alloc (Nat.le_refl _) _
      have b2 := κ (Rul1.below_step bW.out hu)
      have l2 := κ (Rd.below' lW.out hu hu.size)
      have MS := κ (Blk.fresh wD 30 #[.int .i64 0, .int .i64 0, .int .i64 0, .int .i64 0, .slice none 0 0, .slice none 0 0, .slice none 0 0, .slice none 0 0, .slice none 0 0])
      have lS : Hid (w0.heap.size ≤ wD.heap.size) := κ bW.out.size
      clear hu bW lW
      generalize wD.alloc (.cells #[.int .i64 0, .int .i64 0, .int .i64 0, .int .i64 0, .slice none 0 0, .slice none 0 0, .slice none 0 0, .slice none 0 0, .slice none 0 0] 30) = wE at b2 l2 MS ⊢
      generalize wD.heap.size = gS at MS lS ⊢
      refine hK.out _ _ trivial ?_
      clear hK K'
      (try simp only [Act.put, List.getElem_toArray, List.getElem_cons_succ, List.getElem_cons_zero, List.setIfInBounds_toArray, List.set_cons_zero, List.set_cons_succ])
      have bW := b2
      have lW := l2
      clear b2 l2
      have NS := MS
      clear MS
      generalize wE = wD at *
      refine wpL_two (m := 1) (n := 2) (by kernel_rfl) rfl rfl ?_ ?_
      · intro K' hK
        go_simp
        refine (sconfig_any l A c wD lW (by omega)).mono ?_
        rintro e wE ⟨gA, gB, gC, rfl, hc, hb⟩
        have b2 := κ (Rul1.below_step bW.out hb)
        have l2 := κ (Rd.below' lW.out hb hb.size)
        have MC := κ (Cn.mono hc bW.out.size)
        have MS := κ (NS.out.below' hb)
        clear hc hb bW lW NS
        unfold cnV
        refine hK.out _ _ trivial ?_
        clear hK K'
        (try simp only [Act.put, List.getElem_toArray, List.getElem_cons_succ, List.getElem_cons_zero, List.setIfInBounds_toArray, List.set_cons_zero, List.set_cons_succ])
        have bW := b2
        have lW := l2
        clear b2 l2
        have NS := MS
        clear MS
        have NC := MC
        clear MC
        generalize wE = wD at *
        refine wpL_next (n := 2) (by kernel_rfl) rfl ?_
        · intro K' hK
          go_simp
          have hu : Below wD.heap.size wD (wD.alloc (.cells #[.slice none 0 0, .slice none 0 0, .slice none 0 0] 45)) := (Below.refl _ _).alloc (Nat.le_refl _) _
          have b2 := κ (Rul1.below_step bW.out hu)
          have l2 := κ (Rd.below' lW.out hu hu.size)
          have MM := κ (Blk.fresh wD 45 #[.slice none 0 0, .slice none 0 0, .slice none 0 0])
          have lL : Hid (w0.heap.size ≤ wD.heap.size) := κ bW.out.size
          have MS := κ (NS.out.below' hu)
          have MC := κ (Cn.below NC.out hu)
          clear hu bW lW NS NC
          generalize wD.alloc (.cells #[.slice none 0 0, .slice none 0 0, .slice none 0 0] 45) = wE at b2 l2 MM MS MC ⊢
          generalize wD.heap.size = gL at MM lL ⊢
          refine hK.out _ _ trivial ?_
          clear hK K'
          (try simp only [Act.put, List.getElem_toArray, List.getElem_cons_succ, List.getElem_cons_zero, List.setIfInBounds_toArray, List.set_cons_zero, List.set_cons_succ])
          have bW := b2
          have lW := l2
          clear b2 l2
          have NS := MS
          clear MS
          have NC := MC
          clear MC
          have NM := MM
          clear MM
          generalize wE = wD at *
          refine wpL_word (i := 3) (v := ?_) rfl (by kernel_rfl) (fun _ _ _ h => h) (by kernel_rfl) _ _ _ _ (by kernel_rfl) (by kernel_rfl) (Or.inl ⟨by rfl, ?_⟩) (fun _ => HT.out) ?_
          rotate_left
          · intro w' _
            go_simp
            try with_reducible rfl
          (try simp only [Act.put, List.getElem_toArray, List.getElem_cons_succ, List.getElem_cons_zero, List.setIfInBounds_toArray, List.set_cons_zero, List.set_cons_succ])
          obtain ⟨s0, s1, s2, s3, s4, s5, s6, s7, s8, y0, y1, y2, y3, y4, y5, y6, y7, y8⟩ := z9_of NS.out
          refine wpL_late (n := 5) (by kernel_rfl) rfl (by kernel_rfl) (fun K' hK => ?_)
          go_simp
          refine hK.out _ _ ?_
          clear hK K'
          (try simp only [Act.put, List.getElem_toArray, List.getElem_cons_succ, List.getElem_cons_zero, List.setIfInBounds_toArray, List.set_cons_zero, List.set_cons_succ])
          refine wpL_done (by kernel_rfl) ?_ _
          refine NoPanic.normal ?_
          have F := sr_fin NC NM NS lL lS bW
          clear s0 y0 s1 y1 s2 y2 s3 y3 s4 y4 s5 y5 s6 y6 s7 y7 s8 y8
          go_wp2_with fail
          go_meet
          unfold st9 at F
          exact ⟨gS, gA, gB, gC, gL, rfl, κ F.1, κ F.2⟩
      · intro K' hK
        go_simp
        have hu : Below wD.heap.size wD (wD.alloc (.cells #[.slice none 0 0, .slice none 0 0, .slice none 0 0] 45)) := (Below.refl _ _).alloc (Nat.le_refl _) _
        have b2 := κ (Rul1.below_step bW.out hu)
        have l2 := κ (Rd.below' lW.out hu hu.size)
        have MM := κ (Blk.fresh wD 45 #[.slice none 0 0, .slice none 0 0, .slice none 0 0])
        have lL : Hid (w0.heap.size ≤ wD.heap.size) := κ bW.out.size
        have MS := κ (NS.out.below' hu)
        clear hu bW lW NS
        generalize wD.alloc (.cells #[.slice none 0 0, .slice none 0 0, .slice none 0 0] 45) = wE at b2 l2 MM MS ⊢
        generalize wD.heap.size = gL at MM lL ⊢
        refine hK.out _ _ trivial ?_
        clear hK K'
        (try simp only [Act.put, List.getElem_toArray, List.getElem_cons_succ, List.getElem_cons_zero, List.setIfInBounds_toArray, List.set_cons_zero, List.set_cons_succ])
        have bW := b2
        have lW := l2
        clear b2 l2
        have NS := MS
        clear MS
        have NM := MM
        clear MM
        generalize wE = wD at *
        refine wpL_next (n := 1) (by kernel_rfl) rfl ?_
        · intro K' hK
          go_simp
          refine (sconfig_any l A c wD lW (by omega)).mono ?_
          rintro e wE ⟨gA, gB, gC, rfl, hc, hb⟩
          have b2 := κ (Rul1.below_step bW.out hb)
          have l2 := κ (Rd.below' lW.out hb hb.size)
          have MC := κ (Cn.mono hc bW.out.size)
          have MS := κ (NS.out.below' hb)
          have MM := κ (NM.out.below' hb)
          clear hc hb bW lW NS NM
          unfold cnV
          refine hK.out _ _ trivial ?_
          clear hK K'
          (try simp only [Act.put, List.getElem_toArray, List.getElem_cons_succ, List.getElem_cons_zero, List.setIfInBounds_toArray, List.set_cons_zero, List.set_cons_succ])
          have bW := b2
          have lW := l2
          clear b2 l2
          have NS := MS
          clear MS
          have NM := MM
          clear MM
          have NC := MC
          clear MC
          generalize wE = wD at *
          refine wpL_word (i := 3) (v := ?_) rfl (by kernel_rfl) (fun _ _ _ h => h) (by kernel_rfl) _ _ _ _ (by kernel_rfl) (by kernel_rfl) (Or.inl ⟨by rfl, ?_⟩) (fun _ => HT.out) ?_
          rotate_left
          · intro w' _
            go_simp
            try with_reducible rfl
          (try simp only [Act.put, List.getElem_toArray, List.getElem_cons_succ, List.getElem_cons_zero, List.setIfInBounds_toArray, List.set_cons_zero, List.set_cons_succ])
          obtain ⟨s0, s1, s2, s3, s4, s5, s6, s7, s8, y0, y1, y2, y3, y4, y5, y6, y7, y8⟩ := z9_of NS.out
          refine wpL_late (n := 5) (by kernel_rfl) rfl (by kernel_rfl) (fun K' hK => ?_)
          go_simp
          refine hK.out _ _ ?_
          clear hK K'
          (try simp only [Act.put, List.getElem_toArray, List.getElem_cons_succ, List.getElem_cons_zero, List.setIfInBounds_toArray, List.set_cons_zero, List.set_cons_succ])
          refine wpL_done (by kernel_rfl) ?_ _
          refine NoPanic.normal ?_
          have F := sr_fin NC NM NS lL lS bW
          clear s0 y0 s1 y1 s2 y2 s3 y3 s4 y4 s5 y5 s6 y6 s7 y7 s8 y8
          go_wp2_with fail
          go_meet
          unfold st9 at F
          exact ⟨gS, gA, gB, gC, gL, rfl, κ F.1, κ F.2⟩
  case rest =>
    obtain ⟨gS, gA, gB, gC, gL, rfl, R, B⟩ := hcut
    rename World => w6
    have b6 := κ (Rul1.below_step b0.out B.out)
    have z6 := κ (z0.out.below' B.out)
    have hc6 : decide ((l.length : Int) ≤ 12) = true := decide_eq_true hn
    have lz : w.heap.size ≤ w0.heap.size := b0.out.size
    have R6 := κ (Cn.mono R.out.c lz)
    have k6 : Hid (Blk w6 gS 30 (scV l gA gB gC gL (.slice none 0 0))) := κ R.out.s
    have m6 := κ R.out.li
    have hne : Hid (gL ≠ gR) := κ (blk_ne R.out.li z6.out (by decide))
    have ha : Hid (gA ≠ gR) := κ (blk_ne R.out.c.a z6.out (by decide))
    have hb : Hid (gB ≠ gR) := κ (blk_ne R.out.c.b z6.out (by decide))
    have hc : Hid (gC ≠ gR) := κ (blk_ne R.out.c.c z6.out (by decide))
    clear b0 z0 l0 R B lz hl
    unfold scV at k6
    obtain ⟨j0, j1, j2, j3, j4, j5, j6, j7, j8⟩ := q9_of k6.out
    obtain ⟨s0, s1, s2, s3, s4, s5, s6, s7, s8, y0, y1, y2, y3, y4, y5, y6, y7, y8⟩ := z9_of z6.out
    go_wp2_with fail
    have f3 := st9_blk (v0 := .int .i64 (1 + bt l 0 % 3)) (v1 := .int .i64 (bt l 1 % 4)) (v2 := .int .i64 (1 + bt l 2 % 6)) (v3 := .int .i64 (1 + bt l 3 % 6)) (v4 := .slice (some ⟨gA, 0, none⟩) 4 4) (v5 := .slice (some ⟨gB, 0, none⟩) 3 3) (v6 := .slice (some ⟨gC, 0, none⟩) 2 2) (v7 := .slice (some ⟨gL, 0, none⟩) 3 3) (v8 := .slice none 0 0) z6.out
    have hB := st9_below (v0 := .int .i64 (1 + bt l 0 % 3)) (v1 := .int .i64 (bt l 1 % 4)) (v2 := .int .i64 (1 + bt l 2 % 6)) (v3 := .int .i64 (1 + bt l 3 % 6)) (v4 := .slice (some ⟨gA, 0, none⟩) 4 4) (v5 := .slice (some ⟨gB, 0, none⟩) 3 3) (v6 := .slice (some ⟨gC, 0, none⟩) 2 2) (v7 := .slice (some ⟨gL, 0, none⟩) 3 3) (v8 := .slice none 0 0) b6.out hg.out
    have hM := st9_far (v0 := .int .i64 (1 + bt l 0 % 3)) (v1 := .int .i64 (bt l 1 % 4)) (v2 := .int .i64 (1 + bt l 2 % 6)) (v3 := .int .i64 (1 + bt l 3 % 6)) (v4 := .slice (some ⟨gA, 0, none⟩) 4 4) (v5 := .slice (some ⟨gB, 0, none⟩) 3 3) (v6 := .slice (some ⟨gC, 0, none⟩) 2 2) (v7 := .slice (some ⟨gL, 0, none⟩) 3 3) (v8 := .slice none 0 0) m6.out hne.out
    have hC : Cn l w (st9 w6 gR (.int .i64 (1 + bt l 0 % 3)) (.int .i64 (bt l 1 % 4)) (.int .i64 (1 + bt l 2 % 6)) (.int .i64 (1 + bt l 3 % 6)) (.slice (some ⟨gA, 0, none⟩) 4 4) (.slice (some ⟨gB, 0, none⟩) 3 3) (.slice (some ⟨gC, 0, none⟩) 2 2) (.slice (some ⟨gL, 0, none⟩) 3 3) (.slice none 0 0)) gA gB gC := ⟨st9_far R6.out.a ha.out, st9_far R6.out.b hb.out, st9_far R6.out.c hc.out, R6.out.la, R6.out.lb, R6.out.lc⟩
    clear j0 s0 y0 j1 s1 y1 j2 s2 y2 j3 s3 y3 j4 s4 y4 j5 s5 y5 j6 s6 y6 j7 s7 y7 j8 s8 y8
    obtain ⟨d0, d1, d2, d3, d4, d5, d6, d7, d8⟩ := q9_of f3
    unfold st9 at d0 d1 d2 d3 d4 d5 d6 d7 d8 hB hM hC
    exact bodyPost_ret (v := .agg #[.int .i64 (1 + bt l 0 % 3), .int .i64 (bt l 1 % 4), .int .i64 (1 + bt l 2 % 6), .int .i64 (1 + bt l 3 % 6), .slice (some ⟨gA, 0, none⟩) 4 4, .slice (some ⟨gB, 0, none⟩) 3 3, .slice (some ⟨gC, 0, none⟩) 2 2, .slice (some ⟨gL, 0, none⟩) 3 3, .slice none 0 0]) (by simp [results, Tryd.results4, go_sem, d0, d1, d2, d3, d4, d5, d6, d7, d8]) rfl ⟨gA, gB, gC, gL, rfl, hC, hM, hB⟩
end Srd
end Go.Proofs.YtmjkhejfhpgiiaaDoor
