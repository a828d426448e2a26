/- Texts side by side. -/
import Derived.Test.YteclenloimbaeaaGreatDoorSliae
import Derived.Test.YteclenloimbaeaaGreatDoorSliaf
set_option linter.unusedVariables false
set_option linter.unusedSimpArgs false
set_option maxRecDepth 100000
set_option maxHeartbeats 16000000
namespace Go.Proofs.YteclenloimbaeaaGreatDoor
open Kap Go.ChangeShapes Go.WideShapes Go.ChangeAt Go.RowKit Go.Lib Mem Tre Fix3 Cfg Rul1 Wpl Spa Spm Shw Scf
namespace Srd
open Stk Lat Lap
def st9 (W : World) (g : Nat) (v0 v1 v2 v3 v4 v5 v6 v7 v8 : Value) : World := (((((((((W.setCell ⟨g, 0, none⟩ v0).setCell ⟨g, 1, none⟩ v1).setCell ⟨g, 2, none⟩ v2).setCell ⟨g, 3, none⟩ v3).setCell ⟨g, 4, none⟩ v4).setCell ⟨g, 5, none⟩ v5).setCell ⟨g, 6, none⟩ v6).setCell ⟨g, 7, none⟩ v7).setCell ⟨g, 8, none⟩ v8)
theorem st9_blk {W : World} {g : Nat} {te : TypeId} {u0 u1 u2 u3 u4 u5 u6 u7 u8 v0 v1 v2 v3 v4 v5 v6 v7 v8 : Value} (hk : Blk W g te #[u0, u1, u2, u3, u4, u5, u6, u7, u8]) : Blk (st9 W g v0 v1 v2 v3 v4 v5 v6 v7 v8) g te #[v0, v1, v2, v3, v4, v5, v6, v7, v8] := by
  have k0 : Blk (W.setCell ⟨g, 0, none⟩ v0) g te #[v0, u1, u2, u3, u4, u5, u6, u7, u8] := blk_st hk 0 v0
  have k1 : Blk ((W.setCell ⟨g, 0, none⟩ v0).setCell ⟨g, 1, none⟩ v1) g te #[v0, v1, u2, u3, u4, u5, u6, u7, u8] := blk_st k0 1 v1
  have k2 : Blk (((W.setCell ⟨g, 0, none⟩ v0).setCell ⟨g, 1, none⟩ v1).setCell ⟨g, 2, none⟩ v2) g te #[v0, v1, v2, u3, u4, u5, u6, u7, u8] := blk_st k1 2 v2
  have k3 : Blk ((((W.setCell ⟨g, 0, none⟩ v0).setCell ⟨g, 1, none⟩ v1).setCell ⟨g, 2, none⟩ v2).setCell ⟨g, 3, none⟩ v3) g te #[v0, v1, v2, v3, u4, u5, u6, u7, u8] := blk_st k2 3 v3
  have k4 : Blk (((((W.setCell ⟨g, 0, none⟩ v0).setCell ⟨g, 1, none⟩ v1).setCell ⟨g, 2, none⟩ v2).setCell ⟨g, 3, none⟩ v3).setCell ⟨g, 4, none⟩ v4) g te #[v0, v1, v2, v3, v4, u5, u6, u7, u8] := blk_st k3 4 v4
  have k5 : Blk ((((((W.setCell ⟨g, 0, none⟩ v0).setCell ⟨g, 1, none⟩ v1).setCell ⟨g, 2, none⟩ v2).setCell ⟨g, 3, none⟩ v3).setCell ⟨g, 4, none⟩ v4).setCell ⟨g, 5, none⟩ v5) g te #[v0, v1, v2, v3, v4, v5, u6, u7, u8] := blk_st k4 5 v5
  have k6 : Blk (((((((W.setCell ⟨g, 0, none⟩ v0).setCell ⟨g, 1, none⟩ v1).setCell ⟨g, 2, none⟩ v2).setCell ⟨g, 3, none⟩ v3).setCell ⟨g, 4, none⟩ v4).setCell ⟨g, 5, none⟩ v5).setCell ⟨g, 6, none⟩ v6) g te #[v0, v1, v2, v3, v4, v5, v6, u7, u8] := blk_st k5 6 v6
  have k7 : Blk ((((((((W.setCell ⟨g, 0, none⟩ v0).setCell ⟨g, 1, none⟩ v1).setCell ⟨g, 2, none⟩ v2).setCell ⟨g, 3, none⟩ v3).setCell ⟨g, 4, none⟩ v4).setCell ⟨g, 5, none⟩ v5).setCell ⟨g, 6, none⟩ v6).setCell ⟨g, 7, none⟩ v7) g te #[v0, v1, v2, v3, v4, v5, v6, v7, u8] := blk_st k6 7 v7
  have k8 : Blk (((((((((W.setCell ⟨g, 0, none⟩ v0).setCell ⟨g, 1, none⟩ v1).setCell ⟨g, 2, none⟩ v2).setCell ⟨g, 3, none⟩ v3).setCell ⟨g, 4, none⟩ v4).setCell ⟨g, 5, none⟩ v5).setCell ⟨g, 6, none⟩ v6).setCell ⟨g, 7, none⟩ v7).setCell ⟨g, 8, none⟩ v8) g te #[v0, v1, v2, v3, v4, v5, v6, v7, v8] := blk_st k7 8 v8
  exact k8
theorem st9_below {B : Nat} {w0 W : World} {g : Nat} {v0 v1 v2 v3 v4 v5 v6 v7 v8 : Value} (hb : Below B w0 W) (hg : B ≤ g) : Below B w0 (st9 W g v0 v1 v2 v3 v4 v5 v6 v7 v8) := (((((((((hb.setCell (p := ⟨g, 0, none⟩) hg v0).setCell (p := ⟨g, 1, none⟩) hg v1).setCell (p := ⟨g, 2, none⟩) hg v2).setCell (p := ⟨g, 3, none⟩) hg v3).setCell (p := ⟨g, 4, none⟩) hg v4).setCell (p := ⟨g, 5, none⟩) hg v5).setCell (p := ⟨g, 6, none⟩) hg v6).setCell (p := ⟨g, 7, none⟩) hg v7).setCell (p := ⟨g, 8, none⟩) hg v8)
theorem st9_far {W : World} {g g' : Nat} {te : TypeId} {cs : Array Value} {v0 v1 v2 v3 v4 v5 v6 v7 v8 : Value} (k : Blk W g te cs) (hne : g ≠ g') : Blk (st9 W g' v0 v1 v2 v3 v4 v5 v6 v7 v8) g te cs := (far_st (far_st (far_st (far_st (far_st (far_st (far_st (far_st (far_st k hne v0) hne v1) hne v2) hne v3) hne v4) hne v5) hne v6) hne v7) hne v8)
theorem z9_of {W : World} {g : Nat} {te : TypeId} {v0 v1 v2 v3 v4 v5 v6 v7 v8 : Value} (h : Blk W g te #[v0, v1, v2, v3, v4, v5, v6, v7, v8]) : W.cell? ⟨g, 0, none⟩ = some v0 ∧ W.cell? ⟨g, 1, none⟩ = some v1 ∧ W.cell? ⟨g, 2, none⟩ = some v2 ∧ W.cell? ⟨g, 3, none⟩ = some v3 ∧ W.cell? ⟨g, 4, none⟩ = some v4 ∧ W.cell? ⟨g, 5, none⟩ = some v5 ∧ W.cell? ⟨g, 6, none⟩ = some v6 ∧ W.cell? ⟨g, 7, none⟩ = some v7 ∧ W.cell? ⟨g, 8, none⟩ = some v8 ∧ W.frozen? ⟨g, 0, none⟩ = false ∧ W.frozen? ⟨g, 1, none⟩ = false ∧ W.frozen? ⟨g, 2, none⟩ = false ∧ W.frozen? ⟨g, 3, none⟩ = false ∧ W.frozen? ⟨g, 4, none⟩ = false ∧ W.frozen? ⟨g, 5, none⟩ = false ∧ W.frozen? ⟨g, 6, none⟩ = false ∧ W.frozen? ⟨g, 7, none⟩ = false ∧ W.frozen? ⟨g, 8, none⟩ = false := ⟨h.cell 0, h.cell 1, h.cell 2, h.cell 3, h.cell 4, h.cell 5, h.cell 6, h.cell 7, h.cell 8, h.thaw 0, h.thaw 1, h.thaw 2, h.thaw 3, h.thaw 4, h.thaw 5, h.thaw 6, h.thaw 7, h.thaw 8⟩
theorem q9_of {W : World} {g : Nat} {te : TypeId} {v0 v1 v2 v3 v4 v5 v6 v7 v8 : Value} (h : Blk W g te #[v0, v1, v2, v3, v4, v5, v6, v7, v8]) : W.cell? ⟨g, 0, none⟩ = some v0 ∧ W.cell? ⟨g, 1, none⟩ = some v1 ∧ W.cell? ⟨g, 2, none⟩ = some v2 ∧ W.cell? ⟨g, 3, none⟩ = some v3 ∧ W.cell? ⟨g, 4, none⟩ = some v4 ∧ W.cell? ⟨g, 5, none⟩ = some v5 ∧ W.cell? ⟨g, 6, none⟩ = some v6 ∧ W.cell? ⟨g, 7, none⟩ = some v7 ∧ W.cell? ⟨g, 8, none⟩ = some v8 := ⟨h.cell 0, h.cell 1, h.cell 2, h.cell 3, h.cell 4, h.cell 5, h.cell 6, h.cell 7, h.cell 8⟩
theorem blk_ne {w : World} {a b : Nat} {ta tb : TypeId} {ca cb : Array Value} (h : Blk w a ta ca) (k : Blk w b tb cb) (ht : ta ≠ tb) : a ≠ b := by
  rintro rfl
  have := h.symm.trans k
  injection this with this
  injection this with _ this
  exact ht this
theorem Cn.mono {l : List UInt8} {w W w' : World} {gA gB gC : Nat} (h : Cn l W w' gA gB gC) (hs : w.heap.size ≤ W.heap.size) : Cn l w w' gA gB gC := ⟨h.a, h.b, h.c, Nat.le_trans hs h.la, Nat.le_trans hs h.lb, Nat.le_trans hs h.lc⟩
theorem Cn.below {l : List UInt8} {w W w' : World} {gA gB gC : Nat} (h : Cn l w W gA gB gC) (hb : Below W.heap.size W w') : Cn l w w' gA gB gC := ⟨h.a.below' hb, h.b.below' hb, h.c.below' hb, h.la, h.lb, h.lc⟩
def lsV : Array Value := #[.slice none 0 0, .slice none 0 0, .slice none 0 0]
def scV (l : List UInt8) (gA gB gC gL : Nat) (pk : Value) : Array Value := #[.int .i64 (1 + bt l 0 % 3), .int .i64 (bt l 1 % 4), .int .i64 (1 + bt l 2 % 6), .int .i64 (1 + bt l 3 % 6), .slice (some ⟨gA, 0, none⟩) 4 4, .slice (some ⟨gB, 0, none⟩) 3 3, .slice (some ⟨gC, 0, none⟩) 2 2, .slice (some ⟨gL, 0, none⟩) 3 3, pk]
structure Sr (l : List UInt8) (w w' : World) (gS gA gB gC gL : Nat) : Prop where
  s : Blk w' gS 49 (scV l gA gB gC gL (.slice none 0 0))
  c : Cn l w w' gA gB gC
  li : Blk w' gL 75 lsV
  ls : w.heap.size ≤ gS
  ll : w.heap.size ≤ gL
theorem ms_info : (Tryz.prog.info? 75).map (fun i => (i.zero, i.size, i.bytes)) = some (some (.slice none 0 0), 1, 24) := by kernel_rfl
theorem mk3 (W : World) : (Instr.makeSlice 47 (.int .i64 3) (.int .i64 3)).run Tryz.prog W = .ok (.slice (some ⟨W.heap.size, 0, none⟩) 3 3) (W.alloc (.cells #[.slice none 0 0, .slice none 0 0, .slice none 0 0] 75)) :=
  by
    have h := Go.run_make_row' (P := Tryz.prog) 47 75 (.slice none 0 0) 24 Tryz.underlying47 ms_info rfl .i64 .i64 3 (by omega) (by omega) W
    have e : madeCells #[Value.slice none 0 0] 3 = #[.slice none 0 0, .slice none 0 0, .slice none 0 0] := by kernel_rfl
    rw [e] at h
    exact h
theorem sr_fin {l : List UInt8} {w0 W : World} {gS gA gB gC gL : Nat} (hc : Hid (Cn l w0 W gA gB gC)) (hm : Hid (Blk W gL 75 #[.slice none 0 0, .slice none 0 0, .slice none 0 0])) (hs : Hid (Blk W gS 49 #[.int .i64 0, .int .i64 0, .int .i64 0, .int .i64 0, .slice none 0 0, .slice none 0 0, .slice none 0 0, .slice none 0 0, .slice none 0 0])) (ll : Hid (w0.heap.size ≤ gL)) (ls : Hid (w0.heap.size ≤ gS)) (hb : Hid (Below w0.heap.size w0 W)) :
    Sr l w0 (st9 W gS (.int .i64 (1 + bt l 0 % 3)) (.int .i64 (bt l 1 % 4)) (.int .i64 (1 + bt l 2 % 6)) (.int .i64 (1 + bt l 3 % 6)) (.slice (some ⟨gA, 0, none⟩) 4 4) (.slice (some ⟨gB, 0, none⟩) 3 3) (.slice (some ⟨gC, 0, none⟩) 2 2) (.slice (some ⟨gL, 0, none⟩) 3 3) (.slice none 0 0)) gS gA gB gC gL ∧ Below w0.heap.size w0 (st9 W gS (.int .i64 (1 + bt l 0 % 3)) (.int .i64 (bt l 1 % 4)) (.int .i64 (1 + bt l 2 % 6)) (.int .i64 (1 + bt l 3 % 6)) (.slice (some ⟨gA, 0, none⟩) 4 4) (.slice (some ⟨gB, 0, none⟩) 3 3) (.slice (some ⟨gC, 0, none⟩) 2 2) (.slice (some ⟨gL, 0, none⟩) 3 3) (.slice none 0 0)) :=
  ⟨⟨st9_blk hs.out, ⟨st9_far hc.out.a (blk_ne hc.out.a hs.out (by decide)), st9_far hc.out.b (blk_ne hc.out.b hs.out (by decide)), st9_far hc.out.c (blk_ne hc.out.c hs.out (by decide)), hc.out.la, hc.out.lb, hc.out.lc⟩, st9_far hm.out (blk_ne hm.out hs.out (by decide)), ls.out, ll.out⟩, st9_below hb.out ls.out⟩
def MadeSr (l : List UInt8) (w : World) (e : Ending) (w' : World) : Prop := ∃ gA gB gC gL, e = .returned (.agg (scV l gA gB gC gL (.slice none 0 0))) ∧ Cn l w w' gA gB gC ∧ Blk w' gL 75 lsV ∧ Below w.heap.size w w'
theorem sreadS_any (l : List UInt8) (A : Option Addr) (c : Nat) (w : World) (hl : Hid (By w w.heap.size A l)) (hn : (l.length : Int) ≤ 12) : Calls Tryz.prog 13 #[.slice A l.length c] w (MadeSr l w) := by
  have mk : ∀ W : World, (Instr.makeSlice 47 (.int .i64 3) (.int .i64 3)).run Tryz.prog W = .ok (.slice (some ⟨W.heap.size, 0, none⟩) 3 3) (W.alloc (.cells #[.slice none 0 0, .slice none 0 0, .slice none 0 0] 75)) := mk3
  have b0 := κ (β w (.cells #[.int .i64 0, .int .i64 0, .int .i64 0, .int .i64 0, .slice none 0 0, .slice none 0 0, .slice none 0 0, .slice none 0 0, .slice none 0 0] 49))
  have z0 := κ (δ w 49 #[.int .i64 0, .int .i64 0, .int .i64 0, .int .i64 0, .slice none 0 0, .slice none 0 0, .slice none 0 0, .slice none 0 0, .slice none 0 0] w.heap.size rfl)
  have l0 := κ (Rd.below' hl.out b0.out b0.out.size)
  go_enter Tryz.func13, Tryz.ntmps13
  go_upto_region 1 with fail
  generalize w.alloc (.cells #[.int .i64 0, .int .i64 0, .int .i64 0, .int .i64 0, .slice none 0 0, .slice none 0 0, .slice none 0 0, .slice none 0 0, .slice none 0 0] 49) = w0 at b0 z0 l0 ⊢
  have hg : Hid (w.heap.size ≤ w.heap.size) := κ (Nat.le_refl _)
  generalize hgR : w.heap.size = gR at z0 ⊢
  have hg : Hid (w.heap.size ≤ gR) := κ (by omega)
  clear hgR
  go_cut [3] (fun s3 wx => ∃ gS gA gB gC gL, s3 = .pointer (some ⟨gS, 0, none⟩) ∧ Hid (Sr l w0 wx gS gA gB gC gL) ∧ Hid (Below w0.heap.size w0 wx))
  case first =>
    refine wp_region_noPanic ?_
    refine wp_region_L (T := (fun _ => True)) (st := [5]) (by kernel_rfl) ?_
    have HT : Hid True := κ trivial
    have bW : Hid (Below w0.heap.size w0 w0.drew) := κ (Below.refl _ _).drew
    have lW : Hid (By w0.drew w0.drew.heap.size A l) := l0
    generalize w0.drew = wD at bW lW ⊢
    refine wpL_word (i := 0) (v := ?_) rfl (by kernel_rfl) (fun _ _ _ h => h) (by kernel_rfl) _ _ _ _ (by kernel_rfl) (by kernel_rfl) (Or.inl ⟨by rfl, ?_⟩) (fun _ => HT.out) ?_
    rotate_left
    · intro w' _
      go_simp
      try with_reducible rfl
    (try simp only [Act.put, List.getElem_toArray, List.getElem_cons_succ, List.getElem_cons_zero, List.setIfInBounds_toArray, List.set_cons_zero, List.set_cons_succ])
    refine wpL_three (m := 1) (n := 2) (p := 4) (by kernel_rfl) rfl rfl rfl ?_ ?_ ?_
    · intro K' hK
      go_simp
      refine (sconfig_any l A c wD lW (by omega)).mono ?_
      rintro e wE ⟨gA, gB, gC, rfl, hc, hb⟩
      have b2 := κ (Rul1.below_step bW.out hb)
      have l2 := κ (Rd.below' lW.out hb hb.size)
      have MC := κ (Cn.mono hc bW.out.size)
      clear hc hb bW lW
      unfold cnV
      refine hK.out _ _ trivial ?_
      clear hK K'
      (try simp only [Act.put, List.getElem_toArray, List.getElem_cons_succ, List.getElem_cons_zero, List.setIfInBounds_toArray, List.set_cons_zero, List.set_cons_succ])
      have bW := b2
      have lW := l2
      clear b2 l2
      have NC := MC
      clear MC
      generalize wE = wD at *
      refine wpL_two (m := 2) (n := 4) (by kernel_rfl) rfl rfl ?_ ?_
      · intro K' hK
        go_simp
        have hu : Below wD.heap.size wD (wD.alloc (.cells #[.slice none 0 0, .slice none 0 0, .slice none 0 0] 75)) := (Below.refl _ _).alloc (Nat.le_refl _) _
        have b2 := κ (Rul1.below_step bW.out hu)
        have l2 := κ (Rd.below' lW.out hu hu.size)
        have MM := κ (Blk.fresh wD 75 #[.slice none 0 0, .slice none 0 0, .slice none 0 0])
        have lL : Hid (w0.heap.size ≤ wD.heap.size) := κ bW.out.size
        have MC := κ (Cn.below NC.out hu)
        clear hu bW lW NC
        generalize wD.alloc (.cells #[.slice none 0 0, .slice none 0 0, .slice none 0 0] 75) = wE at b2 l2 MM MC ⊢
        generalize wD.heap.size = gL at MM lL ⊢
        refine hK.out _ _ trivial ?_
        clear hK K'
        (try simp only [Act.put, List.getElem_toArray, List.getElem_cons_succ, List.getElem_cons_zero, List.setIfInBounds_toArray, List.set_cons_zero, List.set_cons_succ])
        have bW := b2
        have lW := l2
        clear b2 l2
        have NC := MC
        clear MC
        have NM := MM
        clear MM
        generalize wE = wD at *
        refine wpL_word (i := 3) (v := ?_) rfl (by kernel_rfl) (fun _ _ _ h => h) (by kernel_rfl) _ _ _ _ (by kernel_rfl) (by kernel_rfl) (Or.inl ⟨by rfl, ?_⟩) (fun _ => HT.out) ?_
        rotate_left
        · intro w' _
          go_simp
          try with_reducible rfl
        (try simp only [Act.put, List.getElem_toArray, List.getElem_cons_succ, List.getElem_cons_zero, List.setIfInBounds_toArray, List.set_cons_zero, List.set_cons_succ])
        refine wpL_next (n := 4) (by kernel_rfl) rfl ?_
        · intro K' hK
          go_simp
          have hu : Below wD.heap.size wD (wD.alloc (.cells #[.int .i64 0, .int .i64 0, .int .i64 0, .int .i64 0, .slice none 0 0, .slice none 0 0, .slice none 0 0, .slice none 0 0, .slice none 0 0] 49)) := (Below.refl _ _).alloc (Nat.le_refl _) _
          have b2 := κ (Rul1.below_step bW.out hu)
          have l2 := κ (Rd.below' lW.out hu hu.size)
          have MS := κ (Blk.fresh wD 49 #[.int .i64 0, .int .i64 0, .int .i64 0, .int .i64 0, .slice none 0 0, .slice none 0 0, .slice none 0 0, .slice none 0 0, .slice none 0 0])
          have lS : Hid (w0.heap.size ≤ wD.heap.size) := κ bW.out.size
          have MC := κ (Cn.below NC.out hu)
          have MM := κ (NM.out.below' hu)
          clear hu bW lW NC NM
          generalize wD.alloc (.cells #[.int .i64 0, .int .i64 0, .int .i64 0, .int .i64 0, .slice none 0 0, .slice none 0 0, .slice none 0 0, .slice none 0 0, .slice none 0 0] 49) = wE at b2 l2 MS MC MM ⊢
          generalize wD.heap.size = gS at MS lS ⊢
          refine hK.out _ _ trivial ?_
          clear hK K'
          (try simp only [Act.put, List.getElem_toArray, List.getElem_cons_succ, List.getElem_cons_zero, List.setIfInBounds_toArray, List.set_cons_zero, List.set_cons_succ])
          have bW := b2
          have lW := l2
          clear b2 l2
          have NC := MC
          clear MC
          have NM := MM
          clear MM
          have NS := MS
          clear MS
          generalize wE = wD at *
          obtain ⟨s0, s1, s2, s3, s4, s5, s6, s7, s8, y0, y1, y2, y3, y4, y5, y6, y7, y8⟩ := z9_of NS.out
          refine wpL_late (n := 5) (by kernel_rfl) rfl (by kernel_rfl) (fun K' hK => ?_)
          go_simp
          refine hK.out _ _ ?_
          clear hK K'
          (try simp only [Act.put, List.getElem_toArray, List.getElem_cons_succ, List.getElem_cons_zero, List.setIfInBounds_toArray, List.set_cons_zero, List.set_cons_succ])
          refine wpL_done (by kernel_rfl) ?_ _
          refine NoPanic.normal ?_
          have F := sr_fin NC NM NS lL lS bW
          clear s0 y0 s1 y1 s2 y2 s3 y3 s4 y4 s5 y5 s6 y6 s7 y7 s8 y8
          go_wp2_with fail
          go_meet
          unfold st9 at F
          exact ⟨gS, gA, gB, gC, gL, rfl, κ F.1, κ F.2⟩
      · intro K' hK
        go_simp
        have hu : Below wD.heap.size wD (wD.alloc (.cells #[.int .i64 0, .int .i64 0, .int .i64 0, .int .i64 0, .slice none 0 0, .slice none 0 0, .slice none 0 0, .slice none 0 0, .slice none 0 0] 49)) := (Below.refl _ _).alloc (Nat.le_refl _) _
        have b2 := κ (Rul1.below_step bW.out hu)
        have l2 := κ (Rd.below' lW.out hu hu.size)
        have MS := κ (Blk.fresh wD 49 #[.int .i64 0, .int .i64 0, .int .i64 0, .int .i64 0, .slice none 0 0, .slice none 0 0, .slice none 0 0, .slice none 0 0, .slice none 0 0])
        have lS : Hid (w0.heap.size ≤ wD.heap.size) := κ bW.out.size
        have MC := κ (Cn.below NC.out hu)
        clear hu bW lW NC
        generalize wD.alloc (.cells #[.int .i64 0, .int .i64 0, .int .i64 0, .int .i64 0, .slice none 0 0, .slice none 0 0, .slice none 0 0, .slice none 0 0, .slice none 0 0] 49) = wE at b2 l2 MS MC ⊢
        generalize wD.heap.size = gS at MS lS ⊢
        refine hK.out _ _ trivial ?_
        clear hK K'
        (try simp only [Act.put, List.getElem_toArray, List.getElem_cons_succ, List.getElem_cons_zero, List.setIfInBounds_toArray, List.set_cons_zero, List.set_cons_succ])
        have bW := b2
        have lW := l2
        clear b2 l2
        have NC := MC
        clear MC
        have NS := MS
        clear MS
        generalize wE = wD at *
        refine wpL_next (n := 2) (by kernel_rfl) rfl ?_
        · intro K' hK
          go_simp
          have hu : Below wD.heap.size wD (wD.alloc (.cells #[.slice none 0 0, .slice none 0 0, .slice none 0 0] 75)) := (Below.refl _ _).alloc (Nat.le_refl _) _
          have b2 := κ (Rul1.below_step bW.out hu)
          have l2 := κ (Rd.below' lW.out hu hu.size)
          have MM := κ (Blk.fresh wD 75 #[.slice none 0 0, .slice none 0 0, .slice none 0 0])
          have lL : Hid (w0.heap.size ≤ wD.heap.size) := κ bW.out.size
          have MC := κ (Cn.below NC.out hu)
          have MS := κ (NS.out.below' hu)
          clear hu bW lW NC NS
          generalize wD.alloc (.cells #[.slice none 0 0, .slice none 0 0, .slice none 0 0] 75) = wE at b2 l2 MM MC MS ⊢
          generalize wD.heap.size = gL at MM lL ⊢
          refine hK.out _ _ trivial ?_
          clear hK K'
          (try simp only [Act.put, List.getElem_toArray, List.getElem_cons_succ, List.getElem_cons_zero, List.setIfInBounds_toArray, List.set_cons_zero, List.set_cons_succ])
          have bW := b2
          have lW := l2
          clear b2 l2
          have NC := MC
          clear MC
          have NS := MS
          clear MS
          have NM := MM
          clear MM
          generalize wE = wD at *
          refine wpL_word (i := 3) (v := ?_) rfl (by kernel_rfl) (fun _ _ _ h => h) (by kernel_rfl) _ _ _ _ (by kernel_rfl) (by kernel_rfl) (Or.inl ⟨by rfl, ?_⟩) (fun _ => HT.out) ?_
          rotate_left
          · intro w' _
            go_simp
            try with_reducible rfl
          (try simp only [Act.put, List.getElem_toArray, List.getElem_cons_succ, List.getElem_cons_zero, List.setIfInBounds_toArray, List.set_cons_zero, List.set_cons_succ])
          obtain ⟨s0, s1, s2, s3, s4, s5, s6, s7, s8, y0, y1, y2, y3, y4, y5, y6, y7, y8⟩ := z9_of NS.out
          refine wpL_late (n := 5) (by kernel_rfl) rfl (by kernel_rfl) (fun K' hK => ?_)
          go_simp
          refine hK.out _ _ ?_
          clear hK K'
          (try simp only [Act.put, List.getElem_toArray, List.getElem_cons_succ, List.getElem_cons_zero, List.setIfInBounds_toArray, List.set_cons_zero, List.set_cons_succ])
          refine wpL_done (by kernel_rfl) ?_ _
          refine NoPanic.normal ?_
          have F := sr_fin NC NM NS lL lS bW
          clear s0 y0 s1 y1 s2 y2 s3 y3 s4 y4 s5 y5 s6 y6 s7 y7 s8 y8
          go_wp2_with fail
          go_meet
          unfold st9 at F
          exact ⟨gS, gA, gB, gC, gL, rfl, κ F.1, κ F.2⟩
    · intro K' hK
      go_simp
      have hu : Below wD.heap.size wD (wD.alloc (.cells #[.slice none 0 0, .slice none 0 0, .slice none 0 0] 75)) := (Below.refl _ _).alloc (Nat.le_refl _) _
      have b2 := κ (Rul1.below_step bW.out hu)
      have l2 := κ (Rd.below' lW.out hu hu.size)
      have MM := κ (Blk.fresh wD 75 #[.slice none 0 0, .slice none 0 0, .slice none 0 0])
      have lL : Hid (w0.heap.size ≤ wD.heap.size) := κ bW.out.size
      clear hu bW lW
      generalize wD.alloc (.cells #[.slice none 0 0, .slice none 0 0, .slice none 0 0] 75) = wE at b2 l2 MM ⊢
      generalize wD.heap.size = gL at MM lL ⊢
      refine hK.out _ _ trivial ?_
      clear hK K'
      (try simp only [Act.put, List.getElem_toArray, List.getElem_cons_succ, List.getElem_cons_zero, List.setIfInBounds_toArray, List.set_cons_zero, List.set_cons_succ])
      have bW := b2
      have lW := l2
      clear b2 l2
      have NM := MM
      clear MM
      generalize wE = wD at *
      refine wpL_two (m := 1) (n := 4) (by kernel_rfl) rfl rfl ?_ ?_
      · intro K' hK
        go_simp
        refine (sconfig_any l A c wD lW (by omega)).mono ?_
        rintro e wE ⟨gA, gB, gC, rfl, hc, hb⟩
        have b2 := κ (Rul1.below_step bW.out hb)
        have l2 := κ (Rd.below' lW.out hb hb.size)
        have MC := κ (Cn.mono hc bW.out.size)
        have MM := κ (NM.out.below' hb)
        clear hc hb bW lW NM
        unfold cnV
        refine hK.out _ _ trivial ?_
        clear hK K'
        (try simp only [Act.put, List.getElem_toArray, List.getElem_cons_succ, List.getElem_cons_zero, List.setIfInBounds_toArray, List.set_cons_zero, List.set_cons_succ])
        have bW := b2
        have lW := l2
        clear b2 l2
        have NM := MM
        clear MM
        have NC := MC
        clear MC
        generalize wE = wD at *
        refine wpL_word (i := 3) (v := ?_) rfl (by kernel_rfl) (fun _ _ _ h => h) (by kernel_rfl) _ _ _ _ (by kernel_rfl) (by kernel_rfl) (Or.inl ⟨by rfl, ?_⟩) (fun _ => HT.out) ?_
        rotate_left
        · intro w' _
          go_simp
          try with_reducible rfl
        (try simp only [Act.put, List.getElem_toArray, List.getElem_cons_succ, List.getElem_cons_zero, List.setIfInBounds_toArray, List.set_cons_zero, List.set_cons_succ])
        refine wpL_next (n := 4) (by kernel_rfl) rfl ?_
        · intro K' hK
          go_simp
          have hu : Below wD.heap.size wD (wD.alloc (.cells #[.int .i64 0, .int .i64 0, .int .i64 0, .int .i64 0, .slice none 0 0, .slice none 0 0, .slice none 0 0, .slice none 0 0, .slice none 0 0] 49)) := (Below.refl _ _).alloc (Nat.le_refl _) _
          have b2 := κ (Rul1.below_step bW.out hu)
          have l2 := κ (Rd.below' lW.out hu hu.size)
          have MS := κ (Blk.fresh wD 49 #[.int .i64 0, .int .i64 0, .int .i64 0, .int .i64 0, .slice none 0 0, .slice none 0 0, .slice none 0 0, .slice none 0 0, .slice none 0 0])
          have lS : Hid (w0.heap.size ≤ wD.heap.size) := κ bW.out.size
          have MM := κ (NM.out.below' hu)
          have MC := κ (Cn.below NC.out hu)
          clear hu bW lW NM NC
          generalize wD.alloc (.cells #[.int .i64 0, .int .i64 0, .int .i64 0, .int .i64 0, .slice none 0 0, .slice none 0 0, .slice none 0 0, .slice none 0 0, .slice none 0 0] 49) = wE at b2 l2 MS MM MC ⊢
          generalize wD.heap.size = gS at MS lS ⊢
          refine hK.out _ _ trivial ?_
          clear hK K'
          (try simp only [Act.put, List.getElem_toArray, List.getElem_cons_succ, List.getElem_cons_zero, List.setIfInBounds_toArray, List.set_cons_zero, List.set_cons_succ])
          have bW := b2
          have lW := l2
          clear b2 l2
          have NM := MM
          clear MM
          have NC := MC
          clear MC
          have NS := MS
          clear MS
          generalize wE = wD at *
          obtain ⟨s0, s1, s2, s3, s4, s5, s6, s7, s8, y0, y1, y2, y3, y4, y5, y6, y7, y8⟩ := z9_of NS.out
          refine wpL_late (n := 5) (by kernel_rfl) rfl (by kernel_rfl) (fun K' hK => ?_)
          go_simp
          refine hK.out _ _ ?_
          clear hK K'
          (try simp only [Act.put, List.getElem_toArray, List.getElem_cons_succ, List.getElem_cons_zero, List.setIfInBounds_toArray, List.set_cons_zero, List.set_cons_succ])
          refine wpL_done (by kernel_rfl) ?_ _
          refine NoPanic.normal ?_
          have F := sr_fin NC NM NS lL lS bW
          clear s0 y0 s1 y1 s2 y2 s3 y3 s4 y4 s5 y5 s6 y6 s7 y7 s8 y8
          go_wp2_with fail
          go_meet
          unfold st9 at F
          exact ⟨gS, gA, gB, gC, gL, rfl, κ F.1, κ F.2⟩
      · intro K' hK
        go_simp
        have hu : Below wD.heap.size wD (wD.alloc (.cells #[.int .i64 0, .int .i64 0, .int .i64 0, .int .i64 0, .slice none 0 0, .slice none 0 0, .slice none 0 0, .slice none 0 0, .slice none 0 0] 49)) := (Below.refl _ _).alloc (Nat.le_refl _) _
        have b2 := κ (Rul1.below_step bW.out hu)
        have l2 := κ (Rd.below' lW.out hu hu.size)
        have MS := κ (Blk.fresh wD 49 #[.int .i64 0, .int .i64 0, .int .i64 0, .int .i64 0, .slice none 0 0, .slice none 0 0, .slice none 0 0, .slice none 0 0, .slice none 0 0])
        have lS : Hid (w0.heap.size ≤ wD.heap.size) := κ bW.out.size
        have MM := κ (NM.out.below' hu)
        clear hu bW lW NM
        generalize wD.alloc (.cells #[.int .i64 0, .int .i64 0, .int .i64 0, .int .i64 0, .slice none 0 0, .slice none 0 0, .slice none 0 0, .slice none 0 0, .slice none 0 0] 49) = wE at b2 l2 MS MM ⊢
        generalize wD.heap.size = gS at MS lS ⊢
        refine hK.out _ _ trivial ?_
        clear hK K'
        (try simp only [Act.put, List.getElem_toArray, List.getElem_cons_succ, List.getElem_cons_zero, List.setIfInBounds_toArray, List.set_cons_zero, List.set_cons_succ])
        have bW := b2
        have lW := l2
        clear b2 l2
        have NM := MM
        clear MM
        have NS := MS
        clear MS
        generalize wE = wD at *
        refine wpL_next (n := 1) (by kernel_rfl) rfl ?_
        · intro K' hK
          go_simp
          refine (sconfig_any l A c wD lW (by omega)).mono ?_
          rintro e wE ⟨gA, gB, gC, rfl, hc, hb⟩
          have b2 := κ (Rul1.below_step bW.out hb)
          have l2 := κ (Rd.below' lW.out hb hb.size)
          have MC := κ (Cn.mono hc bW.out.size)
          have MM := κ (NM.out.below' hb)
          have MS := κ (NS.out.below' hb)
          clear hc hb bW lW NM NS
          unfold cnV
          refine hK.out _ _ trivial ?_
          clear hK K'
          (try simp only [Act.put, List.getElem_toArray, List.getElem_cons_succ, List.getElem_cons_zero, List.setIfInBounds_toArray, List.set_cons_zero, List.set_cons_succ])
          have bW := b2
          have lW := l2
          clear b2 l2
          have NM := MM
          clear MM
          have NS := MS
          clear MS
          have NC := MC
          clear MC
          generalize wE = wD at *
          refine wpL_word (i := 3) (v := ?_) rfl (by kernel_rfl) (fun _ _ _ h => h) (by kernel_rfl) _ _ _ _ (by kernel_rfl) (by kernel_rfl) (Or.inl ⟨by rfl, ?_⟩) (fun _ => HT.out) ?_
          rotate_left
          · intro w' _
            go_simp
            try with_reducible rfl
          (try simp only [Act.put, List.getElem_toArray, List.getElem_cons_succ, List.getElem_cons_zero, List.setIfInBounds_toArray, List.set_cons_zero, List.set_cons_succ])
          obtain ⟨s0, s1, s2, s3, s4, s5, s6, s7, s8, y0, y1, y2, y3, y4, y5, y6, y7, y8⟩ := z9_of NS.out
          refine wpL_late (n := 5) (by kernel_rfl) rfl (by kernel_rfl) (fun K' hK => ?_)
          go_simp
          refine hK.out _ _ ?_
          clear hK K'
          (try simp only [Act.put, List.getElem_toArray, List.getElem_cons_succ, List.getElem_cons_zero, List.setIfInBounds_toArray, List.set_cons_zero, List.set_cons_succ])
          refine wpL_done (by kernel_rfl) ?_ _
          refine NoPanic.normal ?_
          have F := sr_fin NC NM NS lL lS bW
          clear s0 y0 s1 y1 s2 y2 s3 y3 s4 y4 s5 y5 s6 y6 s7 y7 s8 y8
          go_wp2_with fail
          go_meet
          unfold st9 at F
          exact ⟨gS, gA, gB, gC, gL, rfl, κ F.1, κ F.2⟩
    · intro K' hK
      go_simp
      have hu : Below wD.heap.size wD (wD.alloc (.cells #[.int .i64 0, .int .i64 0, .int .i64 0, .int .i64 0, .slice none 0 0, .slice none 0 0, .slice none 0 0, .slice none 0 0, .slice none 0 0] 49)) := (Below.refl _ _).alloc (Nat.le_refl _) _
      have b2 := κ (Rul1.below_step bW.out hu)
      have l2 := κ (Rd.below' lW.out hu hu.size)
      have MS := κ (Blk.fresh wD 49 #[.int .i64 0, .int .i64 0, .int .i64 0, .int .i64 0, .slice none 0 0, .slice none 0 0, .slice none 0 0, .slice none 0 0, .slice none 0 0])
      have lS : Hid (w0.heap.size ≤ wD.heap.size) := κ bW.out.size
      clear hu bW lW
      generalize wD.alloc (.cells #[.int .i64 0, .int .i64 0, .int .i64 0, .int .i64 0, .slice none 0 0, .slice none 0 0, .slice none 0 0, .slice none 0 0, .slice none 0 0] 49) = wE at b2 l2 MS ⊢
      generalize wD.heap.size = gS at MS lS ⊢
      refine hK.out _ _ trivial ?_
      clear hK K'
      (try simp only [Act.put, List.getElem_toArray, List.getElem_cons_succ, List.getElem_cons_zero, List.setIfInBounds_toArray, List.set_cons_zero, List.set_cons_succ])
      have bW := b2
      have lW := l2
      clear b2 l2
      have NS := MS
      clear MS
      generalize wE = wD at *
      refine wpL_two (m := 1) (n := 2) (by kernel_rfl) rfl rfl ?_ ?_
      · intro K' hK
        go_simp
        refine (sconfig_any l A c wD lW (by omega)).mono ?_
        rintro e wE ⟨gA, gB, gC, rfl, hc, hb⟩
        have b2 := κ (Rul1.below_step bW.out hb)
        have l2 := κ (Rd.below' lW.out hb hb.size)
        have MC := κ (Cn.mono hc bW.out.size)
        have MS := κ (NS.out.below' hb)
        clear hc hb bW lW NS
        unfold cnV
        refine hK.out _ _ trivial ?_
        clear hK K'
        (try simp only [Act.put, List.getElem_toArray, List.getElem_cons_succ, List.getElem_cons_zero, List.setIfInBounds_toArray, List.set_cons_zero, List.set_cons_succ])
        have bW := b2
        have lW := l2
        clear b2 l2
        have NS := MS
        clear MS
        have NC := MC
        clear MC
        generalize wE = wD at *
        refine wpL_next (n := 2) (by kernel_rfl) rfl ?_
        · intro K' hK
          go_simp
          have hu : Below wD.heap.size wD (wD.alloc (.cells #[.slice none 0 0, .slice none 0 0, .slice none 0 0] 75)) := (Below.refl _ _).alloc (Nat.le_refl _) _
          have b2 := κ (Rul1.below_step bW.out hu)
          have l2 := κ (Rd.below' lW.out hu hu.size)
          have MM := κ (Blk.fresh wD 75 #[.slice none 0 0, .slice none 0 0, .slice none 0 0])
          have lL : Hid (w0.heap.size ≤ wD.heap.size) := κ bW.out.size
          have MS := κ (NS.out.below' hu)
          have MC := κ (Cn.below NC.out hu)
          clear hu bW lW NS NC
          generalize wD.alloc (.cells #[.slice none 0 0, .slice none 0 0, .slice none 0 0] 75) = wE at b2 l2 MM MS MC ⊢
          generalize wD.heap.size = gL at MM lL ⊢
          refine hK.out _ _ trivial ?_
          clear hK K'
          (try simp only [Act.put, List.getElem_toArray, List.getElem_cons_succ, List.getElem_cons_zero, List.setIfInBounds_toArray, List.set_cons_zero, List.set_cons_succ])
          have bW := b2
          have lW := l2
          clear b2 l2
          have NS := MS
          clear MS
          have NC := MC
          clear MC
          have NM := MM
          clear MM
          generalize wE = wD at *
          refine wpL_word (i := 3) (v := ?_) rfl (by kernel_rfl) (fun _ _ _ h => h) (by kernel_rfl) _ _ _ _ (by kernel_rfl) (by kernel_rfl) (Or.inl ⟨by rfl, ?_⟩) (fun _ => HT.out) ?_
          rotate_left
          · intro w' _
            go_simp
            try with_reducible rfl
          (try simp only [Act.put, List.getElem_toArray, List.getElem_cons_succ, List.getElem_cons_zero, List.setIfInBounds_toArray, List.set_cons_zero, List.set_cons_succ])
          obtain ⟨s0, s1, s2, s3, s4, s5, s6, s7, s8, y0, y1, y2, y3, y4, y5, y6, y7, y8⟩ := z9_of NS.out
          refine wpL_late (n := 5) (by kernel_rfl) rfl (by kernel_rfl) (fun K' hK => ?_)
          go_simp
          refine hK.out _ _ ?_
          clear hK K'
          (try simp only [Act.put, List.getElem_toArray, List.getElem_cons_succ, List.getElem_cons_zero, List.setIfInBounds_toArray, List.set_cons_zero, List.set_cons_succ])
          refine wpL_done (by kernel_rfl) ?_ _
          refine NoPanic.normal ?_
          have F := sr_fin NC NM NS lL lS bW
          clear s0 y0 s1 y1 s2 y2 s3 y3 s4 y4 s5 y5 s6 y6 s7 y7 s8 y8
          go_wp2_with fail
          go_meet
          unfold st9 at F
          exact ⟨gS, gA, gB, gC, gL, rfl, κ F.1, κ F.2⟩
      · intro K' hK
        go_simp
        have hu : Below wD.heap.size wD (wD.alloc (.cells #[.slice none 0 0, .slice none 0 0, .slice none 0 0] 75)) := (Below.refl _ _).alloc (Nat.le_refl _) _
        have b2 := κ (Rul1.below_step bW.out hu)
        have l2 := κ (Rd.below' lW.out hu hu.size)
        have MM := κ (Blk.fresh wD 75 #[.slice none 0 0, .slice none 0 0, .slice none 0 0])
        have lL : Hid (w0.heap.size ≤ wD.heap.size) := κ bW.out.size
        have MS := κ (NS.out.below' hu)
        clear hu bW lW NS
        generalize wD.alloc (.cells #[.slice none 0 0, .slice none 0 0, .slice none 0 0] 75) = wE at b2 l2 MM MS ⊢
        generalize wD.heap.size = gL at MM lL ⊢
        refine hK.out _ _ trivial ?_
        clear hK K'
        (try simp only [Act.put, List.getElem_toArray, List.getElem_cons_succ, List.getElem_cons_zero, List.setIfInBounds_toArray, List.set_cons_zero, List.set_cons_succ])
        have bW := b2
        have lW := l2
        clear b2 l2
        have NS := MS
        clear MS
        have NM := MM
        clear MM
        generalize wE = wD at *
        refine wpL_next (n := 1) (by kernel_rfl) rfl ?_
        · intro K' hK
          go_simp
          refine (sconfig_any l A c wD lW (by omega)).mono ?_
          rintro e wE ⟨gA, gB, gC, rfl, hc, hb⟩
          have b2 := κ (Rul1.below_step bW.out hb)
          have l2 := κ (Rd.below' lW.out hb hb.size)
          have MC := κ (Cn.mono hc bW.out.size)
          have MS := κ (NS.out.below' hb)
          have MM := κ (NM.out.below' hb)
          clear hc hb bW lW NS NM
          unfold cnV
          refine hK.out _ _ trivial ?_
          clear hK K'
          (try simp only [Act.put, List.getElem_toArray, List.getElem_cons_succ, List.getElem_cons_zero, List.setIfInBounds_toArray, List.set_cons_zero, List.set_cons_succ])
          have bW := b2
          have lW := l2
          clear b2 l2
          have NS := MS
          clear MS
          have NM := MM
          clear MM
          have NC := MC
          clear MC
          generalize wE = wD at *
          refine wpL_word (i := 3) (v := ?_) rfl (by kernel_rfl) (fun _ _ _ h => h) (by kernel_rfl) _ _ _ _ (by kernel_rfl) (by kernel_rfl) (Or.inl ⟨by rfl, ?_⟩) (fun _ => HT.out) ?_
          rotate_left
          · intro w' _
            go_simp
            try with_reducible rfl
          (try simp only [Act.put, List.getElem_toArray, List.getElem_cons_succ, List.getElem_cons_zero, List.setIfInBounds_toArray, List.set_cons_zero, List.set_cons_succ])
          obtain ⟨s0, s1, s2, s3, s4, s5, s6, s7, s8, y0, y1, y2, y3, y4, y5, y6, y7, y8⟩ := z9_of NS.out
          refine wpL_late (n := 5) (by kernel_rfl) rfl (by kernel_rfl) (fun K' hK => ?_)
          go_simp
          refine hK.out _ _ ?_
          clear hK K'
          (try simp only [Act.put, List.getElem_toArray, List.getElem_cons_succ, List.getElem_cons_zero, List.setIfInBounds_toArray, List.set_cons_zero, List.set_cons_succ])
          refine wpL_done (by kernel_rfl) ?_ _
          refine NoPanic.normal ?_
          have F := sr_fin NC NM NS lL lS bW
          clear s0 y0 s1 y1 s2 y2 s3 y3 s4 y4 s5 y5 s6 y6 s7 y7 s8 y8
          go_wp2_with fail
          go_meet
          unfold st9 at F
          exact ⟨gS, gA, gB, gC, gL, rfl, κ F.1, κ F.2⟩
  case rest =>
    obtain ⟨gS, gA, gB, gC, gL, rfl, R, B⟩ := hcut
    rename World => w6
    have b6 := κ (Rul1.below_step b0.out B.out)
    have z6 := κ (z0.out.below' B.out)
    have hc6 : decide ((l.length : Int) ≤ 12) = true := decide_eq_true hn
    have lz : w.heap.size ≤ w0.heap.size := b0.out.size
    have R6 := κ (Cn.mono R.out.c lz)
    have k6 : Hid (Blk w6 gS 49 (scV l gA gB gC gL (.slice none 0 0))) := κ R.out.s
    have m6 := κ R.out.li
    have hne : Hid (gL ≠ gR) := κ (blk_ne R.out.li z6.out (by decide))
    have ha : Hid (gA ≠ gR) := κ (blk_ne R.out.c.a z6.out (by decide))
    have hb : Hid (gB ≠ gR) := κ (blk_ne R.out.c.b z6.out (by decide))
    have hc : Hid (gC ≠ gR) := κ (blk_ne R.out.c.c z6.out (by decide))
    clear b0 z0 l0 R B lz hl
    unfold scV at k6
    obtain ⟨j0, j1, j2, j3, j4, j5, j6, j7, j8⟩ := q9_of k6.out
    obtain ⟨s0, s1, s2, s3, s4, s5, s6, s7, s8, y0, y1, y2, y3, y4, y5, y6, y7, y8⟩ := z9_of z6.out
    go_wp2_with fail
    have f3 := st9_blk (v0 := .int .i64 (1 + bt l 0 % 3)) (v1 := .int .i64 (bt l 1 % 4)) (v2 := .int .i64 (1 + bt l 2 % 6)) (v3 := .int .i64 (1 + bt l 3 % 6)) (v4 := .slice (some ⟨gA, 0, none⟩) 4 4) (v5 := .slice (some ⟨gB, 0, none⟩) 3 3) (v6 := .slice (some ⟨gC, 0, none⟩) 2 2) (v7 := .slice (some ⟨gL, 0, none⟩) 3 3) (v8 := .slice none 0 0) z6.out
    have hB := st9_below (v0 := .int .i64 (1 + bt l 0 % 3)) (v1 := .int .i64 (bt l 1 % 4)) (v2 := .int .i64 (1 + bt l 2 % 6)) (v3 := .int .i64 (1 + bt l 3 % 6)) (v4 := .slice (some ⟨gA, 0, none⟩) 4 4) (v5 := .slice (some ⟨gB, 0, none⟩) 3 3) (v6 := .slice (some ⟨gC, 0, none⟩) 2 2) (v7 := .slice (some ⟨gL, 0, none⟩) 3 3) (v8 := .slice none 0 0) b6.out hg.out
    have hM := st9_far (v0 := .int .i64 (1 + bt l 0 % 3)) (v1 := .int .i64 (bt l 1 % 4)) (v2 := .int .i64 (1 + bt l 2 % 6)) (v3 := .int .i64 (1 + bt l 3 % 6)) (v4 := .slice (some ⟨gA, 0, none⟩) 4 4) (v5 := .slice (some ⟨gB, 0, none⟩) 3 3) (v6 := .slice (some ⟨gC, 0, none⟩) 2 2) (v7 := .slice (some ⟨gL, 0, none⟩) 3 3) (v8 := .slice none 0 0) m6.out hne.out
    have hC : Cn l w (st9 w6 gR (.int .i64 (1 + bt l 0 % 3)) (.int .i64 (bt l 1 % 4)) (.int .i64 (1 + bt l 2 % 6)) (.int .i64 (1 + bt l 3 % 6)) (.slice (some ⟨gA, 0, none⟩) 4 4) (.slice (some ⟨gB, 0, none⟩) 3 3) (.slice (some ⟨gC, 0, none⟩) 2 2) (.slice (some ⟨gL, 0, none⟩) 3 3) (.slice none 0 0)) gA gB gC := ⟨st9_far R6.out.a ha.out, st9_far R6.out.b hb.out, st9_far R6.out.c hc.out, R6.out.la, R6.out.lb, R6.out.lc⟩
    clear j0 s0 y0 j1 s1 y1 j2 s2 y2 j3 s3 y3 j4 s4 y4 j5 s5 y5 j6 s6 y6 j7 s7 y7 j8 s8 y8
    obtain ⟨d0, d1, d2, d3, d4, d5, d6, d7, d8⟩ := q9_of f3
    unfold st9 at d0 d1 d2 d3 d4 d5 d6 d7 d8 hB hM hC
    exact bodyPost_ret (v := .agg #[.int .i64 (1 + bt l 0 % 3), .int .i64 (bt l 1 % 4), .int .i64 (1 + bt l 2 % 6), .int .i64 (1 + bt l 3 % 6), .slice (some ⟨gA, 0, none⟩) 4 4, .slice (some ⟨gB, 0, none⟩) 3 3, .slice (some ⟨gC, 0, none⟩) 2 2, .slice (some ⟨gL, 0, none⟩) 3 3, .slice none 0 0]) (by simp [results, Tryz.results13, go_sem, d0, d1, d2, d3, d4, d5, d6, d7, d8]) rfl ⟨gA, gB, gC, gL, rfl, hC, hM, hB⟩
end Srd
namespace Sto
open Wmr Wrt Sgu Slp Spp Srd
theorem dig1 {n : Int} (h : 0 ≤ n) (h9 : n < 10) : itoa n = [dgt n.toNat] := by rw [itoa_dec h, dec_small (by omega)]
theorem itoa12 : itoa 12 = [49, 50] := by
  rw [itoa_dec (by omega), show (12 : Int).toNat = 12 from rfl, dec_big (by omega), dec_small (by omega)]
  rfl
def mA : M := ⟨0, 0, 1, true, 12, 3, 7, 0, 0, 0, 0, 0⟩
def mC : M := ⟨2, 0, 0, false, 0, 0, 0, 0, 4, 2, 0, 0⟩
def lA : List UInt8 := [111, 114, 100, 101, 114, 32, 48, 32, 49, 32, 115, 101, 108, 108, 32, 49, 50, 32, 51, 32, 55, 32, 48]
def lB : List UInt8 := [102, 105, 108, 108, 32, 48, 52, 32, 50]
def lC : List UInt8 := [102, 105, 108, 108, 32, 52, 32, 50]
theorem lineA : lineL mA = lA := by
  unfold lineL
  rw [if_pos (by decide)]
  show join [wOrder, itoa 0, itoa 1, sideL true, itoa 12, itoa 3, itoa 7, itoa 0] [32] = lA
  rw [itoa12, dig1 (n := 0) (by omega) (by omega), dig1 (n := 1) (by omega) (by omega), dig1 (n := 3) (by omega) (by omega), dig1 (n := 7) (by omega) (by omega)]
  rfl
theorem lineC : lineL mC = lC := by
  unfold lineL
  rw [if_pos (by decide)]
  show join [wFill, itoa 4, itoa 2] [32] = lC
  rw [dig1 (n := 4) (by omega) (by omega), dig1 (n := 2) (by omega) (by omega)]
  rfl
theorem small {n : Int} (h : 0 ≤ n := by decide) (h1 : n ≤ 100 := by decide) : inI n := by unfold inI; omega
theorem wfA : WfM mA := ⟨small, small, small, small, small, small, small, small, small, small, small⟩
theorem wfC : WfM mC := ⟨small, small, small, small, small, small, small, small, small, small, small⟩
theorem parseA : parseP lA = (mA, true) := by rw [← lineA]; exact parseP_line wfA (by decide)
theorem guessB : guessP lB = mC := by kernel_rfl
theorem parseB : parseP lB = (m0, false) := by
  unfold parseP
  rw [guessB, lineC, if_neg (by decide)]
theorem cf_ok (l : List UInt8) : cfgF (1 + bt l 0 % 3) (bt l 1 % 4) (1 + bt l 2 % 6) (1 + bt l 3 % 6) (cfN l) cfA cfS = 0 := by
  have p0 := bt_in l 0
  have p1 := bt_in l 1
  have p2 := bt_in l 2
  have p3 := bt_in l 3
  have p4 := bt_in l 4
  have p5 := bt_in l 5
  have p6 := bt_in l 6
  have p7 := bt_in l 7
  refine cfgF_7 ?_ ?_ (by decide) (by show accB 4 cfA = true; decide) (by decide) (by decide +kernel)
  · unfold sizB
    rw [btw_t (by omega) (by omega), btw_t (by omega) (by omega), btw_t (by omega) (by omega), btw_t (by omega) (by omega)]
    rfl
  · unfold cfN
    generalize bt l 4 = c4 at *
    generalize bt l 5 = c5 at *
    generalize bt l 6 = c6 at *
    generalize bt l 7 = c7 at *
    have h : scanF [(-1, 100 * (1 + c4)), (0, 100 * (1 + c5)), (1, 50 * (1 + c6)), (1, 50 * (1 + c7))] 4 0 = (0, -1) := by
      simp only [scanF, nP, nC, List.getD_cons_zero, List.getD_cons_succ, List.length_cons, List.length_nil]
      rw [if_pos (Or.inl trivial), if_pos (by omega), if_pos (Or.inr (by decide)), if_pos (by omega), if_pos (Or.inr (by decide)), if_pos (by omega), if_pos (Or.inr (by decide)), if_pos (by omega)]
      rfl
    have e : chk [(-1, 100 * (1 + c4)), (0, 100 * (1 + c5)), (1, 50 * (1 + c6)), (1, 50 * (1 + c7))] = (0, -1) := by
      unfold chk
      rw [if_neg (by simp), if_neg (by simp)]
      exact h
    rw [e]
theorem checkC (l : List UInt8) (gA gB gC : Nat) (w0 w : World) (h : Hid (Cn l w0 w gA gB gC)) : Calls Tryz.prog 12 #[cnV l gA gB gC] w (MadeX 0 w) := by
  have p4 := bt_in l 4
  have p5 := bt_in l 5
  have p6 := bt_in l 6
  have p7 := bt_in l 7
  have hw : WfN (cfN l) := by
    intro i hi
    have hi : i < 4 := hi
    unfold inI nP nC cfN
    match i, hi with
    | 0, _ => simp only [List.getD_cons_zero]; omega
    | 1, _ => simp only [List.getD_cons_zero, List.getD_cons_succ]; omega
    | 2, _ => simp only [List.getD_cons_zero, List.getD_cons_succ]; omega
    | 3, _ => simp only [List.getD_cons_zero, List.getD_cons_succ]; omega
  have c := check5_any (1 + bt l 0 % 3) (bt l 1 % 4) (1 + bt l 2 % 6) (1 + bt l 3 % 6) (some ⟨gA, 0, none⟩) (some ⟨gB, 0, none⟩) (some ⟨gC, 0, none⟩) 4 3 2 (cfN l) cfA cfS w (κ (h.out.a.rd' (by simp))) (κ (h.out.b.rd' (by simp))) (κ (h.out.c.rd' (by simp))) (κ hw) (by show ((4 : Nat) : Int) ≤ _; omega) (by show ((3 : Nat) : Int) ≤ _; omega) (by show ((2 : Nat) : Int) ≤ _; omega)
  rw [cf_ok] at c
  exact c
theorem told13_any (w : World) (hL : Hid (Lw w)) : Calls Tryz.prog 4 #[] w (MadeBl true w) := by
  have PA : Hid (∀ W, Hid (Lw W) → Calls Tryz.prog 5 #[.string ⟨#[111, 114, 100, 101, 114, 32, 48, 32, 49, 32, 115, 101, 108, 108, 32, 49, 50, 32, 51, 32, 55, 32, 48]⟩] W (fun e w' => e = .returned (.tuple #[.agg #[.int .i64 0, .int .i64 0, .int .i64 1, .bool true, .int .i64 12, .int .i64 3, .int .i64 7, .int .i64 0, .int .i64 0, .int .i64 0, .int .i64 0, .int .i64 0], .bool true]) ∧ Below W.heap.size W w')) := κ (fun W h => by have c := sparse_any lA W h (by decide); rw [parseA] at c; exact c)
  have PB : Hid (∀ W, Hid (Lw W) → Calls Tryz.prog 5 #[.string ⟨#[102, 105, 108, 108, 32, 48, 52, 32, 50]⟩] W (fun e w' => e = .returned (.tuple #[.agg #[.int .i64 0, .int .i64 0, .int .i64 0, .bool false, .int .i64 0, .int .i64 0, .int .i64 0, .int .i64 0, .int .i64 0, .int .i64 0, .int .i64 0, .int .i64 0], .bool false]) ∧ Below W.heap.size W w')) := κ (fun W h => by have c := sparse_any lB W h (by decide); rw [parseB] at c; exact c)
  have PC : Hid (∀ W, Hid (Lw W) → Calls Tryz.prog 7 #[.agg #[.int .i64 2, .int .i64 0, .int .i64 0, .bool false, .int .i64 0, .int .i64 0, .int .i64 0, .int .i64 0, .int .i64 4, .int .i64 2, .int .i64 0, .int .i64 0]] W (fun e w' => e = .returned (.string ⟨#[102, 105, 108, 108, 32, 52, 32, 50]⟩) ∧ Below W.heap.size W w')) := κ (fun W h => by have c := sline_any mC W wfC h; rw [lineC] at c; exact c)
  have fd : ∀ (a b c d : Int) (A B C D E : Option Addr) (n1 c1 n2 c2 n3 c3 n4 c4 n5 c5 : Nat) (W : World), (Instr.field 49 (.agg #[.int .i64 a, .int .i64 b, .int .i64 c, .int .i64 d, .slice A n1 c1, .slice B n2 c2, .slice C n3 c3, .slice D n4 c4, .slice E n5 c5]) 0).run Tryz.prog W = .ok (.agg #[.int .i64 a, .int .i64 b, .int .i64 c, .int .i64 d, .slice A n1 c1, .slice B n2 c2, .slice C n3 c3]) W := fun _ _ _ _ _ _ _ _ _ _ _ _ _ _ _ _ _ _ _ _ => by kernel_rfl
  go_enter Tryz.func4, Tryz.ntmps4
  go_wp2_with fail
  refine (PA.out _ hL).mono ?_
  rintro e w1 ⟨rfl, hb1⟩
  have b1 := κ hb1
  have L1 := lwb hL hb1
  clear hb1 hL PA
  go_wp2_with fail
  have b2 := κ (b1.out.alloc b1.out.size (.cells #[.int .i64 0, .int .i64 0, .int .i64 1, .bool true, .int .i64 12, .int .i64 3, .int .i64 7, .int .i64 0, .int .i64 0, .int .i64 0, .int .i64 0, .int .i64 0] 29))
  have k2 := κ (δ w1 29 #[.int .i64 0, .int .i64 0, .int .i64 1, .bool true, .int .i64 12, .int .i64 3, .int .i64 7, .int .i64 0, .int .i64 0, .int .i64 0, .int .i64 0, .int .i64 0] w1.heap.size rfl)
  have L2 := lwb L1 ((Below.refl w1.heap.size w1).alloc (Nat.le_refl _) (.cells #[.int .i64 0, .int .i64 0, .int .i64 1, .bool true, .int .i64 12, .int .i64 3, .int .i64 7, .int .i64 0, .int .i64 0, .int .i64 0, .int .i64 0, .int .i64 0] 29))
  clear b1 L1
  generalize w1.alloc (.cells #[.int .i64 0, .int .i64 0, .int .i64 1, .bool true, .int .i64 12, .int .i64 3, .int .i64 7, .int .i64 0, .int .i64 0, .int .i64 0, .int .i64 0, .int .i64 0] 29) = w2 at b2 k2 L2 ⊢
  generalize w1.heap.size = gM at k2 ⊢
  refine (PB.out _ L2).mono ?_
  rintro e w3 ⟨rfl, hb3⟩
  have b3 := κ (Rul1.below_step b2.out hb3)
  have L3 := lwb L2 hb3
  have k3 := κ (k2.out.below' hb3)
  clear hb3 b2 L2 k2 PB
  have b4 := κ (b3.out.alloc b3.out.size (.cells #[.int .i64 0, .int .i64 0, .int .i64 0, .bool false, .int .i64 0, .int .i64 0, .int .i64 0, .int .i64 0, .int .i64 0, .int .i64 0, .int .i64 0, .int .i64 0] 29))
  have k4 := κ (k3.out.alloc (.cells #[.int .i64 0, .int .i64 0, .int .i64 0, .bool false, .int .i64 0, .int .i64 0, .int .i64 0, .int .i64 0, .int .i64 0, .int .i64 0, .int .i64 0, .int .i64 0] 29))
  have L4 := lwb L3 ((Below.refl w3.heap.size w3).alloc (Nat.le_refl _) (.cells #[.int .i64 0, .int .i64 0, .int .i64 0, .bool false, .int .i64 0, .int .i64 0, .int .i64 0, .int .i64 0, .int .i64 0, .int .i64 0, .int .i64 0, .int .i64 0] 29))
  clear b3 L3 k3
  go_upto_region 3 with fail
  generalize w3.alloc (.cells #[.int .i64 0, .int .i64 0, .int .i64 0, .bool false, .int .i64 0, .int .i64 0, .int .i64 0, .int .i64 0, .int .i64 0, .int .i64 0, .int .i64 0, .int .i64 0] 29) = w4 at b4 k4 L4 ⊢
  obtain ⟨j0, j1, j2, j3, j4, j5, j6, j7, j8, j9, j10, j11⟩ := c12_of k4.out
  go_wp2_with fail
  refine (PC.out _ L4).mono ?_
  rintro e w5 ⟨rfl, hb5⟩
  have b5 := κ (Rul1.below_step b4.out hb5)
  clear hb5 b4 k4 L4 PC j0 j1 j2 j3 j4 j5 j6 j7 j8 j9 j10 j11
  go_wp2_with fail
  refine (sreadS_any [] none 0 w5 (κ Rd.nil) (by decide)).mono ?_
  rintro e w6 ⟨gA, gB, gC, gL, rfl, hc, hl, hb6⟩
  have b6 := κ (Rul1.below_step b5.out hb6)
  have CK := κ (checkC [] gA gB gC w5 w6 (κ hc))
  clear hc hl hb6 b5
  unfold scV
  go_wp2_with fail
  refine (CK.out).mono ?_
  rintro e w7 ⟨rfl, hb7⟩
  have b7 := κ (Rul1.below_step b6.out hb7)
  clear hb7 b6 CK
  go_wp2_with fail
  go_ret
  exact ⟨rfl, b7.out⟩
end Sto
end Go.Proofs.YteclenloimbaeaaGreatDoor
