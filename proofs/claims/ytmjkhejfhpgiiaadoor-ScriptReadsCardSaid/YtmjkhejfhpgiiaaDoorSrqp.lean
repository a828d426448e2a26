/- Texts side by side. -/
import Derived.Laws.Cover3
import Derived.Test.YtmjkhejfhpgiiaaDoorSrqm
set_option linter.unusedVariables false
set_option linter.unusedSimpArgs false
set_option maxRecDepth 100000
set_option maxHeartbeats 16000000
namespace Go.Proofs.YtmjkhejfhpgiiaaDoor
open Kap Go.ChangeShapes Go.WideShapes Go.ChangeAt Go.RowKit Go.Lib Mem Tre Fix3 Cfg Stk Lat Lap Apt Mdb Bko Rul1 Wpl Wmr Wal Wtk Spa Spm Shw Sc2 Sc3 Scf Srd Lst
namespace Srf
theorem ar4 (b o n c : Nat) (hn : 4 ≤ n) (W : World) : (Instr.arrayAt 57 (.slice (some ⟨b, o, none⟩) n c)).run Tryd.prog W = .ok (.pointer (some ⟨b, o, none⟩)) W :=
  Go.run_arrayAt (P := Tryd.prog) W 57 5 4 (some ⟨b, o, none⟩) n c Tryd.underlying57 hn
def MadeSf (l : List UInt8) (w : World) (e : Ending) (w' : World) : Prop := ∃ gA gB gC gL P A c, e = .returned (.agg (scV l gA gB gC gL (.slice P (l.length - 12) (l.length - 12)))) ∧ Cn l w w' gA gB gC ∧ Ls w.heap.size 45 54 w' gL A c (lsF l (cnF l)) ∧ Ris w' w'.heap.size P (piF l) ∧ Below w.heap.size w w'
theorem sreadF_any (l : List UInt8) (A : Option Addr) (c : Nat) (w : World) (hl : Hid (By w w.heap.size A l)) (hn : 12 < l.length) (hm : l.length ≤ 1000) (hlc : l.length ≤ c) (hc : (c : Int) ≤ 9223372036854775807) : Calls Tryd.prog 4 #[.slice A l.length c] w (MadeSf l w) := by
  obtain ⟨b, o, rfl, -⟩ : ∃ b o, A = some ⟨b, o, none⟩ ∧ True := by
    obtain ⟨b, o, h, _⟩ := Rd.at hl.out (by intro e; have h := congrArg List.length e; rw [bts_len] at h; have h' : l.length = 0 := h; omega)
    exact ⟨b, o, h, trivial⟩
  obtain ⟨i0, hi0, hz0, hz1, hz2⟩ := info_parts msg_info
  obtain ⟨i1, hi1, hy0, hy1, hy2⟩ := info_parts int_info
  have mk : ∀ W : World, (Instr.makeSlice 28 (.int .i64 3) (.int .i64 3)).run Tryd.prog W = .ok (.slice (some ⟨W.heap.size, 0, none⟩) 3 3) (W.alloc (.cells #[.slice none 0 0, .slice none 0 0, .slice none 0 0] 45)) := mk3
  have b0 := κ (β w (.cells #[.int .i64 0, .int .i64 0, .int .i64 0, .int .i64 0, .slice none 0 0, .slice none 0 0, .slice none 0 0, .slice none 0 0, .slice none 0 0] 30))
  have z0 := κ (δ w 30 #[.int .i64 0, .int .i64 0, .int .i64 0, .int .i64 0, .slice none 0 0, .slice none 0 0, .slice none 0 0, .slice none 0 0, .slice none 0 0] w.heap.size rfl)
  have l0 := κ (Rd.below' hl.out b0.out b0.out.size)
  go_enter Tryd.func4, Tryd.ntmps4
  go_upto_region 1 with fail
  generalize w.alloc (.cells #[.int .i64 0, .int .i64 0, .int .i64 0, .int .i64 0, .slice none 0 0, .slice none 0 0, .slice none 0 0, .slice none 0 0, .slice none 0 0] 30) = w0 at b0 z0 l0 ⊢
  have hg : Hid (w.heap.size ≤ w.heap.size) := κ (Nat.le_refl _)
  generalize hgR : w.heap.size = gR at z0 ⊢
  have hg : Hid (w.heap.size ≤ gR) := κ (by omega)
  clear hgR
  go_cut [3] (fun s3 wx => ∃ gS gA gB gC gL, s3 = .pointer (some ⟨gS, 0, none⟩) ∧ Hid (Sr l w0 wx gS gA gB gC gL) ∧ Hid (Below w0.heap.size w0 wx))
  case first =>
    refine wp_region_noPanic ?_
    refine wp_region_L (T := (fun _ => True)) (st := [5]) (by kernel_rfl) ?_
    have HT : Hid True := κ trivial
    have bW : Hid (Below w0.heap.size w0 w0.drew) := κ (Below.refl _ _).drew
    have lW : Hid (By w0.drew w0.drew.heap.size (some ⟨b, o, none⟩) l) := l0
    generalize w0.drew = wD at bW lW ⊢
    refine wpL_word (i := 0) (v := ?_) rfl (by kernel_rfl) (fun _ _ _ h => h) (by kernel_rfl) _ _ _ _ (by kernel_rfl) (by kernel_rfl) (Or.inl ⟨by rfl, ?_⟩) (fun _ => HT.out) ?_
    rotate_left
    · intro w' _
      go_simp
      try with_reducible rfl
    (try simp only [Act.put, List.getElem_toArray, List.getElem_cons_succ, List.getElem_cons_zero, List.setIfInBounds_toArray, List.set_cons_zero, List.set_cons_succ])
    refine wpL_three (m := 1) (n := 2) (p := 4) (by kernel_rfl) rfl rfl rfl ?_ ?_ ?_
    · intro K' hK
      go_simp
      refine (sconfig_any l (some ⟨b, o, none⟩) c wD lW (by omega)).mono ?_
      rintro e wE ⟨gA, gB, gC, rfl, hc, hb⟩
      have b2 := κ (Rul1.below_step bW.out hb)
      have l2 := κ (Rd.below' lW.out hb hb.size)
      have MC := κ (Cn.mono hc bW.out.size)
      clear hc hb bW lW
      unfold cnV
      refine hK.out _ _ trivial ?_
      clear hK K'
      (try simp only [Act.put, List.getElem_toArray, List.getElem_cons_succ, List.getElem_cons_zero, List.setIfInBounds_toArray, List.set_cons_zero, List.set_cons_succ])
      have bW := b2
      have lW := l2
      clear b2 l2
      have NC := MC
      clear MC
      generalize wE = wD at *
      refine wpL_two (m := 2) (n := 4) (by kernel_rfl) rfl rfl ?_ ?_
      · intro K' hK
        go_simp
        have hu : Below wD.heap.size wD (wD.alloc (.cells #[.slice none 0 0, .slice none 0 0, .slice none 0 0] 45)) := (Below.refl _ _).alloc (Nat.le_refl _) _
        have b2 := κ (Rul1.below_step bW.out hu)
        have l2 := κ (Rd.below' lW.out hu hu.size)
        have MM := κ (Blk.fresh wD 45 #[.slice none 0 0, .slice none 0 0, .slice none 0 0])
        have lL : Hid (w0.heap.size ≤ wD.heap.size) := κ bW.out.size
        have MC := κ (Cn.below NC.out hu)
        clear hu bW lW NC
        generalize wD.alloc (.cells #[.slice none 0 0, .slice none 0 0, .slice none 0 0] 45) = wE at b2 l2 MM MC ⊢
        generalize wD.heap.size = gL at MM lL ⊢
        refine hK.out _ _ trivial ?_
        clear hK K'
        (try simp only [Act.put, List.getElem_toArray, List.getElem_cons_succ, List.getElem_cons_zero, List.setIfInBounds_toArray, List.set_cons_zero, List.set_cons_succ])
        have bW := b2
        have lW := l2
        clear b2 l2
        have NC := MC
        clear MC
        have NM := MM
        clear MM
        generalize wE = wD at *
        refine wpL_word (i := 3) (v := ?_) rfl (by kernel_rfl) (fun _ _ _ h => h) (by kernel_rfl) _ _ _ _ (by kernel_rfl) (by kernel_rfl) (Or.inl ⟨by rfl, ?_⟩) (fun _ => HT.out) ?_
        rotate_left
        · intro w' _
          go_simp
          try with_reducible rfl
        (try simp only [Act.put, List.getElem_toArray, List.getElem_cons_succ, List.getElem_cons_zero, List.setIfInBounds_toArray, List.set_cons_zero, List.set_cons_succ])
        refine wpL_next (n := 4) (by kernel_rfl) rfl ?_
        · intro K' hK
          go_simp
          have hu : Below wD.heap.size wD (wD.alloc (.cells #[.int .i64 0, .int .i64 0, .int .i64 0, .int .i64 0, .slice none 0 0, .slice none 0 0, .slice none 0 0, .slice none 0 0, .slice none 0 0] 30)) := (Below.refl _ _).alloc (Nat.le_refl _) _
          have b2 := κ (Rul1.below_step bW.out hu)
          have l2 := κ (Rd.below' lW.out hu hu.size)
          have MS := κ (Blk.fresh wD 30 #[.int .i64 0, .int .i64 0, .int .i64 0, .int .i64 0, .slice none 0 0, .slice none 0 0, .slice none 0 0, .slice none 0 0, .slice none 0 0])
          have lS : Hid (w0.heap.size ≤ wD.heap.size) := κ bW.out.size
          have MC := κ (Cn.below NC.out hu)
          have MM := κ (NM.out.below' hu)
          clear hu bW lW NC NM
          generalize wD.alloc (.cells #[.int .i64 0, .int .i64 0, .int .i64 0, .int .i64 0, .slice none 0 0, .slice none 0 0, .slice none 0 0, .slice none 0 0, .slice none 0 0] 30) = wE at b2 l2 MS MC MM ⊢
          generalize wD.heap.size = gS at MS lS ⊢
          refine hK.out _ _ trivial ?_
          clear hK K'
          (try simp only [Act.put, List.getElem_toArray, List.getElem_cons_succ, List.getElem_cons_zero, List.setIfInBounds_toArray, List.set_cons_zero, List.set_cons_succ])
          have bW := b2
          have lW := l2
          clear b2 l2
          have NC := MC
          clear MC
          have NM := MM
          clear MM
          have NS := MS
          clear MS
          generalize wE = wD at *
          obtain ⟨s0, s1, s2, s3, s4, s5, s6, s7, s8, y0, y1, y2, y3, y4, y5, y6, y7, y8⟩ := z9_of NS.out
          refine wpL_late (n := 5) (by kernel_rfl) rfl (by kernel_rfl) (fun K' hK => ?_)
          go_simp
          refine hK.out _ _ ?_
          clear hK K'
          (try simp only [Act.put, List.getElem_toArray, List.getElem_cons_succ, List.getElem_cons_zero, List.setIfInBounds_toArray, List.set_cons_zero, List.set_cons_succ])
          refine wpL_done (by kernel_rfl) ?_ _
          refine NoPanic.normal ?_
          have F := sr_fin NC NM NS lL lS bW
          clear s0 y0 s1 y1 s2 y2 s3 y3 s4 y4 s5 y5 s6 y6 s7 y7 s8 y8
          go_wp2_with fail
          go_meet
          unfold st9 at F
          exact ⟨gS, gA, gB, gC, gL, rfl, κ F.1, κ F.2⟩
      · intro K' hK
        go_simp
        have hu : Below wD.heap.size wD (wD.alloc (.cells #[.int .i64 0, .int .i64 0, .int .i64 0, .int .i64 0, .slice none 0 0, .slice none 0 0, .slice none 0 0, .slice none 0 0, .slice none 0 0] 30)) := (Below.refl _ _).alloc (Nat.le_refl _) _
        have b2 := κ (Rul1.below_step bW.out hu)
        have l2 := κ (Rd.below' lW.out hu hu.size)
        have MS := κ (Blk.fresh wD 30 #[.int .i64 0, .int .i64 0, .int .i64 0, .int .i64 0, .slice none 0 0, .slice none 0 0, .slice none 0 0, .slice none 0 0, .slice none 0 0])
        have lS : Hid (w0.heap.size ≤ wD.heap.size) := κ bW.out.size
        have MC := κ (Cn.below NC.out hu)
        clear hu bW lW NC
        generalize wD.alloc (.cells #[.int .i64 0, .int .i64 0, .int .i64 0, .int .i64 0, .slice none 0 0, .slice none 0 0, .slice none 0 0, .slice none 0 0, .slice none 0 0] 30) = wE at b2 l2 MS MC ⊢
        generalize wD.heap.size = gS at MS lS ⊢
        refine hK.out _ _ trivial ?_
        clear hK K'
        (try simp only [Act.put, List.getElem_toArray, List.getElem_cons_succ, List.getElem_cons_zero, List.setIfInBounds_toArray, List.set_cons_zero, List.set_cons_succ])
        have bW := b2
        have lW := l2
        clear b2 l2
        have NC := MC
        clear MC
        have NS := MS
        clear MS
        generalize wE = wD at *
        refine wpL_next (n := 2) (by kernel_rfl) rfl ?_
        · intro K' hK
          go_simp
          have hu : Below wD.heap.size wD (wD.alloc (.cells #[.slice none 0 0, .slice none 0 0, .slice none 0 0] 45)) := (Below.refl _ _).alloc (Nat.le_refl _) _
          have b2 := κ (Rul1.below_step bW.out hu)
          have l2 := κ (Rd.below' lW.out hu hu.size)
          have MM := κ (Blk.fresh wD 45 #[.slice none 0 0, .slice none 0 0, .slice none 0 0])
          have lL : Hid (w0.heap.size ≤ wD.heap.size) := κ bW.out.size
          have MC := κ (Cn.below NC.out hu)
          have MS := κ (NS.out.below' hu)
          clear hu bW lW NC NS
          generalize wD.alloc (.cells #[.slice none 0 0, .slice none 0 0, .slice none 0 0] 45) = wE at b2 l2 MM MC MS ⊢
          generalize wD.heap.size = gL at MM lL ⊢
          refine hK.out _ _ trivial ?_
          clear hK K'
          (try simp only [Act.put, List.getElem_toArray, List.getElem_cons_succ, List.getElem_cons_zero, List.setIfInBounds_toArray, List.set_cons_zero, List.set_cons_succ])
          have bW := b2
          have lW := l2
          clear b2 l2
          have NC := MC
          clear MC
          have NS := MS
          clear MS
          have NM := MM
          clear MM
          generalize wE = wD at *
          refine wpL_word (i := 3) (v := ?_) rfl (by kernel_rfl) (fun _ _ _ h => h) (by kernel_rfl) _ _ _ _ (by kernel_rfl) (by kernel_rfl) (Or.inl ⟨by rfl, ?_⟩) (fun _ => HT.out) ?_
          rotate_left
          · intro w' _
            go_simp
            try with_reducible rfl
          (try simp only [Act.put, List.getElem_toArray, List.getElem_cons_succ, List.getElem_cons_zero, List.setIfInBounds_toArray, List.set_cons_zero, List.set_cons_succ])
          obtain ⟨s0, s1, s2, s3, s4, s5, s6, s7, s8, y0, y1, y2, y3, y4, y5, y6, y7, y8⟩ := z9_of NS.out
          refine wpL_late (n := 5) (by kernel_rfl) rfl (by kernel_rfl) (fun K' hK => ?_)
          go_simp
          refine hK.out _ _ ?_
          clear hK K'
          (try simp only [Act.put, List.getElem_toArray, List.getElem_cons_succ, List.getElem_cons_zero, List.setIfInBounds_toArray, List.set_cons_zero, List.set_cons_succ])
          refine wpL_done (by kernel_rfl) ?_ _
          refine NoPanic.normal ?_
          have F := sr_fin NC NM NS lL lS bW
          clear s0 y0 s1 y1 s2 y2 s3 y3 s4 y4 s5 y5 s6 y6 s7 y7 s8 y8
          go_wp2_with fail
          go_meet
          unfold st9 at F
          exact ⟨gS, gA, gB, gC, gL, rfl, κ F.1, κ F.2⟩
    · intro K' hK
      go_simp
      have hu : Below wD.heap.size wD (wD.alloc (.cells #[.slice none 0 0, .slice none 0 0, .slice none 0 0] 45)) := (Below.refl _ _).alloc (Nat.le_refl _) _
      have b2 := κ (Rul1.below_step bW.out hu)
      have l2 := κ (Rd.below' lW.out hu hu.size)
      have MM := κ (Blk.fresh wD 45 #[.slice none 0 0, .slice none 0 0, .slice none 0 0])
      have lL : Hid (w0.heap.size ≤ wD.heap.size) := κ bW.out.size
      clear hu bW lW
      generalize wD.alloc (.cells #[.slice none 0 0, .slice none 0 0, .slice none 0 0] 45) = wE at b2 l2 MM ⊢
      generalize wD.heap.size = gL at MM lL ⊢
      refine hK.out _ _ trivial ?_
      clear hK K'
      (try simp only [Act.put, List.getElem_toArray, List.getElem_cons_succ, List.getElem_cons_zero, List.setIfInBounds_toArray, List.set_cons_zero, List.set_cons_succ])
      have bW := b2
      have lW := l2
      clear b2 l2
      have NM := MM
      clear MM
      generalize wE = wD at *
      refine wpL_two (m := 1) (n := 4) (by kernel_rfl) rfl rfl ?_ ?_
      · intro K' hK
        go_simp
        refine (sconfig_any l (some ⟨b, o, none⟩) c wD lW (by omega)).mono ?_
        rintro e wE ⟨gA, gB, gC, rfl, hc, hb⟩
        have b2 := κ (Rul1.below_step bW.out hb)
        have l2 := κ (Rd.below' lW.out hb hb.size)
        have MC := κ (Cn.mono hc bW.out.size)
        have MM := κ (NM.out.below' hb)
        clear hc hb bW lW NM
        unfold cnV
        refine hK.out _ _ trivial ?_
        clear hK K'
        (try simp only [Act.put, List.getElem_toArray, List.getElem_cons_succ, List.getElem_cons_zero, List.setIfInBounds_toArray, List.set_cons_zero, List.set_cons_succ])
        have bW := b2
        have lW := l2
        clear b2 l2
        have NM := MM
        clear MM
        have NC := MC
        clear MC
        generalize wE = wD at *
        refine wpL_word (i := 3) (v := ?_) rfl (by kernel_rfl) (fun _ _ _ h => h) (by kernel_rfl) _ _ _ _ (by kernel_rfl) (by kernel_rfl) (Or.inl ⟨by rfl, ?_⟩) (fun _ => HT.out) ?_
        rotate_left
        · intro w' _
          go_simp
          try with_reducible rfl
        (try simp only [Act.put, List.getElem_toArray, List.getElem_cons_succ, List.getElem_cons_zero, List.setIfInBounds_toArray, List.set_cons_zero, List.set_cons_succ])
        refine wpL_next (n := 4) (by kernel_rfl) rfl ?_
        · intro K' hK
          go_simp
          have hu : Below wD.heap.size wD (wD.alloc (.cells #[.int .i64 0, .int .i64 0, .int .i64 0, .int .i64 0, .slice none 0 0, .slice none 0 0, .slice none 0 0, .slice none 0 0, .slice none 0 0] 30)) := (Below.refl _ _).alloc (Nat.le_refl _) _
          have b2 := κ (Rul1.below_step bW.out hu)
          have l2 := κ (Rd.below' lW.out hu hu.size)
          have MS := κ (Blk.fresh wD 30 #[.int .i64 0, .int .i64 0, .int .i64 0, .int .i64 0, .slice none 0 0, .slice none 0 0, .slice none 0 0, .slice none 0 0, .slice none 0 0])
          have lS : Hid (w0.heap.size ≤ wD.heap.size) := κ bW.out.size
          have MM := κ (NM.out.below' hu)
          have MC := κ (Cn.below NC.out hu)
          clear hu bW lW NM NC
          generalize wD.alloc (.cells #[.int .i64 0, .int .i64 0, .int .i64 0, .int .i64 0, .slice none 0 0, .slice none 0 0, .slice none 0 0, .slice none 0 0, .slice none 0 0] 30) = wE at b2 l2 MS MM MC ⊢
          generalize wD.heap.size = gS at MS lS ⊢
          refine hK.out _ _ trivial ?_
          clear hK K'
          (try simp only [Act.put, List.getElem_toArray, List.getElem_cons_succ, List.getElem_cons_zero, List.setIfInBounds_toArray, List.set_cons_zero, List.set_cons_succ])
          have bW := b2
          have lW := l2
          clear b2 l2
          have NM := MM
          clear MM
          have NC := MC
          clear MC
          have NS := MS
          clear MS
          generalize wE = wD at *
          obtain ⟨s0, s1, s2, s3, s4, s5, s6, s7, s8, y0, y1, y2, y3, y4, y5, y6, y7, y8⟩ := z9_of NS.out
          refine wpL_late (n := 5) (by kernel_rfl) rfl (by kernel_rfl) (fun K' hK => ?_)
          go_simp
          refine hK.out _ _ ?_
          clear hK K'
          (try simp only [Act.put, List.getElem_toArray, List.getElem_cons_succ, List.getElem_cons_zero, List.setIfInBounds_toArray, List.set_cons_zero, List.set_cons_succ])
          refine wpL_done (by kernel_rfl) ?_ _
          refine NoPanic.normal ?_
          have F := sr_fin NC NM NS lL lS bW
          clear s0 y0 s1 y1 s2 y2 s3 y3 s4 y4 s5 y5 s6 y6 s7 y7 s8 y8
          go_wp2_with fail
          go_meet
          unfold st9 at F
          exact ⟨gS, gA, gB, gC, gL, rfl, κ F.1, κ F.2⟩
      · intro K' hK
        go_simp
        have hu : Below wD.heap.size wD (wD.alloc (.cells #[.int .i64 0, .int .i64 0, .int .i64 0, .int .i64 0, .slice none 0 0, .slice none 0 0, .slice none 0 0, .slice none 0 0, .slice none 0 0] 30)) := (Below.refl _ _).alloc (Nat.le_refl _) _
        have b2 := κ (Rul1.below_step bW.out hu)
        have l2 := κ (Rd.below' lW.out hu hu.size)
        have MS := κ (Blk.fresh wD 30 #[.int .i64 0, .int .i64 0, .int .i64 0, .int .i64 0, .slice none 0 0, .slice none 0 0, .slice none 0 0, .slice none 0 0, .slice none 0 0])
        have lS : Hid (w0.heap.size ≤ wD.heap.size) := κ bW.out.size
        have MM := κ (NM.out.below' hu)
        clear hu bW lW NM
        generalize wD.alloc (.cells #[.int .i64 0, .int .i64 0, .int .i64 0, .int .i64 0, .slice none 0 0, .slice none 0 0, .slice none 0 0, .slice none 0 0, .slice none 0 0] 30) = wE at b2 l2 MS MM ⊢
        generalize wD.heap.size = gS at MS lS ⊢
        refine hK.out _ _ trivial ?_
        clear hK K'
        (try simp only [Act.put, List.getElem_toArray, List.getElem_cons_succ, List.getElem_cons_zero, List.setIfInBounds_toArray, List.set_cons_zero, List.set_cons_succ])
        have bW := b2
        have lW := l2
        clear b2 l2
        have NM := MM
        clear MM
        have NS := MS
        clear MS
        generalize wE = wD at *
        refine wpL_next (n := 1) (by kernel_rfl) rfl ?_
        · intro K' hK
          go_simp
          refine (sconfig_any l (some ⟨b, o, none⟩) c wD lW (by omega)).mono ?_
          rintro e wE ⟨gA, gB, gC, rfl, hc, hb⟩
          have b2 := κ (Rul1.below_step bW.out hb)
          have l2 := κ (Rd.below' lW.out hb hb.size)
          have MC := κ (Cn.mono hc bW.out.size)
          have MM := κ (NM.out.below' hb)
          have MS := κ (NS.out.below' hb)
          clear hc hb bW lW NM NS
          unfold cnV
          refine hK.out _ _ trivial ?_
          clear hK K'
          (try simp only [Act.put, List.getElem_toArray, List.getElem_cons_succ, List.getElem_cons_zero, List.setIfInBounds_toArray, List.set_cons_zero, List.set_cons_succ])
          have bW := b2
          have lW := l2
          clear b2 l2
          have NM := MM
          clear MM
          have NS := MS
          clear MS
          have NC := MC
          clear MC
          generalize wE = wD at *
          refine wpL_word (i := 3) (v := ?_) rfl (by kernel_rfl) (fun _ _ _ h => h) (by kernel_rfl) _ _ _ _ (by kernel_rfl) (by kernel_rfl) (Or.inl ⟨by rfl, ?_⟩) (fun _ => HT.out) ?_
          rotate_left
          · intro w' _
            go_simp
            try with_reducible rfl
          (try simp only [Act.put, List.getElem_toArray, List.getElem_cons_succ, List.getElem_cons_zero, List.setIfInBounds_toArray, List.set_cons_zero, List.set_cons_succ])
          obtain ⟨s0, s1, s2, s3, s4, s5, s6, s7, s8, y0, y1, y2, y3, y4, y5, y6, y7, y8⟩ := z9_of NS.out
          refine wpL_late (n := 5) (by kernel_rfl) rfl (by kernel_rfl) (fun K' hK => ?_)
          go_simp
          refine hK.out _ _ ?_
          clear hK K'
          (try simp only [Act.put, List.getElem_toArray, List.getElem_cons_succ, List.getElem_cons_zero, List.setIfInBounds_toArray, List.set_cons_zero, List.set_cons_succ])
          refine wpL_done (by kernel_rfl) ?_ _
          refine NoPanic.normal ?_
          have F := sr_fin NC NM NS lL lS bW
          clear s0 y0 s1 y1 s2 y2 s3 y3 s4 y4 s5 y5 s6 y6 s7 y7 s8 y8
          go_wp2_with fail
          go_meet
          unfold st9 at F
          exact ⟨gS, gA, gB, gC, gL, rfl, κ F.1, κ F.2⟩
    · intro K' hK
      go_simp
      have hu : Below wD.heap.size wD (wD.alloc (.cells #[.int .i64 0, .int .i64 0, .int .i64 0, .int .i64 0, .slice none 0 0, .slice none 0 0, .slice none 0 0, .slice none 0 0, .slice none 0 0] 30)) := (Below.refl _ _).alloc (Nat.le_refl _) _
      have b2 := κ (Rul1.below_step bW.out hu)
      have l2 := κ (Rd.below' lW.out hu hu.size)
      have MS := κ (Blk.fresh wD 30 #[.int .i64 0, .int .i64 0, .int .i64 0, .int .i64 0, .slice none 0 0, .slice none 0 0, .slice none 0 0, .slice none 0 0, .slice none 0 0])
      have lS : Hid (w0.heap.size ≤ wD.heap.size) := κ bW.out.size
      clear hu bW lW
      generalize wD.alloc (.cells #[.int .i64 0, .int .i64 0, .int .i64 0, .int .i64 0, .slice none 0 0, .slice none 0 0, .slice none 0 0, .slice none 0 0, .slice none 0 0] 30) = wE at b2 l2 MS ⊢
      generalize wD.heap.size = gS at MS lS ⊢
      refine hK.out _ _ trivial ?_
      clear hK K'
      (try simp only [Act.put, List.getElem_toArray, List.getElem_cons_succ, List.getElem_cons_zero, List.setIfInBounds_toArray, List.set_cons_zero, List.set_cons_succ])
      have bW := b2
      have lW := l2
      clear b2 l2
      have NS := MS
      clear MS
      generalize wE = wD at *
      refine wpL_two (m := 1) (n := 2) (by kernel_rfl) rfl rfl ?_ ?_
      · intro K' hK
        go_simp
        refine (sconfig_any l (some ⟨b, o, none⟩) c wD lW (by omega)).mono ?_
        rintro e wE ⟨gA, gB, gC, rfl, hc, hb⟩
        have b2 := κ (Rul1.below_step bW.out hb)
        have l2 := κ (Rd.below' lW.out hb hb.size)
        have MC := κ (Cn.mono hc bW.out.size)
        have MS := κ (NS.out.below' hb)
        clear hc hb bW lW NS
        unfold cnV
        refine hK.out _ _ trivial ?_
        clear hK K'
        (try simp only [Act.put, List.getElem_toArray, List.getElem_cons_succ, List.getElem_cons_zero, List.setIfInBounds_toArray, List.set_cons_zero, List.set_cons_succ])
        have bW := b2
        have lW := l2
        clear b2 l2
        have NS := MS
        clear MS
        have NC := MC
        clear MC
        generalize wE = wD at *
        refine wpL_next (n := 2) (by kernel_rfl) rfl ?_
        · intro K' hK
          go_simp
          have hu : Below wD.heap.size wD (wD.alloc (.cells #[.slice none 0 0, .slice none 0 0, .slice none 0 0] 45)) := (Below.refl _ _).alloc (Nat.le_refl _) _
          have b2 := κ (Rul1.below_step bW.out hu)
          have l2 := κ (Rd.below' lW.out hu hu.size)
          have MM := κ (Blk.fresh wD 45 #[.slice none 0 0, .slice none 0 0, .slice none 0 0])
          have lL : Hid (w0.heap.size ≤ wD.heap.size) := κ bW.out.size
          have MS := κ (NS.out.below' hu)
          have MC := κ (Cn.below NC.out hu)
          clear hu bW lW NS NC
          generalize wD.alloc (.cells #[.slice none 0 0, .slice none 0 0, .slice none 0 0] 45) = wE at b2 l2 MM MS MC ⊢
          generalize wD.heap.size = gL at MM lL ⊢
          refine hK.out _ _ trivial ?_
          clear hK K'
          (try simp only [Act.put, List.getElem_toArray, List.getElem_cons_succ, List.getElem_cons_zero, List.setIfInBounds_toArray, List.set_cons_zero, List.set_cons_succ])
          have bW := b2
          have lW := l2
          clear b2 l2
          have NS := MS
          clear MS
          have NC := MC
          clear MC
          have NM := MM
          clear MM
          generalize wE = wD at *
          refine wpL_word (i := 3) (v := ?_) rfl (by kernel_rfl) (fun _ _ _ h => h) (by kernel_rfl) _ _ _ _ (by kernel_rfl) (by kernel_rfl) (Or.inl ⟨by rfl, ?_⟩) (fun _ => HT.out) ?_
          rotate_left
          · intro w' _
            go_simp
            try with_reducible rfl
          (try simp only [Act.put, List.getElem_toArray, List.getElem_cons_succ, List.getElem_cons_zero, List.setIfInBounds_toArray, List.set_cons_zero, List.set_cons_succ])
          obtain ⟨s0, s1, s2, s3, s4, s5, s6, s7, s8, y0, y1, y2, y3, y4, y5, y6, y7, y8⟩ := z9_of NS.out
          refine wpL_late (n := 5) (by kernel_rfl) rfl (by kernel_rfl) (fun K' hK => ?_)
          go_simp
          refine hK.out _ _ ?_
          clear hK K'
          (try simp only [Act.put, List.getElem_toArray, List.getElem_cons_succ, List.getElem_cons_zero, List.setIfInBounds_toArray, List.set_cons_zero, List.set_cons_succ])
          refine wpL_done (by kernel_rfl) ?_ _
          refine NoPanic.normal ?_
          have F := sr_fin NC NM NS lL lS bW
          clear s0 y0 s1 y1 s2 y2 s3 y3 s4 y4 s5 y5 s6 y6 s7 y7 s8 y8
          go_wp2_with fail
          go_meet
          unfold st9 at F
          exact ⟨gS, gA, gB, gC, gL, rfl, κ F.1, κ F.2⟩
      · intro K' hK
        go_simp
        have hu : Below wD.heap.size wD (wD.alloc (.cells #[.slice none 0 0, .slice none 0 0, .slice none 0 0] 45)) := (Below.refl _ _).alloc (Nat.le_refl _) _
        have b2 := κ (Rul1.below_step bW.out hu)
        have l2 := κ (Rd.below' lW.out hu hu.size)
        have MM := κ (Blk.fresh wD 45 #[.slice none 0 0, .slice none 0 0, .slice none 0 0])
        have lL : Hid (w0.heap.size ≤ wD.heap.size) := κ bW.out.size
        have MS := κ (NS.out.below' hu)
        clear hu bW lW NS
        generalize wD.alloc (.cells #[.slice none 0 0, .slice none 0 0, .slice none 0 0] 45) = wE at b2 l2 MM MS ⊢
        generalize wD.heap.size = gL at MM lL ⊢
        refine hK.out _ _ trivial ?_
        clear hK K'
        (try simp only [Act.put, List.getElem_toArray, List.getElem_cons_succ, List.getElem_cons_zero, List.setIfInBounds_toArray, List.set_cons_zero, List.set_cons_succ])
        have bW := b2
        have lW := l2
        clear b2 l2
        have NS := MS
        clear MS
        have NM := MM
        clear MM
        generalize wE = wD at *
        refine wpL_next (n := 1) (by kernel_rfl) rfl ?_
        · intro K' hK
          go_simp
          refine (sconfig_any l (some ⟨b, o, none⟩) c wD lW (by omega)).mono ?_
          rintro e wE ⟨gA, gB, gC, rfl, hc, hb⟩
          have b2 := κ (Rul1.below_step bW.out hb)
          have l2 := κ (Rd.below' lW.out hb hb.size)
          have MC := κ (Cn.mono hc bW.out.size)
          have MS := κ (NS.out.below' hb)
          have MM := κ (NM.out.below' hb)
          clear hc hb bW lW NS NM
          unfold cnV
          refine hK.out _ _ trivial ?_
          clear hK K'
          (try simp only [Act.put, List.getElem_toArray, List.getElem_cons_succ, List.getElem_cons_zero, List.setIfInBounds_toArray, List.set_cons_zero, List.set_cons_succ])
          have bW := b2
          have lW := l2
          clear b2 l2
          have NS := MS
          clear MS
          have NM := MM
          clear MM
          have NC := MC
          clear MC
          generalize wE = wD at *
          refine wpL_word (i := 3) (v := ?_) rfl (by kernel_rfl) (fun _ _ _ h => h) (by kernel_rfl) _ _ _ _ (by kernel_rfl) (by kernel_rfl) (Or.inl ⟨by rfl, ?_⟩) (fun _ => HT.out) ?_
          rotate_left
          · intro w' _
            go_simp
            try with_reducible rfl
          (try simp only [Act.put, List.getElem_toArray, List.getElem_cons_succ, List.getElem_cons_zero, List.setIfInBounds_toArray, List.set_cons_zero, List.set_cons_succ])
          obtain ⟨s0, s1, s2, s3, s4, s5, s6, s7, s8, y0, y1, y2, y3, y4, y5, y6, y7, y8⟩ := z9_of NS.out
          refine wpL_late (n := 5) (by kernel_rfl) rfl (by kernel_rfl) (fun K' hK => ?_)
          go_simp
          refine hK.out _ _ ?_
          clear hK K'
          (try simp only [Act.put, List.getElem_toArray, List.getElem_cons_succ, List.getElem_cons_zero, List.setIfInBounds_toArray, List.set_cons_zero, List.set_cons_succ])
          refine wpL_done (by kernel_rfl) ?_ _
          refine NoPanic.normal ?_
          have F := sr_fin NC NM NS lL lS bW
          clear s0 y0 s1 y1 s2 y2 s3 y3 s4 y4 s5 y5 s6 y6 s7 y7 s8 y8
          go_wp2_with fail
          go_meet
          unfold st9 at F
          exact ⟨gS, gA, gB, gC, gL, rfl, κ F.1, κ F.2⟩
  case rest =>
    obtain ⟨gS, gA, gB, gC, gL, rfl, R, B⟩ := hcut
    rename World => w6
    have b6 := κ (Rul1.below_step b0.out B.out)
    have z6 := κ (z0.out.below' B.out)
    have hc6 : decide ((l.length : Int) ≤ 12) = false := decide_eq_false (by omega)
    have lz : w.heap.size ≤ w0.heap.size := b0.out.size
    have R6 := κ (Cn.mono R.out.c lz)
    have k6 : Hid (Blk w6 gS 30 (scV l gA gB gC gL (.slice none 0 0))) := κ R.out.s
    have m6 : Hid (Ls w.heap.size 45 54 w6 gL (fun _ => none) (fun _ => 0) (lsF l 0)) := κ (Ls.new R.out.li)
    have gS6 : Hid (w.heap.size ≤ gS) := κ (Nat.le_trans lz R.out.ls)
    have gL6 : Hid (w.heap.size ≤ gL) := κ (Nat.le_trans lz R.out.ll)
    have hRS : Hid (gR ≠ gS) := κ (by have := z0.out.lt; have := R.out.ls; omega)
    clear b0 z0 l0 R B lz
    go_wp2_with fail
    have hcn : min ((↑(l.length - 12) : Int) / 4) 30 = (cnF l : Int) := by unfold cnF; omega
    rw [hcn]
    have HN : Hid (cnF l * 4 + 12 ≤ l.length ∧ cnF l ≤ 30) := κ (by unfold cnF; omega)
    clear hcn
    generalize hcN : cnF l = cN at HN ⊢
    go_loopg [23] cN (fun g s23 w' => ∃ (j : Nat) (P : Nat → Option Addr) (p : Nat → Nat), j + g = cN ∧ s23 = .int .i64 j ∧ Hid (Ls w.heap.size 45 54 w' gL P p (lsF l j)) ∧ Hid (Blk w' gS 30 (scV l gA gB gC gL (.slice none 0 0))) ∧ Hid (Cn l w w' gA gB gC) ∧ Hid (Blk w' gR 30 #[.int .i64 0, .int .i64 0, .int .i64 0, .int .i64 0, .slice none 0 0, .slice none 0 0, .slice none 0 0, .slice none 0 0, .slice none 0 0]) ∧ Hid (Below w.heap.size w w'))
    case atStart => exact ⟨0, _, _, by omega, rfl, m6, k6, R6, z6, b6⟩
    case round =>
      obtain ⟨j, P, p, hjg, rfl, mr, kr, Rr, zr, br⟩ := hrel
      rename World => wr
      by_cases hlt : j < cN
      · obtain ⟨g8, rfl⟩ : ∃ g8, gk = g8 + 1 := ⟨gk - 1, by omega⟩
        have t0 : decide ((j : Int) < (cN : Int)) = true := decide_eq_true (by omega)
        go_upto_region 8 with fail
        have ar := fun (b o n c : Nat) (hn : 4 ≤ n) => ar4 b o n c hn
        have hq : j * 4 + 16 ≤ l.length := by have := HN.out.1; omega
        obtain ⟨k4, hk4⟩ : ∃ k, k = j * 4 := ⟨_, rfl⟩
        have hw4 : wrap64 ((j : Int) * 4) = (k4 : Int) := by rw [hk4]; unfold wrap64; omega
        have HK4 := κ hk4
        have hl4 : k4 ≤ l.length - 12 := by omega
        have hc4 : ¬ (c - 12 = k4) := by omega
        have hz4 : 4 ≤ l.length - 12 - k4 := by omega
        have lr := κ (by_drop (Rd.below' hl.out br.out br.out.size) 12)
        have e0 := by_c12 lr.out (i := k4) (by omega)
        have e1 : wr.cell? ⟨b, o + 12 + k4 + 1, none⟩ = some (.int .u8 (nb l (12 + (k4 + 1)))) := by_c12 lr.out (i := k4 + 1) (by omega)
        have e2 : wr.cell? ⟨b, o + 12 + k4 + 2, none⟩ = some (.int .u8 (nb l (12 + (k4 + 2)))) := by_c12 lr.out (i := k4 + 2) (by omega)
        have e3 : wr.cell? ⟨b, o + 12 + k4 + 3, none⟩ = some (.int .u8 (nb l (12 + (k4 + 3)))) := by_c12 lr.out (i := k4 + 3) (by omega)
        clear hk4 hq
        go_upto_region 9 with fail
        have hmB : Hid (mB l j = mF (nb l (12 + k4)) (nb l (12 + (k4 + 1))) (nb l (12 + (k4 + 2))) (nb l (12 + (k4 + 3)))) := κ (by rw [HK4.out]; rfl)
        have hwF : Hid (whF l j = nb l (12 + k4) / 16 % 3) := κ (by rw [HK4.out]; rfl)
        have hx0 := nb_lt l (12 + k4)
        have hx1 := nb_lt l (12 + (k4 + 1))
        have hx2 := nb_lt l (12 + (k4 + 2))
        have hx3 := nb_lt l (12 + (k4 + 3))
        clear e0 e1 e2 e3 hw4 hl4 hc4 hz4 HK4 ar
        generalize nb l (12 + k4) = x0 at *
        generalize nb l (12 + (k4 + 1)) = x1 at *
        generalize nb l (12 + (k4 + 2)) = x2 at *
        generalize nb l (12 + (k4 + 3)) = x3 at *
        have HX := κ (And.intro hx0 (And.intro hx1 (And.intro hx2 hx3)))
        clear hx0 hx1 hx2 hx3
        have hu : Below wr.heap.size wr (wr.alloc (.cells #[.int .u8 x0, .int .u8 x1, .int .u8 x2, .int .u8 x3] 57)) := (Below.refl _ _).alloc (Nat.le_refl _) _
        have mA := κ (Ls.below mr.out hu)
        have kA := κ (kr.out.below' hu)
        have RA := κ (Cn.below Rr.out hu)
        have zA := κ (zr.out.below' hu)
        have bA := κ (Rul1.below_step br.out hu)
        have tA := κ (Blk.fresh wr 57 #[.int .u8 x0, .int .u8 x1, .int .u8 x2, .int .u8 x3])
        have gT : Hid (w.heap.size ≤ wr.heap.size) := κ br.out.size
        clear hu mr kr Rr lr zr br
        generalize wr.alloc (.cells #[.int .u8 x0, .int .u8 x1, .int .u8 x2, .int .u8 x3] 57) = wA at mA kA RA zA bA tA ⊢
        generalize wr.heap.size = g5 at tA gT ⊢
        have c0 : wA.cell? ⟨g5, 0, none⟩ = some (.int .u8 x0) := tA.out.cell 0
        go_upto_region 10 with fail
        clear c0
        have hwi : ((x0 : Int) / 16 % 256 % 3) = ((whF l j : Nat) : Int) := by rw [hwF.out]; have := HX.out.1; omega
        rw [hwi]
        have hw3 : Hid (whF l j < 3) := κ (wh_lt l j)
        clear hwi hwF
        generalize hwh : whF l j = wh at hw3 ⊢
        have HW := κ hwh
        clear hwh
        have hw3i : ((wh : Nat) : Int) < 3 := by have := hw3.out; omega
        have hw3n : wh < 3 := hw3.out
        refine wp_region_noPanic ?_
        refine wp_region_L (T := (fun w' => w'.cell? ⟨gS, 7, none⟩ = some (.slice (some ⟨gL, 0, none⟩) 3 3) ∧ w'.cell? ⟨gL, wh, none⟩ = some (.slice (P wh) (lsF l j wh).length (p wh)) ∧ w'.cell? ⟨g5, 0, none⟩ = some (.int .u8 x0) ∧ w'.cell? ⟨g5, 1, none⟩ = some (.int .u8 x1) ∧ w'.cell? ⟨g5, 2, none⟩ = some (.int .u8 x2) ∧ w'.cell? ⟨g5, 3, none⟩ = some (.int .u8 x3))) (st := [13]) (by kernel_rfl) ?_
        have mD : Hid (Ls w.heap.size 45 54 wA.drew gL P p (lsF l j)) := κ ⟨mA.out.b, mA.out.o, mA.out.d⟩
        have kD : Hid (Blk wA.drew gS 30 (scV l gA gB gC gL (.slice none 0 0))) := kA
        have RD : Hid (Cn l w wA.drew gA gB gC) := κ ⟨RA.out.a, RA.out.b, RA.out.c, RA.out.la, RA.out.lb, RA.out.lc⟩
        have zD : Hid (Blk wA.drew gR 30 #[.int .i64 0, .int .i64 0, .int .i64 0, .int .i64 0, .slice none 0 0, .slice none 0 0, .slice none 0 0, .slice none 0 0, .slice none 0 0]) := zA
        have bD : Hid (Below w.heap.size w wA.drew) := κ bA.out.drew
        have tD : Hid (Blk wA.drew g5 57 #[.int .u8 x0, .int .u8 x1, .int .u8 x2, .int .u8 x3]) := tA
        clear mA kA RA zA bA tA
        generalize wA.drew = wD at mD kD RD zD bD tD ⊢
        have HT : Hid (wD.cell? ⟨gS, 7, none⟩ = some (.slice (some ⟨gL, 0, none⟩) 3 3) ∧ wD.cell? ⟨gL, wh, none⟩ = some (.slice (P wh) (lsF l j wh).length (p wh)) ∧ wD.cell? ⟨g5, 0, none⟩ = some (.int .u8 x0) ∧ wD.cell? ⟨g5, 1, none⟩ = some (.int .u8 x1) ∧ wD.cell? ⟨g5, 2, none⟩ = some (.int .u8 x2) ∧ wD.cell? ⟨g5, 3, none⟩ = some (.int .u8 x3)) := κ ⟨kD.out.cell 7, Ls.cell mD.out hw3.out, tD.out.cell 0, tD.out.cell 1, tD.out.cell 2, tD.out.cell 3⟩
        refine wpL_word (i := 0) (v := ?_) rfl (by kernel_rfl) (fun _ _ _ h => h) (by kernel_rfl) _ _ _ _ (by kernel_rfl) (by kernel_rfl) (Or.inl ⟨by rfl, ?_⟩) (fun _ => HT.out) ?_
        rotate_left
        · intro w' _
          go_simp
          try with_reducible rfl
        (try simp only [Act.put, List.getElem_toArray, List.getElem_cons_succ, List.getElem_cons_zero, List.setIfInBounds_toArray, List.set_cons_zero, List.set_cons_succ])
        refine wpL_load (i := 1) (v := ?_) rfl (by kernel_rfl) (fun _ _ _ h => h) (by kernel_rfl) (by kernel_rfl) _ _ _ _ (by kernel_rfl) (by kernel_rfl) (Or.inl ⟨by rfl, ?_⟩) (by kernel_rfl) HT.out ?_
        rotate_left
        · intro w' hS
          (try dsimp only at hS)
          obtain ⟨y1, y2, y3, y4, y5, y6⟩ := hS
          go_simp
          try with_reducible rfl
        (try simp only [Act.put, List.getElem_toArray, List.getElem_cons_succ, List.getElem_cons_zero, List.setIfInBounds_toArray, List.set_cons_zero, List.set_cons_succ])
        refine wpL_word (i := 2) (v := ?_) rfl (by kernel_rfl) (fun _ _ _ h => h) (by kernel_rfl) _ _ _ _ (by kernel_rfl) (by kernel_rfl) (Or.inl ⟨by rfl, ?_⟩) (fun _ => HT.out) ?_
        rotate_left
        · intro w' _
          go_simp
          try with_reducible rfl
        (try simp only [Act.put, List.getElem_toArray, List.getElem_cons_succ, List.getElem_cons_zero, List.setIfInBounds_toArray, List.set_cons_zero, List.set_cons_succ])
        refine wpL_word (i := 3) (v := ?_) rfl (by kernel_rfl) (fun _ _ _ h => h) (by kernel_rfl) _ _ _ _ (by kernel_rfl) (by kernel_rfl) (Or.inl ⟨by rfl, ?_⟩) (fun _ => HT.out) ?_
        rotate_left
        · intro w' _
          go_simp
          try with_reducible rfl
        (try simp only [Act.put, List.getElem_toArray, List.getElem_cons_succ, List.getElem_cons_zero, List.setIfInBounds_toArray, List.set_cons_zero, List.set_cons_succ])
        refine wpL_load (i := 4) (v := ?_) rfl (by kernel_rfl) (fun _ _ _ h => h) (by kernel_rfl) (by kernel_rfl) _ _ _ _ (by kernel_rfl) (by kernel_rfl) (Or.inl ⟨by rfl, ?_⟩) (by kernel_rfl) HT.out ?_
        rotate_left
        · intro w' hS
          (try dsimp only at hS)
          obtain ⟨y1, y2, y3, y4, y5, y6⟩ := hS
          go_simp
          try with_reducible rfl
        (try simp only [Act.put, List.getElem_toArray, List.getElem_cons_succ, List.getElem_cons_zero, List.setIfInBounds_toArray, List.set_cons_zero, List.set_cons_succ])
        refine wpL_word (i := 5) (v := ?_) rfl (by kernel_rfl) (fun _ _ _ h => h) (by kernel_rfl) _ _ _ _ (by kernel_rfl) (by kernel_rfl) (Or.inl ⟨by rfl, ?_⟩) (fun _ => HT.out) ?_
        rotate_left
        · intro w' _
          go_simp
          try with_reducible rfl
        (try simp only [Act.put, List.getElem_toArray, List.getElem_cons_succ, List.getElem_cons_zero, List.setIfInBounds_toArray, List.set_cons_zero, List.set_cons_succ])
        refine wpL_word (i := 6) (v := ?_) rfl (by kernel_rfl) (fun _ _ _ h => h) (by kernel_rfl) _ _ _ _ (by kernel_rfl) (by kernel_rfl) (Or.inl ⟨by rfl, ?_⟩) (fun _ => HT.out) ?_
        rotate_left
        · intro w' _
          go_simp
          try with_reducible rfl
        (try simp only [Act.put, List.getElem_toArray, List.getElem_cons_succ, List.getElem_cons_zero, List.setIfInBounds_toArray, List.set_cons_zero, List.set_cons_succ])
        refine wpL_load (i := 7) (v := ?_) rfl (by kernel_rfl) (fun _ _ _ h => h) (by kernel_rfl) (by kernel_rfl) _ _ _ _ (by kernel_rfl) (by kernel_rfl) (Or.inl ⟨by rfl, ?_⟩) (by kernel_rfl) HT.out ?_
        rotate_left
        · intro w' hS
          (try dsimp only at hS)
          obtain ⟨y1, y2, y3, y4, y5, y6⟩ := hS
          go_simp
          try with_reducible rfl
        (try simp only [Act.put, List.getElem_toArray, List.getElem_cons_succ, List.getElem_cons_zero, List.setIfInBounds_toArray, List.set_cons_zero, List.set_cons_succ])
        refine wpL_load (i := 8) (v := ?_) rfl (by kernel_rfl) (fun _ _ _ h => h) (by kernel_rfl) (by kernel_rfl) _ _ _ _ (by kernel_rfl) (by kernel_rfl) (Or.inl ⟨by rfl, ?_⟩) (by kernel_rfl) HT.out ?_
        rotate_left
        · intro w' hS
          (try dsimp only at hS)
          obtain ⟨y1, y2, y3, y4, y5, y6⟩ := hS
          go_simp
          try with_reducible rfl
        (try simp only [Act.put, List.getElem_toArray, List.getElem_cons_succ, List.getElem_cons_zero, List.setIfInBounds_toArray, List.set_cons_zero, List.set_cons_succ])
        refine wpL_next (n := 9) (by kernel_rfl) rfl (fun K' hK => ?_)
        go_simp
        refine (smessage_any x0 x1 x2 x3 HX.out.1 HX.out.2.1 HX.out.2.2.1 HX.out.2.2.2 wD).mono ?_
        rintro e wE ⟨rfl, hb⟩
        rw [← hmB.out]
        generalize hmm : mB l j = mm
        have HM := κ hmm
        clear hmm
        obtain ⟨q0, q1, q2, q3, q4, q5, q6, q7, q8, q9, q10, q11⟩ := mm
        unfold mvl
        have mE := κ (Ls.below mD.out hb)
        have kE := κ (kD.out.below' hb)
        have RE := κ (Cn.below RD.out hb)
        have zE := κ (zD.out.below' hb)
        have bE := κ (Rul1.below_step bD.out hb)
        have tE := κ (tD.out.below' hb)
        have HTE : Hid (wE.cell? ⟨gS, 7, none⟩ = some (.slice (some ⟨gL, 0, none⟩) 3 3) ∧ wE.cell? ⟨gL, wh, none⟩ = some (.slice (P wh) (lsF l j wh).length (p wh)) ∧ wE.cell? ⟨g5, 0, none⟩ = some (.int .u8 x0) ∧ wE.cell? ⟨g5, 1, none⟩ = some (.int .u8 x1) ∧ wE.cell? ⟨g5, 2, none⟩ = some (.int .u8 x2) ∧ wE.cell? ⟨g5, 3, none⟩ = some (.int .u8 x3)) := κ ⟨kE.out.cell 7, Ls.cell mE.out hw3.out, tE.out.cell 0, tE.out.cell 1, tE.out.cell 2, tE.out.cell 3⟩
        clear hb mD kD RD zD bD tD HT
        refine hK.out _ _ HTE.out ?_
        clear hK K'
        (try simp only [Act.put, List.getElem_toArray, List.getElem_cons_succ, List.getElem_cons_zero, List.setIfInBounds_toArray, List.set_cons_zero, List.set_cons_succ])
        refine wpL_next (n := 10) (by kernel_rfl) rfl (fun K' hK => ?_)
        go_simp
        have hu : Below wE.heap.size wE (wE.alloc (.cells #[.int .i64 q0, .int .i64 q1, .int .i64 q2, .bool q3, .int .i64 q4, .int .i64 q5, .int .i64 q6, .int .i64 q7, .int .i64 q8, .int .i64 q9, .int .i64 q10, .int .i64 q11] 54)) := (Below.refl _ _).alloc (Nat.le_refl _) _
        have mF := κ (Ls.below mE.out hu)
        have kF := κ (kE.out.below' hu)
        have RF := κ (Cn.below RE.out hu)
        have zF := κ (zE.out.below' hu)
        have bF := κ (Rul1.below_step bE.out hu)
        have tF := κ (tE.out.below' hu)
        have R5 : Hid (Rd (wE.alloc (.cells #[.int .i64 q0, .int .i64 q1, .int .i64 q2, .bool q3, .int .i64 q4, .int .i64 q5, .int .i64 q6, .int .i64 q7, .int .i64 q8, .int .i64 q9, .int .i64 q10, .int .i64 q11] 54)) (wE.alloc (.cells #[.int .i64 q0, .int .i64 q1, .int .i64 q2, .bool q3, .int .i64 q4, .int .i64 q5, .int .i64 q6, .int .i64 q7, .int .i64 q8, .int .i64 q9, .int .i64 q10, .int .i64 q11] 54)).heap.size (some ⟨wE.heap.size, 0, none⟩) [.int .i64 q0, .int .i64 q1, .int .i64 q2, .bool q3, .int .i64 q4, .int .i64 q5, .int .i64 q6, .int .i64 q7, .int .i64 q8, .int .i64 q9, .int .i64 q10, .int .i64 q11]) := κ (rd_new rfl)
        clear hu mE kE RE zE bE tE HTE
        generalize wE.alloc (.cells #[.int .i64 q0, .int .i64 q1, .int .i64 q2, .bool q3, .int .i64 q4, .int .i64 q5, .int .i64 q6, .int .i64 q7, .int .i64 q8, .int .i64 q9, .int .i64 q10, .int .i64 q11] 54) = wF at mF kF RF zF bF tF R5 ⊢
        generalize wE.heap.size = gQ at R5 ⊢
        have HTF : Hid (wF.cell? ⟨gS, 7, none⟩ = some (.slice (some ⟨gL, 0, none⟩) 3 3) ∧ wF.cell? ⟨gL, wh, none⟩ = some (.slice (P wh) (lsF l j wh).length (p wh)) ∧ wF.cell? ⟨g5, 0, none⟩ = some (.int .u8 x0) ∧ wF.cell? ⟨g5, 1, none⟩ = some (.int .u8 x1) ∧ wF.cell? ⟨g5, 2, none⟩ = some (.int .u8 x2) ∧ wF.cell? ⟨g5, 3, none⟩ = some (.int .u8 x3)) := κ ⟨kF.out.cell 7, Ls.cell mF.out hw3.out, tF.out.cell 0, tF.out.cell 1, tF.out.cell 2, tF.out.cell 3⟩
        refine hK.out _ _ HTF.out ?_
        clear hK K'
        (try simp only [Act.put, List.getElem_toArray, List.getElem_cons_succ, List.getElem_cons_zero, List.setIfInBounds_toArray, List.set_cons_zero, List.set_cons_succ])
        have O5 : Hid (World.ownsRow wF w.heap.size 54 12 (.slice (P wh) (lsF l j wh).length (p wh)) (lsF l j wh).length (mrow (lsF l j wh))) := κ (mF.out.o wh hw3n)
        have hL : (lsF l j wh).length ≤ 30 := by have := lsF_len l j wh; have := HN.out.2; omega
        have Z5 : w.heap.size ≤ wF.heap.size := bF.out.size
        obtain ⟨n6, hn6⟩ : ∃ k, k = (lsF l j wh).length + 1 := ⟨_, rfl⟩
        have HN6 := κ hn6
        clear hn6
        refine wpL_next (n := 11) (by kernel_rfl) rfl (fun K' hK => ?_)
        refine step_appA O5 R5 HN6.out rfl _ _ _ rfl i0 (.agg #[.int .i64 0, .int .i64 0, .int .i64 0, .bool false, .int .i64 0, .int .i64 0, .int .i64 0, .int .i64 0, .int .i64 0, .int .i64 0, .int .i64 0, .int .i64 0]) 96 Tryd.underlying45 hi0 hz0 hz1 hz2 rfl (by decide) rfl rfl rfl (by simp [Value.oneCell']) (by unfold maxLen; omega) (by omega) Z5 ?_
        intro A6 c6 wG ho6 hg6 hob6
        have mG := κ (Ls.push mF.out (by decide) hw3n ⟨q0, q1, q2, q3, q4, q5, q6, q7, q8, q9, q10, q11⟩ HN6.out ho6.out hg6.out hob6.out)
        have bG : Hid (Blk wG gL 45 #[slV (P 0) (lsF l j 0) (p 0), slV (P 1) (lsF l j 1) (p 1), slV (P 2) (lsF l j 2) (p 2)]) := κ (mF.out.off hw3n hg6.out mF.out.b (by decide))
        have kG := κ (mF.out.off hw3n hg6.out kF.out (by decide))
        have RG : Hid (Cn l w wG gA gB gC) := κ ⟨mF.out.off hw3n hg6.out RF.out.a (by decide), mF.out.off hw3n hg6.out RF.out.b (by decide), mF.out.off hw3n hg6.out RF.out.c (by decide), RF.out.la, RF.out.lb, RF.out.lc⟩
        have zG := κ (mF.out.off hw3n hg6.out zF.out (by decide))
        have eG := κ (mF.out.bel hw3n hg6.out bF.out (Nat.le_refl _) bF.out.size)
        have tG := κ (mF.out.off hw3n hg6.out tF.out (by decide))
        have cG : wG.cell? ⟨gL, wh, none⟩ = some (.slice (P wh) (lsF l j wh).length (p wh)) := (bG.out.cell wh).trans ((mF.out.b.cell wh).symm.trans (Ls.cell mF.out hw3n))
        have yG : wG.frozen? ⟨gL, wh, none⟩ = false := bG.out.thaw wh
        have HTG : Hid (wG.cell? ⟨gS, 7, none⟩ = some (.slice (some ⟨gL, 0, none⟩) 3 3) ∧ wG.cell? ⟨gL, wh, none⟩ = some (.slice (P wh) (lsF l j wh).length (p wh)) ∧ wG.cell? ⟨g5, 0, none⟩ = some (.int .u8 x0) ∧ wG.cell? ⟨g5, 1, none⟩ = some (.int .u8 x1) ∧ wG.cell? ⟨g5, 2, none⟩ = some (.int .u8 x2) ∧ wG.cell? ⟨g5, 3, none⟩ = some (.int .u8 x3)) := κ ⟨kG.out.cell 7, cG, tG.out.cell 0, tG.out.cell 1, tG.out.cell 2, tG.out.cell 3⟩
        refine hK.out _ _ HTG.out ?_
        clear hK K'
        (try simp only [Act.put, List.getElem_toArray, List.getElem_cons_succ, List.getElem_cons_zero, List.setIfInBounds_toArray, List.set_cons_zero, List.set_cons_succ])
        refine wpL_word (i := 12) (v := ?_) rfl (by kernel_rfl) (fun _ _ _ h => h) (by kernel_rfl) _ _ _ _ (by kernel_rfl) (by kernel_rfl) (Or.inl ⟨by rfl, ?_⟩) (fun _ => HTG.out) ?_
        rotate_left
        · intro w' _
          go_simp
          try with_reducible rfl
        (try simp only [Act.put, List.getElem_toArray, List.getElem_cons_succ, List.getElem_cons_zero, List.setIfInBounds_toArray, List.set_cons_zero, List.set_cons_succ])
        refine wpL_late (n := 13) (by kernel_rfl) rfl (by kernel_rfl) (fun K' hK => ?_)
        go_simp
        refine hK.out _ _ ?_
        clear hK K'
        (try simp only [Act.put, List.getElem_toArray, List.getElem_cons_succ, List.getElem_cons_zero, List.setIfInBounds_toArray, List.set_cons_zero, List.set_cons_succ])
        refine wpL_done (by kernel_rfl) ?_ _
        refine NoPanic.normal ?_
        have eL : up (lsF l j) wh (lsF l j wh ++ [(⟨q0, q1, q2, q3, q4, q5, q6, q7, q8, q9, q10, q11⟩ : M)]) = lsF l (j + 1) := by
          show _ = up (lsF l j) (whF l j) (lsF l j (whF l j) ++ [mB l j])
          rw [HW.out, HM.out]
        rw [eL] at mG
        have k7 := κ (far_st kG.out (blk_ne kG.out bG.out (by decide)) (i := wh) (.slice A6 n6 c6))
        have R7 : Hid (Cn l w (wG.setCell ⟨gL, wh, none⟩ (.slice A6 n6 c6)) gA gB gC) := κ ⟨far_st RG.out.a (blk_ne RG.out.a bG.out (by decide)) _, far_st RG.out.b (blk_ne RG.out.b bG.out (by decide)) _, far_st RG.out.c (blk_ne RG.out.c bG.out (by decide)) _, RG.out.la, RG.out.lb, RG.out.lc⟩
        have z7 := κ (far_st zG.out (blk_ne zG.out bG.out (by decide)) (i := wh) (.slice A6 n6 c6))
        have e7 := κ (eG.out.setCell (p := ⟨gL, wh, none⟩) gL6.out (.slice A6 n6 c6))
        clear kG RG zG eG bG tG cG yG HTG HTF O5 R5 mF kF RF zF bF tF ho6 hg6 hob6 HM HW eL HN6 hw3 hw3i hw3n HX hmB
        generalize wG.setCell ⟨gL, wh, none⟩ (.slice A6 n6 c6) = w7 at mG k7 R7 z7 e7 ⊢
        have ej : wrap64 ((j : Int) + 1) = (j : Int) + 1 := by have := HN.out.2; unfold wrap64; omega
        go_wp2_with fail
        go_roundg g8
        case measure => omega
        case rel => exact ⟨j + 1, _, _, by omega, by rw [ej, Int.natCast_add]; rfl, mG, k7, R7, z7, e7⟩
      · have t0 : decide ((j : Int) < (cN : Int)) = false := decide_eq_false (by omega)
        obtain rfl : j = cN := by omega
        have hmk := fun (W : World) => run_make (P := Tryd.prog) W 24 3 i1 (.int .i64 0) Tryd.underlying24 hi1 hy0 .i64 .i64 ((l.length - 12 : Nat) : Int) ((l.length - 12 : Nat) : Int) (by omega) (by omega) (by rw [hy2]; omega) (by omega)
        simp only [Int.toNat_natCast, hy1, Nat.mul_one] at hmk
        have hu : Below wr.heap.size wr (wr.alloc (.cells (pcF l 0) 3)) := (Below.refl _ _).alloc (Nat.le_refl _) _
        have mA := κ (Ls.below mr.out hu)
        have kA := κ (kr.out.below' hu)
        have RA := κ (Cn.below Rr.out hu)
        have zA := κ (zr.out.below' hu)
        have bA := κ (Rul1.below_step br.out hu)
        have pA := κ (Blk.fresh wr 3 (pcF l 0))
        have gP0 : Hid (w.heap.size ≤ wr.heap.size) := κ br.out.size
        have hp0 : madeCells #[.int .i64 0] (l.length - 12) = pcF l 0 := rfl
        simp only [Value.cells, hp0] at hmk
        unfold scV at kA
        have c8 : (wr.alloc (.cells (pcF l 0) 3)).cell? ⟨gS, 8, none⟩ = some (.slice none 0 0) := kA.out.cell 8
        have y8 : (wr.alloc (.cells (pcF l 0) 3)).frozen? ⟨gS, 8, none⟩ = false := kA.out.thaw 8
        have hBP : Hid (gB ≠ wr.heap.size) := κ (by have := Rr.out.b.lt; omega)
        clear hu mr kr Rr zr br hp0
        go_upto_region 13 with fail
        have gP1 : Hid (w.heap.size ≤ wr.heap.size) := gP0
        generalize wr.alloc (.cells (pcF l 0) 3) = wA at mA kA RA zA bA pA ⊢
        generalize wr.heap.size = gP at pA gP0 hBP ⊢
        have mB := κ (mA.out.st kA.out (by decide) (by decide) 8 (.slice (some ⟨gP, 0, none⟩) (l.length - 12) (l.length - 12)))
        have kB : Hid (Blk (wA.setCell ⟨gS, 8, none⟩ (.slice (some ⟨gP, 0, none⟩) (l.length - 12) (l.length - 12))) gS 30 (scV l gA gB gC gL (.slice (some ⟨gP, 0, none⟩) (l.length - 12) (l.length - 12)))) := κ (blk_st kA.out 8 _)
        have RB : Hid (Cn l w (wA.setCell ⟨gS, 8, none⟩ (.slice (some ⟨gP, 0, none⟩) (l.length - 12) (l.length - 12))) gA gB gC) := κ ⟨far_st RA.out.a (blk_ne RA.out.a kA.out (by decide)) _, far_st RA.out.b (blk_ne RA.out.b kA.out (by decide)) _, far_st RA.out.c (blk_ne RA.out.c kA.out (by decide)) _, RA.out.la, RA.out.lb, RA.out.lc⟩
        have zB := κ (far_st zA.out hRS.out (i := 8) (.slice (some ⟨gP, 0, none⟩) (l.length - 12) (l.length - 12)))
        have pB := κ (far_st pA.out (blk_ne pA.out kA.out (by decide)) (i := 8) (.slice (some ⟨gP, 0, none⟩) (l.length - 12) (l.length - 12)))
        have bB := κ (bA.out.setCell (p := ⟨gS, 8, none⟩) gS6.out (.slice (some ⟨gP, 0, none⟩) (l.length - 12) (l.length - 12)))
        clear mA kA RA zA bA pA
        generalize wA.setCell ⟨gS, 8, none⟩ (.slice (some ⟨gP, 0, none⟩) (l.length - 12) (l.length - 12)) = wB at mB kB RB zB pB bB ⊢
        have eN : l.length - 12 ≤ 1000 := by omega
        go_wp2_with fail
        go_loopg [56] (l.length - 12) (fun g s56 w' => ∃ (i : Nat), i + g = l.length - 12 ∧ s56 = .int .i64 i ∧ Hid (Ls w.heap.size 45 54 w' gL P p (lsF l j)) ∧ Hid (Blk w' gS 30 (scV l gA gB gC gL (.slice (some ⟨gP, 0, none⟩) (l.length - 12) (l.length - 12)))) ∧ Hid (Cn l w w' gA gB gC) ∧ Hid (Blk w' gR 30 #[.int .i64 0, .int .i64 0, .int .i64 0, .int .i64 0, .slice none 0 0, .slice none 0 0, .slice none 0 0, .slice none 0 0, .slice none 0 0]) ∧ Hid (Blk w' gP 3 (pcF l i)) ∧ Hid (Below w.heap.size w w'))
        case atStart => exact ⟨0, by omega, rfl, mB, kB, RB, zB, pB, bB⟩
        case round =>
          clear mB kB RB zB pB bB
          obtain ⟨i, hig, rfl, mr, kr, Rr, zr, pr, br⟩ := hrel
          rename World => wq
          by_cases hlt2 : i < l.length - 12
          · obtain ⟨g8, rfl⟩ : ∃ g8, gk = g8 + 1 := ⟨gk - 1, by omega⟩
            have t0 : decide ((i : Int) < ((l.length - 12 : Nat) : Int)) = true := decide_eq_true (by omega)
            have lr := κ (by_drop (Rd.below' hl.out br.out br.out.size) 12)
            have e0 := by_c12 lr.out (i := i) (by omega)
            have p0 : wq.cell? ⟨gP, i, none⟩ = some (.int .i64 0) := (pr.out.cell i).trans (pcF_at l hlt2)
            have y0 : wq.frozen? ⟨gP, i, none⟩ = false := pr.out.thaw i
            have s8 : wq.cell? ⟨gS, 8, none⟩ = some (.slice (some ⟨gP, 0, none⟩) (l.length - 12) (l.length - 12)) := kr.out.cell 8
            have ei : wrap64 ((i : Int) + 1) = (i : Int) + 1 := by unfold wrap64; omega
            have p1 : Hid (Blk (wq.setCell ⟨gP, i, none⟩ (.int .i64 (nb l (12 + i)))) gP 3 (pcF l (i + 1))) := κ (blk_st pr.out i _)
            have hx := nb_lt l (12 + i)
            generalize nb l (12 + i) = x at e0 p1 hx
            have m1 := κ (mr.out.st pr.out (by decide) (by decide) i (.int .i64 x))
            have k1 := κ (far_st kr.out (blk_ne kr.out pr.out (by decide)) (i := i) (.int .i64 x))
            have R1 : Hid (Cn l w (wq.setCell ⟨gP, i, none⟩ (.int .i64 x)) gA gB gC) := κ ⟨far_st Rr.out.a (blk_ne Rr.out.a pr.out (by decide)) _, far_st Rr.out.b hBP.out _, far_st Rr.out.c (blk_ne Rr.out.c pr.out (by decide)) _, Rr.out.la, Rr.out.lb, Rr.out.lc⟩
            have z1 := κ (far_st zr.out (blk_ne zr.out pr.out (by decide)) (i := i) (.int .i64 x))
            have b1 := κ (br.out.setCell (p := ⟨gP, i, none⟩) gP0.out (.int .i64 x))
            clear mr kr Rr zr pr br lr
            go_wp2_with fail
            go_roundg g8
            case measure => omega
            case rel => exact ⟨i + 1, by omega, by rw [ei, Int.natCast_add]; rfl, m1, k1, R1, z1, p1, b1⟩
          · have t0 : decide ((i : Int) < ((l.length - 12 : Nat) : Int)) = false := decide_eq_false (by omega)
            obtain rfl : i = l.length - 12 := by omega
            have k6 : Hid (Blk wq gS 30 (scV l gA gB gC gL (.slice (some ⟨gP, 0, none⟩) (l.length - 12) (l.length - 12)))) := kr
            unfold scV at k6
            obtain ⟨j0, j1, j2, j3, j4, j5, j6, j7, j8⟩ := q9_of k6.out
            obtain ⟨s0, s1, s2, s3, s4, s5, s6, s7, s8, y0, y1, y2, y3, y4, y5, y6, y7, y8⟩ := z9_of zr.out
            go_wp2_with fail
            have f3 := st9_blk (v0 := .int .i64 (1 + bt l 0 % 3)) (v1 := .int .i64 (bt l 1 % 4)) (v2 := .int .i64 (1 + bt l 2 % 6)) (v3 := .int .i64 (1 + bt l 3 % 6)) (v4 := .slice (some ⟨gA, 0, none⟩) 4 4) (v5 := .slice (some ⟨gB, 0, none⟩) 3 3) (v6 := .slice (some ⟨gC, 0, none⟩) 2 2) (v7 := .slice (some ⟨gL, 0, none⟩) 3 3) (v8 := .slice (some ⟨gP, 0, none⟩) (l.length - 12) (l.length - 12)) zr.out
            have hB := st9_below (v0 := .int .i64 (1 + bt l 0 % 3)) (v1 := .int .i64 (bt l 1 % 4)) (v2 := .int .i64 (1 + bt l 2 % 6)) (v3 := .int .i64 (1 + bt l 3 % 6)) (v4 := .slice (some ⟨gA, 0, none⟩) 4 4) (v5 := .slice (some ⟨gB, 0, none⟩) 3 3) (v6 := .slice (some ⟨gC, 0, none⟩) 2 2) (v7 := .slice (some ⟨gL, 0, none⟩) 3 3) (v8 := .slice (some ⟨gP, 0, none⟩) (l.length - 12) (l.length - 12)) br.out hg.out
            have hM := Ls.st9 (v0 := .int .i64 (1 + bt l 0 % 3)) (v1 := .int .i64 (bt l 1 % 4)) (v2 := .int .i64 (1 + bt l 2 % 6)) (v3 := .int .i64 (1 + bt l 3 % 6)) (v4 := .slice (some ⟨gA, 0, none⟩) 4 4) (v5 := .slice (some ⟨gB, 0, none⟩) 3 3) (v6 := .slice (some ⟨gC, 0, none⟩) 2 2) (v7 := .slice (some ⟨gL, 0, none⟩) 3 3) (v8 := .slice (some ⟨gP, 0, none⟩) (l.length - 12) (l.length - 12)) mr.out zr.out (by decide) (by decide)
            have hP : Blk (st9 wq gR (.int .i64 (1 + bt l 0 % 3)) (.int .i64 (bt l 1 % 4)) (.int .i64 (1 + bt l 2 % 6)) (.int .i64 (1 + bt l 3 % 6)) (.slice (some ⟨gA, 0, none⟩) 4 4) (.slice (some ⟨gB, 0, none⟩) 3 3) (.slice (some ⟨gC, 0, none⟩) 2 2) (.slice (some ⟨gL, 0, none⟩) 3 3) (.slice (some ⟨gP, 0, none⟩) (l.length - 12) (l.length - 12))) gP 3 (pcF l (l.length - 12)) := st9_far pr.out (blk_ne pr.out zr.out (by decide))
            have hC : Cn l w (st9 wq gR (.int .i64 (1 + bt l 0 % 3)) (.int .i64 (bt l 1 % 4)) (.int .i64 (1 + bt l 2 % 6)) (.int .i64 (1 + bt l 3 % 6)) (.slice (some ⟨gA, 0, none⟩) 4 4) (.slice (some ⟨gB, 0, none⟩) 3 3) (.slice (some ⟨gC, 0, none⟩) 2 2) (.slice (some ⟨gL, 0, none⟩) 3 3) (.slice (some ⟨gP, 0, none⟩) (l.length - 12) (l.length - 12))) gA gB gC := ⟨st9_far Rr.out.a (blk_ne Rr.out.a zr.out (by decide)), st9_far Rr.out.b (blk_ne Rr.out.b zr.out (by decide)), st9_far Rr.out.c (blk_ne Rr.out.c zr.out (by decide)), Rr.out.la, Rr.out.lb, Rr.out.lc⟩
            have hR := hP.rd' (pcF_all l)
            clear j0 s0 y0 j1 s1 y1 j2 s2 y2 j3 s3 y3 j4 s4 y4 j5 s5 y5 j6 s6 y6 j7 s7 y7 j8 s8 y8
            obtain ⟨d0, d1, d2, d3, d4, d5, d6, d7, d8⟩ := q9_of f3
            unfold st9 at d0 d1 d2 d3 d4 d5 d6 d7 d8 hB hM hC hR
            refine bodyPost_ret (v := .agg #[.int .i64 (1 + bt l 0 % 3), .int .i64 (bt l 1 % 4), .int .i64 (1 + bt l 2 % 6), .int .i64 (1 + bt l 3 % 6), .slice (some ⟨gA, 0, none⟩) 4 4, .slice (some ⟨gB, 0, none⟩) 3 3, .slice (some ⟨gC, 0, none⟩) 2 2, .slice (some ⟨gL, 0, none⟩) 3 3, .slice (some ⟨gP, 0, none⟩) (l.length - 12) (l.length - 12)]) (by simp [results, Tryd.results4, go_sem, d0, d1, d2, d3, d4, d5, d6, d7, d8]) rfl ⟨gA, gB, gC, gL, some ⟨gP, 0, none⟩, P, p, rfl, hC, ?_, hR, hB⟩
            rw [hcN]
            exact hM
end Srf
end Go.Proofs.YtmjkhejfhpgiiaaDoor
