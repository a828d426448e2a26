/- Texts side by side. -/
import Derived.Test.YtmjkhejfhpgiiaaDoorSrqn
import Derived.Test.YtmjkhejfhpgiiaaDoorSrqo
import Derived.Test.YtmjkhejfhpgiiaaDoorSrqp
import Derived.Test.YtmjkhejfhpgiiaaDoorSrqr
set_option linter.unusedVariables false
set_option linter.unusedSimpArgs false
set_option maxRecDepth 100000
set_option maxHeartbeats 16000000
namespace Go.Proofs.YtmjkhejfhpgiiaaDoor
open Kap Go.ChangeShapes Go.WideShapes Go.ChangeAt Go.RowKit Go.Lib Mem Tre Crd CrdC Fix3 Cfg Stk Lat Lap Apt Bko Rul1 Wpl Wmr Wrt Wal Wbo Wtk Wto Wt6 Spa Spm Shw Sc2 Sc3 Scf Srd Srf Lst Rby Rcr Rrd Lcf Lsc Sto
namespace Lsr
def MadeSq (l : List UInt8) (w : World) (e : Ending) (w' : World) : Prop := ∃ gA gB gC gL P c A a, e = .returned (.agg (scV l gA gB gC gL (.slice P (l.length - 12) c))) ∧ Cn l w w' gA gB gC ∧ Ls w.heap.size 45 54 w' gL A a (lsF l (cnF l)) ∧ Ris w' w'.heap.size P (piF l) ∧ Below w.heap.size w w'
theorem sread_any (l : List UInt8) (A : Option Addr) (c : Nat) (w : World) (hl : Hid (By w w.heap.size A l)) (hm : l.length ≤ 1000) (hlc : l.length ≤ c) (hc : (c : Int) ≤ 9223372036854775807) : Calls Tryd.prog 4 #[.slice A l.length c] w (MadeSq l w) := by
  by_cases hn : 12 < l.length
  · refine (sreadF_any l A c w hl hn hm hlc hc).mono ?_
    rintro e w' ⟨gA, gB, gC, gL, P, A', c', rfl, h1, h2, h3, h4⟩
    exact ⟨gA, gB, gC, gL, P, _, A', c', rfl, h1, h2, h3, h4⟩
  · refine (sreadS_any l A c w hl (by omega)).mono ?_
    rintro e w' ⟨gA, gB, gC, gL, rfl, h1, h2, h4⟩
    have e0 : l.length - 12 = 0 := by omega
    have e1 : cnF l = 0 := by unfold cnF; omega
    have e2 : piF l = [] := List.eq_nil_of_length_eq_zero (by rw [piF_len]; exact e0)
    refine ⟨gA, gB, gC, gL, none, 0, fun _ => none, fun _ => 0, by rw [e0], h1, ?_, by rw [e2]; exact Rd.nil, h4⟩
    rw [e1]
    exact Ls.new h2
structure Sl (l : List UInt8) (w0 : World) (b1 b2 : Nat) (W : World) (gS gW gA gB gC gL gD gY gM : Nat) (An : Option Addr) (cn : Nat) (P1 : Option Addr) (c1 : Nat) (P2 : Option Addr) (c2 : Nat) (A1 : Nat → Option Addr) (a1 : Nat → Nat) (A2 : Nat → Option Addr) (a2 : Nat → Nat) : Prop where
  s : Blk W gS 30 #[.int .i64 (1 + bt l 0 % 3), .int .i64 (bt l 1 % 4), .int .i64 (1 + bt l 2 % 6), .int .i64 (1 + bt l 3 % 6), .slice (some ⟨gA, 0, none⟩) 4 4, .slice (some ⟨gB, 0, none⟩) 3 3, .slice (some ⟨gC, 0, none⟩) 2 2, .slice (some ⟨gL, 0, none⟩) 3 3, .slice P1 (l.length - 12) c1]
  r : Blk W gW 38 #[.int .i64 (1 + bt l 0 % 3), .int .i64 (bt l 1 % 4), .int .i64 (1 + bt l 2 % 6), .int .i64 (1 + bt l 3 % 6), .slice An 4 cn, .slice (some ⟨gD, 0, none⟩) 3 3, .slice (some ⟨gY, 0, none⟩) 2 2, .slice (some ⟨gM, 0, none⟩) 3 3, .slice P2 (l.length - 12) c2]
  ms : Ls b1 45 54 W gL A1 a1 (lsF l (cnF l))
  mr : Ls b2 46 50 W gM A2 a2 (lsF l (cnF l))
  p : Ris W W.heap.size P1 (piF l)
  q : Ris W W.heap.size P2 (piF l)
  c : Cn l w0 W gA gB gC
  n : Nds W W.heap.size An (cfN l)
  a : Blk W gD 3 #[.int .i64 2, .int .i64 3, .int .i64 2]
  y : Blk W gY 64 Sy8
theorem Sl.below {l : List UInt8} {w0 W W' : World} {b1 b2 gS gW gA gB gC gL gD gY gM cn c1 c2 : Nat} {An P1 P2 : Option Addr} {A1 A2 : Nat → Option Addr} {a1 a2 : Nat → Nat} (h : Sl l w0 b1 b2 W gS gW gA gB gC gL gD gY gM An cn P1 c1 P2 c2 A1 a1 A2 a2) (hb : Below W.heap.size W W') : Sl l w0 b1 b2 W' gS gW gA gB gC gL gD gY gM An cn P1 c1 P2 c2 A1 a1 A2 a2 :=
  ⟨h.s.below' hb, h.r.below' hb, h.ms.below hb, h.mr.below hb, Rd.below' h.p hb hb.size, Rd.below' h.q hb hb.size, Cn.below h.c hb, Rd.below' h.n hb hb.size, h.a.below' hb, h.y.below' hb⟩
theorem sreads_any (lo : List UInt8) (A : Option Addr) (c : Nat) (w : World) (hl : Hid (By w w.heap.size A lo)) (L : Hid (Lw w)) (hlc : lo.length ≤ c) (hcm : (c : Int) ≤ 9223372036854775807) : Calls Tryd.prog 3 #[.slice A lo.length c] w (MadeBl true w) := by
  obtain ⟨iu, hiu, hu0, hu1, hu2⟩ := info_parts Wen.u8_info
  obtain ⟨m, hm⟩ : ∃ m, m = min lo.length 300 := ⟨_, rfl⟩
  have lm : (lo.take m).length = m := by rw [List.length_take]; omega
  have hY := κ (by_cut hl.out m)
  have hmin : min ((lo.length : Nat) : Int) 300 = ((m : Nat) : Int) := by omega
  have hm3 : m ≤ 300 := by omega
  have hmc : ((m : Nat) : Int) ≤ ((c : Nat) : Int) := by omega
  have hm0 : (0 : Int) ≤ ((m : Nat) : Int) := by omega
  clear hm
  go_enter Tryd.func3, Tryd.ntmps3
  go_upto_region 2 with fail
  clear hl hmin hlc
  obtain ⟨l, hl'⟩ : ∃ l, l = lo.take m := ⟨_, rfl⟩
  rw [← hl'] at lm hY
  clear hl'
  have hl := hY
  clear hY
  obtain rfl : m = l.length := lm.symm
  clear lm
  have v1 := κ ((Below.refl w.heap.size w).alloc (Nat.le_refl _) (.cells #[] 5))
  have e1 : Hid (World.ownsRow (w.alloc (.cells #[] 5)) w.heap.size 5 1 (.slice (some ⟨w.heap.size, 0, none⟩) 0 0) 0 []) := κ (own_empty (Blk.fresh _ _ _) (Nat.le_refl _))
  have Y1 : Hid (By (w.alloc (.cells #[] 5)) (w.alloc (.cells #[] 5)).heap.size A l) := κ (Rd.below' hl.out v1.out v1.out.size)
  have L1 := lwb L v1.out
  have hsz : Hid (w.heap.size ≤ (w.alloc (.cells #[] 5)).heap.size) := κ v1.out.size
  have hm9 : Hid (l.length ≤ 300) := κ hm3
  go_upto_region 3 with (at_builtin; go_loud (refine wpList_appRG (nm := l.length) e1 Y1 (Nat.zero_add _).symm rfl _ _ _ rfl iu (.int .u8 0) 1 Tryd.underlying22 hiu hu0 hu1 hu2 rfl (by decide) rfl rfl (by rw [bts_len, Nat.mul_one]) (bts_one l) (by have := hm9.out; unfold maxLen; omega) (by have := hm9.out; omega) hsz.out ?_); intro A3 c3 w3 ho3 hg3)
  have v3 := κ (grown_below v1.out e1.out hg3 (Nat.le_refl _) hsz.out)
  have L3 := lwb L v3.out
  have Y3 : Hid (By w3 w3.heap.size A3 l) := κ (Rd.of_own (show w3.ownsRow w.heap.size 5 1 (.slice A3 l.length c3) l.length (bts l) by simpa using ho3.out))
  obtain ⟨q1, q2⟩ := own_caps ho3.out
  have Y4 := κ (Rd.below' hl.out v3.out v3.out.size)
  clear v1 e1 Y1 L1 hsz ho3 hg3 hl L
  go_wp2_with fail
  refine (sread_any l A3 c3 w3 Y3 (by omega) q1 q2).mono ?_
  rintro e w4 ⟨gA, gB, gC, gL, P1, c1, A1, a1, rfl, hc4, hm4, hp4, hb4⟩
  unfold scV
  have C4 := κ hc4
  have M4 := κ hm4
  have P4 := κ hp4
  have v4 := κ (v3.out.trans (hb4.mono v3.out.size))
  have L4 := lwb L3 hb4
  have Y5 := κ (Rd.below' Y3.out hb4 hb4.size)
  have Y6 := κ (Rd.below' Y4.out hb4 hb4.size)
  clear hc4 hm4 hp4 hb4 L3 Y3 Y4 v3
  go_upto_region 4 with fail
  have hu : Below w4.heap.size w4 (w4.alloc (.cells #[.int .i64 (1 + bt l 0 % 3), .int .i64 (bt l 1 % 4), .int .i64 (1 + bt l 2 % 6), .int .i64 (1 + bt l 3 % 6), .slice (some ⟨gA, 0, none⟩) 4 4, .slice (some ⟨gB, 0, none⟩) 3 3, .slice (some ⟨gC, 0, none⟩) 2 2, .slice (some ⟨gL, 0, none⟩) 3 3, .slice P1 (l.length - 12) c1] 30)) := (Below.refl _ _).alloc (Nat.le_refl _) _
  have S5 := κ (Blk.fresh w4 30 #[.int .i64 (1 + bt l 0 % 3), .int .i64 (bt l 1 % 4), .int .i64 (1 + bt l 2 % 6), .int .i64 (1 + bt l 3 % 6), .slice (some ⟨gA, 0, none⟩) 4 4, .slice (some ⟨gB, 0, none⟩) 3 3, .slice (some ⟨gC, 0, none⟩) 2 2, .slice (some ⟨gL, 0, none⟩) 3 3, .slice P1 (l.length - 12) c1])
  have C5 := κ (Cn.below C4.out hu)
  have M5 := κ (Ls.below M4.out hu)
  have P5 := κ (Rd.below' P4.out hu hu.size)
  have v5 := κ (v4.out.trans (hu.mono v4.out.size))
  have L5 := lwb L4 hu
  have Z5 := κ (Rd.below' Y5.out hu hu.size)
  have Z6 := κ (Rd.below' Y6.out hu hu.size)
  clear hu C4 M4 P4 v4 L4 Y5 Y6
  generalize w4.alloc (.cells #[.int .i64 (1 + bt l 0 % 3), .int .i64 (bt l 1 % 4), .int .i64 (1 + bt l 2 % 6), .int .i64 (1 + bt l 3 % 6), .slice (some ⟨gA, 0, none⟩) 4 4, .slice (some ⟨gB, 0, none⟩) 3 3, .slice (some ⟨gC, 0, none⟩) 2 2, .slice (some ⟨gL, 0, none⟩) 3 3, .slice P1 (l.length - 12) c1] 30) = w5 at S5 C5 M5 P5 v5 L5 Z5 Z6 ⊢
  generalize w4.heap.size = gS at S5 ⊢
  go_wp2_with fail
  refine (rread_any l A c w5 Z6 hm9.out).mono ?_
  rintro e w6 ⟨An, cn, gD, gY, gM, P2, c2, A2, a2, rfl, hn6, ha6, hy6, hm6, hp6, hb6⟩
  rw [show rcV l An cn gD gY gM (.slice P2 (l.length - 12) c2) = #[.int .i64 (1 + bt l 0 % 3), .int .i64 (bt l 1 % 4), .int .i64 (1 + bt l 2 % 6), .int .i64 (1 + bt l 3 % 6), .slice An 4 cn, .slice (some ⟨gD, 0, none⟩) 3 3, .slice (some ⟨gY, 0, none⟩) 2 2, .slice (some ⟨gM, 0, none⟩) 3 3, .slice P2 (l.length - 12) c2] from rfl]
  have S6 := κ (S5.out.below' hb6)
  have C6 := κ (Cn.below C5.out hb6)
  have M6 := κ (Ls.below M5.out hb6)
  have P6 := κ (Rd.below' P5.out hb6 hb6.size)
  have v6 := κ (v5.out.trans (hb6.mono v5.out.size))
  have L6 := lwb L5 hb6
  have X5 := κ (Rd.below' Z5.out hb6 hb6.size)
  have X6 := κ (Rd.below' Z6.out hb6 hb6.size)
  have HH := κ (And.intro hn6 (And.intro ha6 (And.intro hy6 (And.intro hm6 hp6))))
  clear hb6 hn6 ha6 hy6 hm6 hp6 S5 C5 M5 P5 v5 L5 Z5 Z6
  go_upto_region 5 with fail
  have hu : Below w6.heap.size w6 (w6.alloc (.cells #[.int .i64 (1 + bt l 0 % 3), .int .i64 (bt l 1 % 4), .int .i64 (1 + bt l 2 % 6), .int .i64 (1 + bt l 3 % 6), .slice An 4 cn, .slice (some ⟨gD, 0, none⟩) 3 3, .slice (some ⟨gY, 0, none⟩) 2 2, .slice (some ⟨gM, 0, none⟩) 3 3, .slice P2 (l.length - 12) c2] 38)) := (Below.refl _ _).alloc (Nat.le_refl _) _
  have SL : Hid (Sl l w3 w3.heap.size w5.heap.size (w6.alloc (.cells #[.int .i64 (1 + bt l 0 % 3), .int .i64 (bt l 1 % 4), .int .i64 (1 + bt l 2 % 6), .int .i64 (1 + bt l 3 % 6), .slice An 4 cn, .slice (some ⟨gD, 0, none⟩) 3 3, .slice (some ⟨gY, 0, none⟩) 2 2, .slice (some ⟨gM, 0, none⟩) 3 3, .slice P2 (l.length - 12) c2] 38)) gS w6.heap.size gA gB gC gL gD gY gM An cn P1 c1 P2 c2 A1 a1 A2 a2) := κ ⟨S6.out.below' hu, Blk.fresh _ _ _, Ls.below M6.out hu, Ls.below HH.out.2.2.2.1 hu, Rd.below' P6.out hu hu.size, Rd.below' HH.out.2.2.2.2 hu hu.size, Cn.below C6.out hu, Rd.below' HH.out.1 hu hu.size, HH.out.2.1.below' hu, HH.out.2.2.1.below' hu⟩
  have v7 := κ (v6.out.trans (hu.mono v6.out.size))
  have L7 := lwb L6 hu
  have U5 := κ (Rd.below' X5.out hu hu.size)
  have U6 := κ (Rd.below' X6.out hu hu.size)
  clear hu S6 C6 M6 P6 v6 L6 X5 X6 HH
  generalize w6.alloc (.cells #[.int .i64 (1 + bt l 0 % 3), .int .i64 (bt l 1 % 4), .int .i64 (1 + bt l 2 % 6), .int .i64 (1 + bt l 3 % 6), .slice An 4 cn, .slice (some ⟨gD, 0, none⟩) 3 3, .slice (some ⟨gY, 0, none⟩) 2 2, .slice (some ⟨gM, 0, none⟩) 3 3, .slice P2 (l.length - 12) c2] 38) = w7 at SL v7 L7 U5 U6 ⊢
  generalize w6.heap.size = gW at SL ⊢
  generalize w3.heap.size = y1 at SL
  generalize w5.heap.size = y2 at SL
  go_cut [59] (fun s59 wx => s59 = .bool false ∧ Hid (Below w7.heap.size w7 wx))
  case first =>
    refine wp_region_noPanic ?_
    refine wp_region_L (T := (fun w' => Below w7.heap.size w7 w')) (st := []) (by kernel_rfl) ?_
    have HT : Hid (Below w7.heap.size w7 w7.drew) := κ (Below.refl _ _).drew
    have LD : Hid (Lw w7.drew) := lwb L7 HT.out
    have FS : Hid (∀ W, Below w7.heap.size w7 W → W.cell? ⟨gS, 0, none⟩ = some (.int .i64 (1 + bt l 0 % 3)) ∧ W.cell? ⟨gS, 1, none⟩ = some (.int .i64 (bt l 1 % 4)) ∧ W.cell? ⟨gS, 2, none⟩ = some (.int .i64 (1 + bt l 2 % 6)) ∧ W.cell? ⟨gS, 3, none⟩ = some (.int .i64 (1 + bt l 3 % 6)) ∧ W.cell? ⟨gS, 4, none⟩ = some (.slice (some ⟨gA, 0, none⟩) 4 4) ∧ W.cell? ⟨gS, 5, none⟩ = some (.slice (some ⟨gB, 0, none⟩) 3 3) ∧ W.cell? ⟨gS, 6, none⟩ = some (.slice (some ⟨gC, 0, none⟩) 2 2) ∧ W.cell? ⟨gS, 7, none⟩ = some (.slice (some ⟨gL, 0, none⟩) 3 3) ∧ W.cell? ⟨gS, 8, none⟩ = some (.slice P1 (l.length - 12) c1)) := κ (fun W hb => have h := (SL.out.below hb).s; ⟨h.cell 0, h.cell 1, h.cell 2, h.cell 3, h.cell 4, h.cell 5, h.cell 6, h.cell 7, h.cell 8⟩)
    have FW : Hid (∀ W, Below w7.heap.size w7 W → W.cell? ⟨gW, 0, none⟩ = some (.int .i64 (1 + bt l 0 % 3)) ∧ W.cell? ⟨gW, 1, none⟩ = some (.int .i64 (bt l 1 % 4)) ∧ W.cell? ⟨gW, 2, none⟩ = some (.int .i64 (1 + bt l 2 % 6)) ∧ W.cell? ⟨gW, 3, none⟩ = some (.int .i64 (1 + bt l 3 % 6)) ∧ W.cell? ⟨gW, 4, none⟩ = some (.slice An 4 cn) ∧ W.cell? ⟨gW, 5, none⟩ = some (.slice (some ⟨gD, 0, none⟩) 3 3) ∧ W.cell? ⟨gW, 6, none⟩ = some (.slice (some ⟨gY, 0, none⟩) 2 2) ∧ W.cell? ⟨gW, 7, none⟩ = some (.slice (some ⟨gM, 0, none⟩) 3 3) ∧ W.cell? ⟨gW, 8, none⟩ = some (.slice P2 (l.length - 12) c2)) := κ (fun W hb => have h := (SL.out.below hb).r; ⟨h.cell 0, h.cell 1, h.cell 2, h.cell 3, h.cell 4, h.cell 5, h.cell 6, h.cell 7, h.cell 8⟩)
    have FT : Hid (∀ W, Below w7.heap.size w7 W → (convert 22 9 (.slice A3 l.length c3)).run Tryd.prog W = .ok (.string ⟨l.toArray⟩) W ∧ (convert 22 9 (.slice A l.length c)).run Tryd.prog W = .ok (.string ⟨l.toArray⟩) W) := κ (fun W hb => ⟨Wtx.text_any (Rd.below' U5.out hb hb.size), Wtx.text_any (Rd.below' U6.out hb hb.size)⟩)
    have SS : Hid (∀ W, Below w7.heap.size w7 W → Sl l w3 y1 y2 W gS gW gA gB gC gL gD gY gM An cn P1 c1 P2 c2 A1 a1 A2 a2) := κ (fun W hb => SL.out.below hb)
    clear SL U5 U6
    generalize w7.drew = wD at HT LD ⊢
    refine wpL_next (n := 0) (by kernel_rfl) rfl (fun K' hK => ?_)
    go_simp
    refine (told13_any wD LD).mono ?_
    rintro e wE ⟨rfl, hb⟩
    have HE := κ (HT.out.trans (hb.mono HT.out.size))
    clear hb LD HT
    refine hK.out _ _ HE.out ?_
    clear hK K'
    (try simp only [Act.put, List.getElem_toArray, List.getElem_cons_succ, List.getElem_cons_zero, List.setIfInBounds_toArray, List.set_cons_zero, List.set_cons_succ])
    refine wpL_word (i := 1) (v := ?_) rfl (by kernel_rfl) (fun _ _ _ h => h) (by kernel_rfl) _ _ _ _ (by kernel_rfl) (by kernel_rfl) (Or.inl ⟨by rfl, ?_⟩) (fun _ => HE.out) ?_
    rotate_left
    · intro w' _
      go_simp
      try with_reducible rfl
    (try simp only [Act.put, List.getElem_toArray, List.getElem_cons_succ, List.getElem_cons_zero, List.setIfInBounds_toArray, List.set_cons_zero, List.set_cons_succ])
    refine wpL_word (i := 2) (v := ?_) rfl (by kernel_rfl) (fun _ _ _ h => h) (by kernel_rfl) _ _ _ _ (by kernel_rfl) (by kernel_rfl) (Or.inl ⟨by rfl, ?_⟩) (fun _ => HE.out) ?_
    rotate_left
    · intro w' _
      go_simp
      try with_reducible rfl
    (try simp only [Act.put, List.getElem_toArray, List.getElem_cons_succ, List.getElem_cons_zero, List.setIfInBounds_toArray, List.set_cons_zero, List.set_cons_succ])
    refine wpL_word (i := 3) (v := ?_) rfl (by kernel_rfl) (fun _ _ _ h => h) (by kernel_rfl) _ _ _ _ (by kernel_rfl) (by kernel_rfl) (Or.inl ⟨by rfl, ?_⟩) (fun _ => HE.out) ?_
    rotate_left
    · intro w' _
      go_simp
      try with_reducible rfl
    (try simp only [Act.put, List.getElem_toArray, List.getElem_cons_succ, List.getElem_cons_zero, List.setIfInBounds_toArray, List.set_cons_zero, List.set_cons_succ])
    refine wpL_load (i := 4) (v := ?_) rfl (by kernel_rfl) (fun _ _ _ h => h) (by kernel_rfl) (by kernel_rfl) _ _ _ _ (by kernel_rfl) (by kernel_rfl) (Or.inl ⟨by rfl, ?_⟩) (by kernel_rfl) HE.out ?_
    rotate_left
    · intro w' hS
      obtain ⟨n1, n2⟩ := FT.out _ hS
      go_simp
      try with_reducible rfl
    (try simp only [Act.put, List.getElem_toArray, List.getElem_cons_succ, List.getElem_cons_zero, List.setIfInBounds_toArray, List.set_cons_zero, List.set_cons_succ])
    refine wpL_word (i := 5) (v := ?_) rfl (by kernel_rfl) (fun _ _ _ h => h) (by kernel_rfl) _ _ _ _ (by kernel_rfl) (by kernel_rfl) (Or.inl ⟨by rfl, ?_⟩) (fun _ => HE.out) ?_
    rotate_left
    · intro w' _
      go_simp
      try with_reducible rfl
    (try simp only [Act.put, List.getElem_toArray, List.getElem_cons_succ, List.getElem_cons_zero, List.setIfInBounds_toArray, List.set_cons_zero, List.set_cons_succ])
    refine wpL_load (i := 6) (v := ?_) rfl (by kernel_rfl) (fun _ _ _ h => h) (by kernel_rfl) (by kernel_rfl) _ _ _ _ (by kernel_rfl) (by kernel_rfl) (Or.inl ⟨by rfl, ?_⟩) (by kernel_rfl) HE.out ?_
    rotate_left
    · intro w' hS
      obtain ⟨n1, n2⟩ := FT.out _ hS
      go_simp
      try with_reducible rfl
    (try simp only [Act.put, List.getElem_toArray, List.getElem_cons_succ, List.getElem_cons_zero, List.setIfInBounds_toArray, List.set_cons_zero, List.set_cons_succ])
    refine wpL_word (i := 7) (v := ?_) rfl (by kernel_rfl) (fun _ _ _ h => h) (by kernel_rfl) _ _ _ _ (by kernel_rfl) (by kernel_rfl) (Or.inl ⟨by rfl, ?_⟩) (fun _ => HE.out) ?_
    rotate_left
    · intro w' _
      go_simp
      try with_reducible rfl
    (try simp only [Act.put, List.getElem_toArray, List.getElem_cons_succ, List.getElem_cons_zero, List.setIfInBounds_toArray, List.set_cons_zero, List.set_cons_succ])
    refine wpL_word (i := 8) (v := ?_) rfl (by kernel_rfl) (fun _ _ _ h => h) (by kernel_rfl) _ _ _ _ (by kernel_rfl) (by kernel_rfl) (Or.inl ⟨by rfl, ?_⟩) (fun _ => HE.out) ?_
    rotate_left
    · intro w' _
      go_simp
      try with_reducible rfl
    (try simp only [Act.put, List.getElem_toArray, List.getElem_cons_succ, List.getElem_cons_zero, List.setIfInBounds_toArray, List.set_cons_zero, List.set_cons_succ])
    refine wpL_word (i := 9) (v := ?_) rfl (by kernel_rfl) (fun _ _ _ h => h) (by kernel_rfl) _ _ _ _ (by kernel_rfl) (by kernel_rfl) (Or.inl ⟨by rfl, ?_⟩) (fun _ => HE.out) ?_
    rotate_left
    · intro w' _
      go_simp
      try with_reducible rfl
    (try simp only [Act.put, List.getElem_toArray, List.getElem_cons_succ, List.getElem_cons_zero, List.setIfInBounds_toArray, List.set_cons_zero, List.set_cons_succ])
    refine wpL_word (i := 10) (v := ?_) rfl (by kernel_rfl) (fun _ _ _ h => h) (by kernel_rfl) _ _ _ _ (by kernel_rfl) (by kernel_rfl) (Or.inl ⟨by rfl, ?_⟩) (fun _ => HE.out) ?_
    rotate_left
    · intro w' _
      go_simp
      try with_reducible rfl
    (try simp only [Act.put, List.getElem_toArray, List.getElem_cons_succ, List.getElem_cons_zero, List.setIfInBounds_toArray, List.set_cons_zero, List.set_cons_succ])
    refine wpL_load (i := 11) (v := ?_) rfl (by kernel_rfl) (fun _ _ _ h => h) (by kernel_rfl) (by kernel_rfl) _ _ _ _ (by kernel_rfl) (by kernel_rfl) (Or.inl ⟨by rfl, ?_⟩) (by kernel_rfl) HE.out ?_
    rotate_left
    · intro w' hS
      obtain ⟨n1, n2, n3, n4, n5, n6, n7, n8, n9⟩ := FS.out _ hS
      go_simp
      try with_reducible rfl
    (try simp only [Act.put, List.getElem_toArray, List.getElem_cons_succ, List.getElem_cons_zero, List.setIfInBounds_toArray, List.set_cons_zero, List.set_cons_succ])
    refine wpL_next (n := 12) (by kernel_rfl) rfl (fun K' hK => ?_)
    go_simp
    have CK := checkC l gA gB gC w3 wE (κ (SS.out _ HE.out).c)
    unfold cnV at CK
    refine CK.mono ?_
    rintro e wF ⟨rfl, hb⟩
    have HF := κ (HE.out.trans (hb.mono HE.out.size))
    clear hb HE CK
    refine hK.out _ _ HF.out ?_
    clear hK K'
    (try simp only [Act.put, List.getElem_toArray, List.getElem_cons_succ, List.getElem_cons_zero, List.setIfInBounds_toArray, List.set_cons_zero, List.set_cons_succ])
    refine wpL_word (i := 13) (v := ?_) rfl (by kernel_rfl) (fun _ _ _ h => h) (by kernel_rfl) _ _ _ _ (by kernel_rfl) (by kernel_rfl) (Or.inl ⟨by rfl, ?_⟩) (fun _ => HF.out) ?_
    rotate_left
    · intro w' _
      go_simp
      try with_reducible rfl
    (try simp only [Act.put, List.getElem_toArray, List.getElem_cons_succ, List.getElem_cons_zero, List.setIfInBounds_toArray, List.set_cons_zero, List.set_cons_succ])
    refine wpL_word (i := 14) (v := ?_) rfl (by kernel_rfl) (fun _ _ _ h => h) (by kernel_rfl) _ _ _ _ (by kernel_rfl) (by kernel_rfl) (Or.inl ⟨by rfl, ?_⟩) (fun _ => HF.out) ?_
    rotate_left
    · intro w' _
      go_simp
      try with_reducible rfl
    (try simp only [Act.put, List.getElem_toArray, List.getElem_cons_succ, List.getElem_cons_zero, List.setIfInBounds_toArray, List.set_cons_zero, List.set_cons_succ])
    refine wpL_word (i := 15) (v := ?_) rfl (by kernel_rfl) (fun _ _ _ h => h) (by kernel_rfl) _ _ _ _ (by kernel_rfl) (by kernel_rfl) (Or.inl ⟨by rfl, ?_⟩) (fun _ => HF.out) ?_
    rotate_left
    · intro w' _
      go_simp
      try with_reducible rfl
    (try simp only [Act.put, List.getElem_toArray, List.getElem_cons_succ, List.getElem_cons_zero, List.setIfInBounds_toArray, List.set_cons_zero, List.set_cons_succ])
    refine wpL_word (i := 16) (v := ?_) rfl (by kernel_rfl) (fun _ _ _ h => h) (by kernel_rfl) _ _ _ _ (by kernel_rfl) (by kernel_rfl) (Or.inl ⟨by rfl, ?_⟩) (fun _ => HF.out) ?_
    rotate_left
    · intro w' _
      go_simp
      try with_reducible rfl
    (try simp only [Act.put, List.getElem_toArray, List.getElem_cons_succ, List.getElem_cons_zero, List.setIfInBounds_toArray, List.set_cons_zero, List.set_cons_succ])
    refine wpL_load (i := 17) (v := ?_) rfl (by kernel_rfl) (fun _ _ _ h => h) (by kernel_rfl) (by kernel_rfl) _ _ _ _ (by kernel_rfl) (by kernel_rfl) (Or.inl ⟨by rfl, ?_⟩) (by kernel_rfl) HF.out ?_
    rotate_left
    · intro w' hS
      obtain ⟨n1, n2, n3, n4, n5, n6, n7, n8, n9⟩ := FS.out _ hS
      go_simp
      try with_reducible rfl
    (try simp only [Act.put, List.getElem_toArray, List.getElem_cons_succ, List.getElem_cons_zero, List.setIfInBounds_toArray, List.set_cons_zero, List.set_cons_succ])
    refine wpL_word (i := 19) (v := ?_) rfl (by kernel_rfl) (fun _ _ _ h => h) (by kernel_rfl) _ _ _ _ (by kernel_rfl) (by kernel_rfl) (Or.inl ⟨by rfl, ?_⟩) (fun _ => HF.out) ?_
    rotate_left
    · intro w' _
      go_simp
      try with_reducible rfl
    (try simp only [Act.put, List.getElem_toArray, List.getElem_cons_succ, List.getElem_cons_zero, List.setIfInBounds_toArray, List.set_cons_zero, List.set_cons_succ])
    refine wpL_load (i := 20) (v := ?_) rfl (by kernel_rfl) (fun _ _ _ h => h) (by kernel_rfl) (by kernel_rfl) _ _ _ _ (by kernel_rfl) (by kernel_rfl) (Or.inl ⟨by rfl, ?_⟩) (by kernel_rfl) HF.out ?_
    rotate_left
    · intro w' hS
      obtain ⟨n1, n2, n3, n4, n5, n6, n7, n8, n9⟩ := FW.out _ hS
      go_simp
      try with_reducible rfl
    (try simp only [Act.put, List.getElem_toArray, List.getElem_cons_succ, List.getElem_cons_zero, List.setIfInBounds_toArray, List.set_cons_zero, List.set_cons_succ])
    refine wpL_next (n := 18) (by kernel_rfl) rfl (fun K' hK => ?_)
    go_simp
    have CC := lconfig_any l w3 wF gA gB gC (κ (SS.out _ HF.out).c)
    unfold cnV at CC
    refine CC.mono ?_
    rintro e wG ⟨An3, cn3, B5, b5, Cs, cs, rfl, hn3, hi3, hs3, hb⟩
    have HG := κ (HF.out.trans (hb.mono HF.out.size))
    have N3 := κ hn3
    have I3 := κ hi3
    have Y3 := κ hs3
    clear hb HF CC hn3 hi3 hs3
    refine hK.out _ _ HG.out ?_
    clear hK K'
    (try simp only [Act.put, List.getElem_toArray, List.getElem_cons_succ, List.getElem_cons_zero, List.setIfInBounds_toArray, List.set_cons_zero, List.set_cons_succ])
    refine wpL_next (n := 21) (by kernel_rfl) rfl (fun K' hK => ?_)
    go_simp
    have cc := lsame_any (1 + bt l 0 % 3) (bt l 1 % 4) (1 + bt l 2 % 6) (1 + bt l 3 % 6) (cfN l) cfA An3 B5 Cs An (some ⟨gD, 0, none⟩) (some ⟨gY, 0, none⟩) cn3 b5 cs cn 3 2 wG rfl rfl N3 (κ (SS.out _ HG.out).n) I3 (κ ((SS.out _ HG.out).a.rd' rfl)) Y3 (κ ((SS.out _ HG.out).y.rd' rfl))
    refine cc.mono ?_
    rintro e wH ⟨rfl, hb⟩
    have HH := κ (HG.out.trans (hb.mono HG.out.size))
    clear hb HG cc N3 I3 Y3
    refine hK.out _ _ HH.out ?_
    clear hK K'
    (try simp only [Act.put, List.getElem_toArray, List.getElem_cons_succ, List.getElem_cons_zero, List.setIfInBounds_toArray, List.set_cons_zero, List.set_cons_succ])
    refine wpL_word (i := 22) (v := ?_) rfl (by kernel_rfl) (fun _ _ _ h => h) (by kernel_rfl) _ _ _ _ (by kernel_rfl) (by kernel_rfl) (Or.inl ⟨by rfl, ?_⟩) (fun _ => HH.out) ?_
    rotate_left
    · intro w' _
      go_simp
      try with_reducible rfl
    (try simp only [Act.put, List.getElem_toArray, List.getElem_cons_succ, List.getElem_cons_zero, List.setIfInBounds_toArray, List.set_cons_zero, List.set_cons_succ])
    refine wpL_word (i := 23) (v := ?_) rfl (by kernel_rfl) (fun _ _ _ h => h) (by kernel_rfl) _ _ _ _ (by kernel_rfl) (by kernel_rfl) (Or.inl ⟨by rfl, ?_⟩) (fun _ => HH.out) ?_
    rotate_left
    · intro w' _
      go_simp
      try with_reducible rfl
    (try simp only [Act.put, List.getElem_toArray, List.getElem_cons_succ, List.getElem_cons_zero, List.setIfInBounds_toArray, List.set_cons_zero, List.set_cons_succ])
    refine wpL_word (i := 24) (v := ?_) rfl (by kernel_rfl) (fun _ _ _ h => h) (by kernel_rfl) _ _ _ _ (by kernel_rfl) (by kernel_rfl) (Or.inl ⟨by rfl, ?_⟩) (fun _ => HH.out) ?_
    rotate_left
    · intro w' _
      go_simp
      try with_reducible rfl
    (try simp only [Act.put, List.getElem_toArray, List.getElem_cons_succ, List.getElem_cons_zero, List.setIfInBounds_toArray, List.set_cons_zero, List.set_cons_succ])
    refine wpL_word (i := 25) (v := ?_) rfl (by kernel_rfl) (fun _ _ _ h => h) (by kernel_rfl) _ _ _ _ (by kernel_rfl) (by kernel_rfl) (Or.inl ⟨by rfl, ?_⟩) (fun _ => HH.out) ?_
    rotate_left
    · intro w' _
      go_simp
      try with_reducible rfl
    (try simp only [Act.put, List.getElem_toArray, List.getElem_cons_succ, List.getElem_cons_zero, List.setIfInBounds_toArray, List.set_cons_zero, List.set_cons_succ])
    refine wpL_load (i := 26) (v := ?_) rfl (by kernel_rfl) (fun _ _ _ h => h) (by kernel_rfl) (by kernel_rfl) _ _ _ _ (by kernel_rfl) (by kernel_rfl) (Or.inl ⟨by rfl, ?_⟩) (by kernel_rfl) HH.out ?_
    rotate_left
    · intro w' hS
      obtain ⟨n1, n2, n3, n4, n5, n6, n7, n8, n9⟩ := FS.out _ hS
      go_simp
      try with_reducible rfl
    (try simp only [Act.put, List.getElem_toArray, List.getElem_cons_succ, List.getElem_cons_zero, List.setIfInBounds_toArray, List.set_cons_zero, List.set_cons_succ])
    refine wpL_word (i := 27) (v := ?_) rfl (by kernel_rfl) (fun _ _ _ h => h) (by kernel_rfl) _ _ _ _ (by kernel_rfl) (by kernel_rfl) (Or.inl ⟨by rfl, ?_⟩) (fun _ => HH.out) ?_
    rotate_left
    · intro w' _
      go_simp
      try with_reducible rfl
    (try simp only [Act.put, List.getElem_toArray, List.getElem_cons_succ, List.getElem_cons_zero, List.setIfInBounds_toArray, List.set_cons_zero, List.set_cons_succ])
    refine wpL_word (i := 28) (v := ?_) rfl (by kernel_rfl) (fun _ _ _ h => h) (by kernel_rfl) _ _ _ _ (by kernel_rfl) (by kernel_rfl) (Or.inl ⟨by rfl, ?_⟩) (fun _ => HH.out) ?_
    rotate_left
    · intro w' _
      go_simp
      try with_reducible rfl
    (try simp only [Act.put, List.getElem_toArray, List.getElem_cons_succ, List.getElem_cons_zero, List.setIfInBounds_toArray, List.set_cons_zero, List.set_cons_succ])
    refine wpL_word (i := 29) (v := ?_) rfl (by kernel_rfl) (fun _ _ _ h => h) (by kernel_rfl) _ _ _ _ (by kernel_rfl) (by kernel_rfl) (Or.inl ⟨by rfl, ?_⟩) (fun _ => HH.out) ?_
    rotate_left
    · intro w' _
      go_simp
      try with_reducible rfl
    (try simp only [Act.put, List.getElem_toArray, List.getElem_cons_succ, List.getElem_cons_zero, List.setIfInBounds_toArray, List.set_cons_zero, List.set_cons_succ])
    refine wpL_word (i := 30) (v := ?_) rfl (by kernel_rfl) (fun _ _ _ h => h) (by kernel_rfl) _ _ _ _ (by kernel_rfl) (by kernel_rfl) (Or.inl ⟨by rfl, ?_⟩) (fun _ => HH.out) ?_
    rotate_left
    · intro w' _
      go_simp
      try with_reducible rfl
    (try simp only [Act.put, List.getElem_toArray, List.getElem_cons_succ, List.getElem_cons_zero, List.setIfInBounds_toArray, List.set_cons_zero, List.set_cons_succ])
    refine wpL_word (i := 31) (v := ?_) rfl (by kernel_rfl) (fun _ _ _ h => h) (by kernel_rfl) _ _ _ _ (by kernel_rfl) (by kernel_rfl) (Or.inl ⟨by rfl, ?_⟩) (fun _ => HH.out) ?_
    rotate_left
    · intro w' _
      go_simp
      try with_reducible rfl
    (try simp only [Act.put, List.getElem_toArray, List.getElem_cons_succ, List.getElem_cons_zero, List.setIfInBounds_toArray, List.set_cons_zero, List.set_cons_succ])
    refine wpL_load (i := 32) (v := ?_) rfl (by kernel_rfl) (fun _ _ _ h => h) (by kernel_rfl) (by kernel_rfl) _ _ _ _ (by kernel_rfl) (by kernel_rfl) (Or.inl ⟨by rfl, ?_⟩) (by kernel_rfl) HH.out ?_
    rotate_left
    · intro w' hS
      obtain ⟨n1, n2, n3, n4, n5, n6, n7, n8, n9⟩ := FS.out _ hS
      go_simp
      try with_reducible rfl
    (try simp only [Act.put, List.getElem_toArray, List.getElem_cons_succ, List.getElem_cons_zero, List.setIfInBounds_toArray, List.set_cons_zero, List.set_cons_succ])
    refine wpL_word (i := 33) (v := ?_) rfl (by kernel_rfl) (fun _ _ _ h => h) (by kernel_rfl) _ _ _ _ (by kernel_rfl) (by kernel_rfl) (Or.inl ⟨by rfl, ?_⟩) (fun _ => HH.out) ?_
    rotate_left
    · intro w' _
      go_simp
      try with_reducible rfl
    (try simp only [Act.put, List.getElem_toArray, List.getElem_cons_succ, List.getElem_cons_zero, List.setIfInBounds_toArray, List.set_cons_zero, List.set_cons_succ])
    refine wpL_word (i := 34) (v := ?_) rfl (by kernel_rfl) (fun _ _ _ h => h) (by kernel_rfl) _ _ _ _ (by kernel_rfl) (by kernel_rfl) (Or.inl ⟨by rfl, ?_⟩) (fun _ => HH.out) ?_
    rotate_left
    · intro w' _
      go_simp
      try with_reducible rfl
    (try simp only [Act.put, List.getElem_toArray, List.getElem_cons_succ, List.getElem_cons_zero, List.setIfInBounds_toArray, List.set_cons_zero, List.set_cons_succ])
    refine wpL_load (i := 35) (v := ?_) rfl (by kernel_rfl) (fun _ _ _ h => h) (by kernel_rfl) (by kernel_rfl) _ _ _ _ (by kernel_rfl) (by kernel_rfl) (Or.inl ⟨by rfl, ?_⟩) (by kernel_rfl) HH.out ?_
    rotate_left
    · intro w' hS
      obtain ⟨n1, n2, n3, n4, n5, n6, n7, n8, n9⟩ := FW.out _ hS
      go_simp
      try with_reducible rfl
    (try simp only [Act.put, List.getElem_toArray, List.getElem_cons_succ, List.getElem_cons_zero, List.setIfInBounds_toArray, List.set_cons_zero, List.set_cons_succ])
    refine wpL_word (i := 36) (v := ?_) rfl (by kernel_rfl) (fun _ _ _ h => h) (by kernel_rfl) _ _ _ _ (by kernel_rfl) (by kernel_rfl) (Or.inl ⟨by rfl, ?_⟩) (fun _ => HH.out) ?_
    rotate_left
    · intro w' _
      go_simp
      try with_reducible rfl
    (try simp only [Act.put, List.getElem_toArray, List.getElem_cons_succ, List.getElem_cons_zero, List.setIfInBounds_toArray, List.set_cons_zero, List.set_cons_succ])
    refine wpL_word (i := 37) (v := ?_) rfl (by kernel_rfl) (fun _ _ _ h => h) (by kernel_rfl) _ _ _ _ (by kernel_rfl) (by kernel_rfl) (Or.inl ⟨by rfl, ?_⟩) (fun _ => HH.out) ?_
    rotate_left
    · intro w' _
      go_simp
      try with_reducible rfl
    (try simp only [Act.put, List.getElem_toArray, List.getElem_cons_succ, List.getElem_cons_zero, List.setIfInBounds_toArray, List.set_cons_zero, List.set_cons_succ])
    refine wpL_word (i := 38) (v := ?_) rfl (by kernel_rfl) (fun _ _ _ h => h) (by kernel_rfl) _ _ _ _ (by kernel_rfl) (by kernel_rfl) (Or.inl ⟨by rfl, ?_⟩) (fun _ => HH.out) ?_
    rotate_left
    · intro w' _
      go_simp
      try with_reducible rfl
    (try simp only [Act.put, List.getElem_toArray, List.getElem_cons_succ, List.getElem_cons_zero, List.setIfInBounds_toArray, List.set_cons_zero, List.set_cons_succ])
    refine wpL_done (by kernel_rfl) ?_ _
    refine NoPanic.normal ?_
    clear FS FW FT SS
    go_wp2_with fail
    go_meet
    exact ⟨rfl, HH⟩
  case rest =>
    obtain ⟨rfl, H8⟩ := hcut
    rename World => w8
    have S8 := κ (SL.out.below H8.out)
    have v8 := κ (v7.out.trans (H8.out.mono v7.out.size))
    clear SL v7 L7 U5 U6 H8 q1 q2
    have s8 := S8.out.s.cell 8
    have r8 := S8.out.r.cell 8
    have s7 := S8.out.s.cell 7
    have r7 := S8.out.r.cell 7
    simp only [List.getElem?_toArray, List.getElem?_cons_succ, List.getElem?_cons_zero] at s8 r8 s7 r7
    go_wp2_with fail
    go_loopg [6] (l.length - 12) (fun g s6 w' => ∃ (k nq : Nat), k + g = l.length - 12 ∧ s6 = .int .i64 k ∧ w' = w8.drewN nq)
    case atStart => exact ⟨0, 0, by omega, rfl, rfl⟩
    case round =>
      obtain ⟨i, nq, hk, rfl, rfl⟩ := hrel
      by_cases hlt : i < l.length - 12
      · obtain ⟨g, rfl⟩ : ∃ g, gk = g + 1 := ⟨gk - 1, by omega⟩
        have hil : i < (piF l).length := by rw [piF_len]; exact hlt
        obtain ⟨p1, o1, hA1, hb1, hc1⟩ := Ris.at S8.out.p hil
        obtain ⟨p2, o2, hA2, hb2, hc2⟩ := Ris.at S8.out.q hil
        have f1 := hc1 i hil
        have f2 := hc2 i hil
        clear hc1 hc2 hil hb1 hb2
        subst hA1
        subst hA2
        generalize gI (piF l) i = x at f1 f2
        have t0 : ((i : Nat) : Int) < ((l.length - 12 : Nat) : Int) := by omega
        have t1 : (x != x) = false := by simp
        have t2 : (x == x) = true := by simp
        go_wp2_with fail
        go_quiet (fail)
        go_wp2_with fail
        go_roundg g
        case measure => omega
        case rel => exact ⟨i + 1, _, by omega, by go_num, rfl⟩
      · have t0 : ¬ ((i : Nat) : Int) < ((l.length - 12 : Nat) : Int) := by omega
        have vq : Hid (Below w8.heap.size w8 (w8.drewN nq)) := κ (Below.drewN' (Below.refl _ _) nq)
        go_upto_region 13 with fail
        clear s8 r8 s7 r7 t0 hlt
        go_loopg [7] 3 (fun g s7 w' => ∃ (k : Nat), k + g = 3 ∧ s7 = .int .i64 k ∧ Hid (Below w8.heap.size w8 w'))
        case atStart => exact ⟨0, by omega, rfl, vq⟩
        case round =>
          clear vq hk
          obtain ⟨i, hk, rfl, vr⟩ := hrel
          rename World => wr
          have S9 := κ (S8.out.below vr.out)
          have s7 := S9.out.s.cell 7
          have r7 := S9.out.r.cell 7
          simp only [List.getElem?_toArray, List.getElem?_cons_succ, List.getElem?_cons_zero] at s7 r7
          by_cases hlt : i < 3
          · obtain ⟨g, rfl⟩ : ∃ g, gk = g + 1 := ⟨gk - 1, by omega⟩
            have hlti : ((i : Nat) : Int) < 3 := by omega
            have cs := Ls.cell S9.out.ms hlt
            have cr := Ls.cell S9.out.mr hlt
            have CS : Hid (∀ W, Below w8.heap.size w8 W → W.cell? ⟨gS, 7, none⟩ = some (.slice (some ⟨gL, 0, none⟩) 3 3) ∧ W.cell? ⟨gW, 7, none⟩ = some (.slice (some ⟨gM, 0, none⟩) 3 3) ∧ W.cell? ⟨gL, i, none⟩ = some (slV (A1 i) (lsF l (cnF l) i) (a1 i)) ∧ W.cell? ⟨gM, i, none⟩ = some (slV (A2 i) (lsF l (cnF l) i) (a2 i)) ∧ Rd W W.heap.size (A1 i) (mrow (lsF l (cnF l) i)) ∧ Rd W W.heap.size (A2 i) (mrow (lsF l (cnF l) i))) := κ (fun W hb => have h := S8.out.below hb; ⟨h.s.cell 7, h.r.cell 7, Ls.cell h.ms hlt, Ls.cell h.mr hlt, Rd.of_own (h.ms.o i hlt), Rd.of_own (h.mr.o i hlt)⟩)
            unfold slV at cs cr CS
            have hll : Hid ((lsF l (cnF l) i).length ≤ 30) := κ (Nat.le_trans (lsF_len l (cnF l) i) (by unfold cnF; omega))
            generalize A1 i = X1 at cs CS
            generalize a1 i = x1 at cs CS
            generalize A2 i = X2 at cr CS
            generalize a2 i = x2 at cr CS
            generalize lsF l (cnF l) i = ml at cs cr hll CS
            have t1 : (((ml.length : Nat) : Int) != ((ml.length : Nat) : Int)) = false := by simp
            have t2 : (((ml.length : Nat) : Int) == ((ml.length : Nat) : Int)) = true := by simp
            go_upto_region 15 with fail
            go_quiet (fail)
            rename Nat => nz
            have vq : Hid (Below w8.heap.size w8 (wr.drewN nz)) := κ (Below.drewN' vr.out _)
            generalize wr.drewN nz = wq at vq cs cr s7 r7 ⊢
            clear S9 vr
            go_upto_region 18 with fail
            clear cs cr s7 r7 t1 t2
            go_loopg [8] ml.length (fun g s8 w' => ∃ (k : Nat), k + g = ml.length ∧ s8 = .int .i64 k ∧ Hid (Below w8.heap.size w8 w'))
            case atStart => exact ⟨0, by omega, rfl, vq⟩
            case round =>
              clear vq
              obtain ⟨k, hk8, rfl, vr⟩ := hrel
              rename World => wz
              obtain ⟨s7, r7, cs, cr, hx1, hx2⟩ := CS.out _ vr.out
              have hx1 := κ hx1
              have hx2 := κ hx2
              by_cases hlk : k < ml.length
              · obtain ⟨g8, rfl⟩ : ∃ g8, gk = g8 + 1 := ⟨gk - 1, by omega⟩
                have hlki : ((k : Nat) : Int) < ((ml.length : Nat) : Int) := by omega
                obtain ⟨p1, o1, rfl, hb1, hc1⟩ := Ms.at hx1.out (by omega)
                obtain ⟨p2, o2, rfl, hb2, hc2⟩ := Ms.at hx2.out (by omega)
                have f1 := κ (hc1 k hlk)
                have f2 := κ (hc2 k hlk)
                have HB1 := κ hb1
                have HB2 := κ hb2
                clear hc1 hc2 hx1 hx2 hb1 hb2
                go_upto_region 20 with fail
                clear s7 r7 cs cr
                have hne : ∀ W : World, (binOp .neq 50 (mvl (Wbo.gM ml k)) (mvl (Wbo.gM ml k))).run Tryd.prog W = .ok (.bool false) W := fun W => by rw [neQ, eqM_self]; rfl
                have FE : Hid (∀ W, Below wz.heap.size wz W → W.cell? ⟨p1, o1 + k * 12, none⟩ = some (.int .i64 (Wbo.gM ml k).k) ∧ W.cell? ⟨p1, o1 + k * 12 + 1, none⟩ = some (.int .i64 (Wbo.gM ml k).a) ∧ W.cell? ⟨p1, o1 + k * 12 + 2, none⟩ = some (.int .i64 (Wbo.gM ml k).s) ∧ W.cell? ⟨p1, o1 + k * 12 + 3, none⟩ = some (.bool (Wbo.gM ml k).x) ∧ W.cell? ⟨p1, o1 + k * 12 + 4, none⟩ = some (.int .i64 (Wbo.gM ml k).p) ∧ W.cell? ⟨p1, o1 + k * 12 + 5, none⟩ = some (.int .i64 (Wbo.gM ml k).q) ∧ W.cell? ⟨p1, o1 + k * 12 + 6, none⟩ = some (.int .i64 (Wbo.gM ml k).n) ∧ W.cell? ⟨p1, o1 + k * 12 + 7, none⟩ = some (.int .i64 (Wbo.gM ml k).t) ∧ W.cell? ⟨p1, o1 + k * 12 + 8, none⟩ = some (.int .i64 (Wbo.gM ml k).i) ∧ W.cell? ⟨p1, o1 + k * 12 + 9, none⟩ = some (.int .i64 (Wbo.gM ml k).y) ∧ W.cell? ⟨p1, o1 + k * 12 + 10, none⟩ = some (.int .i64 (Wbo.gM ml k).z) ∧ W.cell? ⟨p1, o1 + k * 12 + 11, none⟩ = some (.int .i64 (Wbo.gM ml k).v)) := κ (fun W hb => ⟨(hb.cell (p := ⟨p1, o1 + k * 12, none⟩) HB1.out).trans f1.out.1, (hb.cell (p := ⟨p1, o1 + k * 12 + 1, none⟩) HB1.out).trans f1.out.2.1, (hb.cell (p := ⟨p1, o1 + k * 12 + 2, none⟩) HB1.out).trans f1.out.2.2.1, (hb.cell (p := ⟨p1, o1 + k * 12 + 3, none⟩) HB1.out).trans f1.out.2.2.2.1, (hb.cell (p := ⟨p1, o1 + k * 12 + 4, none⟩) HB1.out).trans f1.out.2.2.2.2.1, (hb.cell (p := ⟨p1, o1 + k * 12 + 5, none⟩) HB1.out).trans f1.out.2.2.2.2.2.1, (hb.cell (p := ⟨p1, o1 + k * 12 + 6, none⟩) HB1.out).trans f1.out.2.2.2.2.2.2.1, (hb.cell (p := ⟨p1, o1 + k * 12 + 7, none⟩) HB1.out).trans f1.out.2.2.2.2.2.2.2.1, (hb.cell (p := ⟨p1, o1 + k * 12 + 8, none⟩) HB1.out).trans f1.out.2.2.2.2.2.2.2.2.1, (hb.cell (p := ⟨p1, o1 + k * 12 + 9, none⟩) HB1.out).trans f1.out.2.2.2.2.2.2.2.2.2.1, (hb.cell (p := ⟨p1, o1 + k * 12 + 10, none⟩) HB1.out).trans f1.out.2.2.2.2.2.2.2.2.2.2.1, (hb.cell (p := ⟨p1, o1 + k * 12 + 11, none⟩) HB1.out).trans f1.out.2.2.2.2.2.2.2.2.2.2.2⟩)
                have FG : Hid (∀ W, Below wz.heap.size wz W → W.cell? ⟨p2, o2 + k * 12, none⟩ = some (.int .i64 (Wbo.gM ml k).k) ∧ W.cell? ⟨p2, o2 + k * 12 + 1, none⟩ = some (.int .i64 (Wbo.gM ml k).a) ∧ W.cell? ⟨p2, o2 + k * 12 + 2, none⟩ = some (.int .i64 (Wbo.gM ml k).s) ∧ W.cell? ⟨p2, o2 + k * 12 + 3, none⟩ = some (.bool (Wbo.gM ml k).x) ∧ W.cell? ⟨p2, o2 + k * 12 + 4, none⟩ = some (.int .i64 (Wbo.gM ml k).p) ∧ W.cell? ⟨p2, o2 + k * 12 + 5, none⟩ = some (.int .i64 (Wbo.gM ml k).q) ∧ W.cell? ⟨p2, o2 + k * 12 + 6, none⟩ = some (.int .i64 (Wbo.gM ml k).n) ∧ W.cell? ⟨p2, o2 + k * 12 + 7, none⟩ = some (.int .i64 (Wbo.gM ml k).t) ∧ W.cell? ⟨p2, o2 + k * 12 + 8, none⟩ = some (.int .i64 (Wbo.gM ml k).i) ∧ W.cell? ⟨p2, o2 + k * 12 + 9, none⟩ = some (.int .i64 (Wbo.gM ml k).y) ∧ W.cell? ⟨p2, o2 + k * 12 + 10, none⟩ = some (.int .i64 (Wbo.gM ml k).z) ∧ W.cell? ⟨p2, o2 + k * 12 + 11, none⟩ = some (.int .i64 (Wbo.gM ml k).v)) := κ (fun W hb => ⟨(hb.cell (p := ⟨p2, o2 + k * 12, none⟩) HB2.out).trans f2.out.1, (hb.cell (p := ⟨p2, o2 + k * 12 + 1, none⟩) HB2.out).trans f2.out.2.1, (hb.cell (p := ⟨p2, o2 + k * 12 + 2, none⟩) HB2.out).trans f2.out.2.2.1, (hb.cell (p := ⟨p2, o2 + k * 12 + 3, none⟩) HB2.out).trans f2.out.2.2.2.1, (hb.cell (p := ⟨p2, o2 + k * 12 + 4, none⟩) HB2.out).trans f2.out.2.2.2.2.1, (hb.cell (p := ⟨p2, o2 + k * 12 + 5, none⟩) HB2.out).trans f2.out.2.2.2.2.2.1, (hb.cell (p := ⟨p2, o2 + k * 12 + 6, none⟩) HB2.out).trans f2.out.2.2.2.2.2.2.1, (hb.cell (p := ⟨p2, o2 + k * 12 + 7, none⟩) HB2.out).trans f2.out.2.2.2.2.2.2.2.1, (hb.cell (p := ⟨p2, o2 + k * 12 + 8, none⟩) HB2.out).trans f2.out.2.2.2.2.2.2.2.2.1, (hb.cell (p := ⟨p2, o2 + k * 12 + 9, none⟩) HB2.out).trans f2.out.2.2.2.2.2.2.2.2.2.1, (hb.cell (p := ⟨p2, o2 + k * 12 + 10, none⟩) HB2.out).trans f2.out.2.2.2.2.2.2.2.2.2.2.1, (hb.cell (p := ⟨p2, o2 + k * 12 + 11, none⟩) HB2.out).trans f2.out.2.2.2.2.2.2.2.2.2.2.2⟩)
                have FC : Hid (∀ W, Below wz.heap.size wz W → W.cell? ⟨gS, 7, none⟩ = some (.slice (some ⟨gL, 0, none⟩) 3 3) ∧ W.cell? ⟨gW, 7, none⟩ = some (.slice (some ⟨gM, 0, none⟩) 3 3) ∧ W.cell? ⟨gL, i, none⟩ = some (.slice (some ⟨p1, o1, none⟩) ml.length x1) ∧ W.cell? ⟨gM, i, none⟩ = some (.slice (some ⟨p2, o2, none⟩) ml.length x2)) := κ (fun W hb => have h := CS.out W (vr.out.trans (hb.mono vr.out.size)); ⟨h.1, h.2.1, h.2.2.1, h.2.2.2.1⟩)
                clear f1 f2
                generalize Wbo.gM ml k = mm at FE FG hne
                obtain ⟨q0, q1, q2, q3, q4, q5, q6, q7, q8, q9, q10, q11⟩ := mm
                unfold mvl at hne
                have FR := fun (W : World) => from_any ⟨q0, q1, q2, q3, q4, q5, q6, q7, q8, q9, q10, q11⟩ W
                unfold mvl at FR
                refine wp_region_noPanic ?_
                refine wp_region_L (T := (fun w' => Below wz.heap.size wz w')) (st := []) (by kernel_rfl) ?_
                have HT : Hid (Below wz.heap.size wz wz.drew) := κ (Below.refl _ _).drew
                have FR := κ FR
                generalize wz.drew = wD at HT ⊢
                refine wpL_word (i := 0) (v := ?_) rfl (by kernel_rfl) (fun _ _ _ h => h) (by kernel_rfl) _ _ _ _ (by kernel_rfl) (by kernel_rfl) (Or.inl ⟨by rfl, ?_⟩) (fun _ => HT.out) ?_
                rotate_left
                · intro w' _
                  go_simp
                  try with_reducible rfl
                (try simp only [Act.put, List.getElem_toArray, List.getElem_cons_succ, List.getElem_cons_zero, List.setIfInBounds_toArray, List.set_cons_zero, List.set_cons_succ])
                refine wpL_load (i := 1) (v := ?_) rfl (by kernel_rfl) (fun _ _ _ h => h) (by kernel_rfl) (by kernel_rfl) _ _ _ _ (by kernel_rfl) (by kernel_rfl) (Or.inl ⟨by rfl, ?_⟩) (by kernel_rfl) HT.out ?_
                rotate_left
                · intro w' hS
                  obtain ⟨n1, n2, n3, n4⟩ := FC.out _ hS
                  go_simp
                  try with_reducible rfl
                (try simp only [Act.put, List.getElem_toArray, List.getElem_cons_succ, List.getElem_cons_zero, List.setIfInBounds_toArray, List.set_cons_zero, List.set_cons_succ])
                refine wpL_word (i := 2) (v := ?_) rfl (by kernel_rfl) (fun _ _ _ h => h) (by kernel_rfl) _ _ _ _ (by kernel_rfl) (by kernel_rfl) (Or.inl ⟨by rfl, ?_⟩) (fun _ => HT.out) ?_
                rotate_left
                · intro w' _
                  go_simp
                  try with_reducible rfl
                (try simp only [Act.put, List.getElem_toArray, List.getElem_cons_succ, List.getElem_cons_zero, List.setIfInBounds_toArray, List.set_cons_zero, List.set_cons_succ])
                refine wpL_word (i := 3) (v := ?_) rfl (by kernel_rfl) (fun _ _ _ h => h) (by kernel_rfl) _ _ _ _ (by kernel_rfl) (by kernel_rfl) (Or.inl ⟨by rfl, ?_⟩) (fun _ => HT.out) ?_
                rotate_left
                · intro w' _
                  go_simp
                  try with_reducible rfl
                (try simp only [Act.put, List.getElem_toArray, List.getElem_cons_succ, List.getElem_cons_zero, List.setIfInBounds_toArray, List.set_cons_zero, List.set_cons_succ])
                refine wpL_load (i := 4) (v := ?_) rfl (by kernel_rfl) (fun _ _ _ h => h) (by kernel_rfl) (by kernel_rfl) _ _ _ _ (by kernel_rfl) (by kernel_rfl) (Or.inl ⟨by rfl, ?_⟩) (by kernel_rfl) HT.out ?_
                rotate_left
                · intro w' hS
                  obtain ⟨n1, n2, n3, n4⟩ := FC.out _ hS
                  go_simp
                  try with_reducible rfl
                (try simp only [Act.put, List.getElem_toArray, List.getElem_cons_succ, List.getElem_cons_zero, List.setIfInBounds_toArray, List.set_cons_zero, List.set_cons_succ])
                refine wpL_word (i := 5) (v := ?_) rfl (by kernel_rfl) (fun _ _ _ h => h) (by kernel_rfl) _ _ _ _ (by kernel_rfl) (by kernel_rfl) (Or.inl ⟨by rfl, ?_⟩) (fun _ => HT.out) ?_
                rotate_left
                · intro w' _
                  go_simp
                  try with_reducible rfl
                (try simp only [Act.put, List.getElem_toArray, List.getElem_cons_succ, List.getElem_cons_zero, List.setIfInBounds_toArray, List.set_cons_zero, List.set_cons_succ])
                refine wpL_word (i := 6) (v := ?_) rfl (by kernel_rfl) (fun _ _ _ h => h) (by kernel_rfl) _ _ _ _ (by kernel_rfl) (by kernel_rfl) (Or.inl ⟨by rfl, ?_⟩) (fun _ => HT.out) ?_
                rotate_left
                · intro w' _
                  go_simp
                  try with_reducible rfl
                (try simp only [Act.put, List.getElem_toArray, List.getElem_cons_succ, List.getElem_cons_zero, List.setIfInBounds_toArray, List.set_cons_zero, List.set_cons_succ])
                refine wpL_load (i := 7) (v := ?_) rfl (by kernel_rfl) (fun _ _ _ h => h) (by kernel_rfl) (by kernel_rfl) _ _ _ _ (by kernel_rfl) (by kernel_rfl) (Or.inl ⟨by rfl, ?_⟩) (by kernel_rfl) HT.out ?_
                rotate_left
                · intro w' hS
                  obtain ⟨n0, n1, n2, n3, n4, n5, n6, n7, n8, n9, n10, n11⟩ := FE.out _ hS
                  go_simp
                  try with_reducible rfl
                (try simp only [Act.put, List.getElem_toArray, List.getElem_cons_succ, List.getElem_cons_zero, List.setIfInBounds_toArray, List.set_cons_zero, List.set_cons_succ])
                refine wpL_word (i := 9) (v := ?_) rfl (by kernel_rfl) (fun _ _ _ h => h) (by kernel_rfl) _ _ _ _ (by kernel_rfl) (by kernel_rfl) (Or.inl ⟨by rfl, ?_⟩) (fun _ => HT.out) ?_
                rotate_left
                · intro w' _
                  go_simp
                  try with_reducible rfl
                (try simp only [Act.put, List.getElem_toArray, List.getElem_cons_succ, List.getElem_cons_zero, List.setIfInBounds_toArray, List.set_cons_zero, List.set_cons_succ])
                refine wpL_load (i := 10) (v := ?_) rfl (by kernel_rfl) (fun _ _ _ h => h) (by kernel_rfl) (by kernel_rfl) _ _ _ _ (by kernel_rfl) (by kernel_rfl) (Or.inl ⟨by rfl, ?_⟩) (by kernel_rfl) HT.out ?_
                rotate_left
                · intro w' hS
                  obtain ⟨n1, n2, n3, n4⟩ := FC.out _ hS
                  go_simp
                  try with_reducible rfl
                (try simp only [Act.put, List.getElem_toArray, List.getElem_cons_succ, List.getElem_cons_zero, List.setIfInBounds_toArray, List.set_cons_zero, List.set_cons_succ])
                refine wpL_word (i := 11) (v := ?_) rfl (by kernel_rfl) (fun _ _ _ h => h) (by kernel_rfl) _ _ _ _ (by kernel_rfl) (by kernel_rfl) (Or.inl ⟨by rfl, ?_⟩) (fun _ => HT.out) ?_
                rotate_left
                · intro w' _
                  go_simp
                  try with_reducible rfl
                (try simp only [Act.put, List.getElem_toArray, List.getElem_cons_succ, List.getElem_cons_zero, List.setIfInBounds_toArray, List.set_cons_zero, List.set_cons_succ])
                refine wpL_word (i := 12) (v := ?_) rfl (by kernel_rfl) (fun _ _ _ h => h) (by kernel_rfl) _ _ _ _ (by kernel_rfl) (by kernel_rfl) (Or.inl ⟨by rfl, ?_⟩) (fun _ => HT.out) ?_
                rotate_left
                · intro w' _
                  go_simp
                  try with_reducible rfl
                (try simp only [Act.put, List.getElem_toArray, List.getElem_cons_succ, List.getElem_cons_zero, List.setIfInBounds_toArray, List.set_cons_zero, List.set_cons_succ])
                refine wpL_load (i := 13) (v := ?_) rfl (by kernel_rfl) (fun _ _ _ h => h) (by kernel_rfl) (by kernel_rfl) _ _ _ _ (by kernel_rfl) (by kernel_rfl) (Or.inl ⟨by rfl, ?_⟩) (by kernel_rfl) HT.out ?_
                rotate_left
                · intro w' hS
                  obtain ⟨n1, n2, n3, n4⟩ := FC.out _ hS
                  go_simp
                  try with_reducible rfl
                (try simp only [Act.put, List.getElem_toArray, List.getElem_cons_succ, List.getElem_cons_zero, List.setIfInBounds_toArray, List.set_cons_zero, List.set_cons_succ])
                refine wpL_word (i := 14) (v := ?_) rfl (by kernel_rfl) (fun _ _ _ h => h) (by kernel_rfl) _ _ _ _ (by kernel_rfl) (by kernel_rfl) (Or.inl ⟨by rfl, ?_⟩) (fun _ => HT.out) ?_
                rotate_left
                · intro w' _
                  go_simp
                  try with_reducible rfl
                (try simp only [Act.put, List.getElem_toArray, List.getElem_cons_succ, List.getElem_cons_zero, List.setIfInBounds_toArray, List.set_cons_zero, List.set_cons_succ])
                refine wpL_word (i := 15) (v := ?_) rfl (by kernel_rfl) (fun _ _ _ h => h) (by kernel_rfl) _ _ _ _ (by kernel_rfl) (by kernel_rfl) (Or.inl ⟨by rfl, ?_⟩) (fun _ => HT.out) ?_
                rotate_left
                · intro w' _
                  go_simp
                  try with_reducible rfl
                (try simp only [Act.put, List.getElem_toArray, List.getElem_cons_succ, List.getElem_cons_zero, List.setIfInBounds_toArray, List.set_cons_zero, List.set_cons_succ])
                refine wpL_load (i := 16) (v := ?_) rfl (by kernel_rfl) (fun _ _ _ h => h) (by kernel_rfl) (by kernel_rfl) _ _ _ _ (by kernel_rfl) (by kernel_rfl) (Or.inl ⟨by rfl, ?_⟩) (by kernel_rfl) HT.out ?_
                rotate_left
                · intro w' hS
                  obtain ⟨n0, n1, n2, n3, n4, n5, n6, n7, n8, n9, n10, n11⟩ := FG.out _ hS
                  go_simp
                  try with_reducible rfl
                (try simp only [Act.put, List.getElem_toArray, List.getElem_cons_succ, List.getElem_cons_zero, List.setIfInBounds_toArray, List.set_cons_zero, List.set_cons_succ])
                refine wpL_next (n := 8) (by kernel_rfl) rfl (fun K' hK => ?_)
                go_simp
                refine (FR.out wD).mono ?_
                rintro e wE ⟨rfl, hb⟩
                have HE := κ (HT.out.trans (hb.mono HT.out.size))
                unfold mvl
                refine hK.out _ _ HE.out ?_
                clear hK K' hb
                (try simp only [Act.put, List.getElem_toArray, List.getElem_cons_succ, List.getElem_cons_zero, List.setIfInBounds_toArray, List.set_cons_zero, List.set_cons_succ])
                clear FE FG FC FR HT
                refine wpL_word (i := 17) (v := ?_) rfl (by kernel_rfl) (fun _ _ _ h => h) (by kernel_rfl) _ _ _ _ (by kernel_rfl) (by kernel_rfl) (Or.inl ⟨by rfl, ?_⟩) (fun _ => HE.out) ?_
                rotate_left
                · intro w' _
                  go_simp
                  try with_reducible rfl
                (try simp only [Act.put, List.getElem_toArray, List.getElem_cons_succ, List.getElem_cons_zero, List.setIfInBounds_toArray, List.set_cons_zero, List.set_cons_succ])
                refine wpL_done (by kernel_rfl) ?_ _
                refine NoPanic.normal ?_
                have vs := κ (vr.out.trans (HE.out.mono vr.out.size))
                have ek : wrap64 ((k : Int) + 1) = (k : Int) + 1 := by have := hll.out; unfold wrap64; omega
                clear hne HE vr hlki HB1 HB2
                go_wp2_with fail
                go_roundg g8
                case measure => omega
                case rel => exact ⟨k + 1, by omega, by first | (rw [ek, Int.natCast_add]; rfl) | (rw [Int.natCast_add]; rfl), vs⟩
              · have hlki : ¬ ((k : Nat) : Int) < ((ml.length : Nat) : Int) := by omega
                have ei : wrap64 ((i : Int) + 1) = (i : Int) + 1 := by unfold wrap64; omega
                clear CS hx1 hx2
                go_wp2_with fail
                go_roundg g
                case measure => omega
                case rel => exact ⟨i + 1, by omega, by first | (rw [ei, Int.natCast_add]; rfl) | (rw [Int.natCast_add]; rfl), vr⟩
          · have hlti : ¬ ((i : Nat) : Int) < 3 := by omega
            have vf := κ (v8.out.trans (vr.out.mono v8.out.size))
            go_wp2_with fail
            go_ret
            exact ⟨rfl, vf.out⟩
end Lsr
end Go.Proofs.YtmjkhejfhpgiiaaDoor
