/- The contract of credit.Release: whether it is done, and the State, are as the plain functions say. Condition: the State is one that may be, each node behind the one that it hangs on. -/
import Derived.Test.YtlipkggcakgcnaaRes
namespace Go.Proofs.Ytlipkggcakgcnaa.Rel
set_option maxRecDepth 100000
open Go.ChangeShapes Go.WideShapes Go.ChangeAt Go.RowKit Mem Tre Ref3 Law3 Fix3 Crd CrdB CrdC Cpl Own Res
set_option linter.unusedVariables false

def MadeRel (l : List (Int × Int)) (u : List Int) (b : Bool) (w : World) (e : Ending) (w' : World) : Prop :=
  ∃ A c A' c', e = .returned (.tuple #[.agg #[.slice A l.length c, .slice A' u.length c'], .bool b]) ∧ Nds w' w'.heap.size A l ∧ Ris w' w'.heap.size A' u ∧ Below w.heap.size w w'
theorem madeRel_mk {l : List (Int × Int)} {u u' : List Int} {b b' : Bool} {A A' : Option Addr} {c c' : Nat} {w w' : World} (hu : u = u') (hp : b = b') (h1 : Nds w' w'.heap.size A l) (h2 : Ris w' w'.heap.size A' u') (hb : Below w.heap.size w w') :
    MadeRel l u b w (.returned (.tuple #[.agg #[.slice A l.length c, .slice A' u'.length c'], .bool b'])) w' := by
  subst hu; subst hp; exact ⟨A, c, A', c', rfl, h1, h2, hb⟩
theorem relF_0 {l : List (Int × Int)} {u : List Int} {n x : Int} (h : (pathF l 3 n).length = 0) : relF l u n x = false := by unfold relF; simp [h]
theorem relF_m {l : List (Int × Int)} {u : List Int} {n x : Int} (h : x < 0) : relF l u n x = false := by
  unfold relF
  have : decide (0 ≤ x) = false := by simp; omega
  simp [this]
theorem relF_no {l : List (Int × Int)} {u : List Int} {n x : Int} {i : Nat} (hi : i < (pathF l 3 n).length) (h : gI u (gI (pathF l 3 n) i).toNat < x) : relF l u n x = false := by
  have : ((pathF l 3 n).all fun m => decide (x ≤ gI u m.toNat)) = false := by
    rw [List.all_eq_false]
    refine ⟨(pathF l 3 n)[i], List.getElem_mem hi, ?_⟩
    simp [gI, hi] at h ⊢
    exact h
  unfold relF
  rw [this, Bool.and_false]
theorem relF_t {l : List (Int × Int)} {u : List Int} {n x : Int} (h0 : 0 < (pathF l 3 n).length) (hx : 0 ≤ x) (h : ∀ i, i < (pathF l 3 n).length → x ≤ gI u (gI (pathF l 3 n) i).toNat) : relF l u n x = true := by
  have : ((pathF l 3 n).all fun m => decide (x ≤ gI u m.toNat)) = true := by
    rw [List.all_eq_true]
    intro m hm
    obtain ⟨i, hi, rfl⟩ := List.getElem_of_mem hm
    have := h i hi
    simp [gI, hi] at this
    simpa [gI] using this
  unfold relF
  rw [this]
  simp [h0, hx]

set_option maxHeartbeats 1000000 in
theorem release_any (A A' : Option Addr) (c c' : Nat) (l : List (Int × Int)) (u : List Int) (n x : Int) (w : World) (hl : Hid (Nds w w.heap.size A l)) (hu : Hid (Ris w w.heap.size A' u)) (hg : GoodSt l u) (hn : inI n) (hx0 : -9223372036854775808 ≤ x) (hx1 : x ≤ 9223372036854775807) :
    Calls Try.prog 21 #[.agg #[.slice A l.length c, .slice A' u.length c'], .int .i64 n, .int .i64 x] w (MadeRel l (relU l u n x) (relF l u n x) w) := by
  have hr := Lib.hid hg.right
  have hw := Lib.hid hg.wf
  have hwu := Lib.hid hg.wfi
  have g1 := hg.few
  have g2 : (l.length : Int) ≤ 32 := by omega
  have g3 : (u.length : Int) ≤ 32 := by rw [hg.len]; omega
  have HG := Lib.hid hg
  obtain ⟨P, hP⟩ : ∃ P, P = pathF l 3 n := ⟨_, rfl⟩
  have HP := Lib.hid hP
  have p1 : P.length ≤ 3 := by rw [hP]; exact path_le3 _ _ _
  clear hP hg
  go_enter Try.func21, Try.ntmps21
  go_wp2_with fail
  refine (start_own A A' c c' l u w hl hu g2 g3).mono ?_
  rintro e w1 ⟨A1, c1, A2, c2, rfl, hpre⟩
  have f0 : w1.cell? ⟨w.heap.size, 0, none⟩ = some (.slice A l.length c) := hpre.k3.cell 0
  have f1 : w1.cell? ⟨w.heap.size, 1, none⟩ = some (.slice A' u.length c') := hpre.k3.cell 1
  have z0 : w1.frozen? ⟨w.heap.size, 0, none⟩ = false := hpre.k3.thaw 0
  have z1 : w1.frozen? ⟨w.heap.size, 1, none⟩ = false := hpre.k3.thaw 1
  have how := Lib.hid hpre.store
  clear hpre hl hu
  go_wp2_with fail
  generalize (w1.setCell ⟨w.heap.size, 0, none⟩ (.slice A1 l.length c1)).setCell ⟨w.heap.size, 1, none⟩ (.slice A2 u.length c2) = W2 at how ⊢
  clear f0 f1 z0 z1
  refine (pathOf_any A1 A2 c1 c2 l u n W2 (Rd.of_own how.out.o1) (Rd.of_own how.out.o2) hw hwu (by omega) (by omega) hn hr.out).mono ?_
  rintro e W3 ⟨A3, c3, rfl, hr3, hf3, hb3⟩
  have HF3 := Lib.hid hf3
  have hob : Hid (W2.ownsRow (w.heap.size + 2) 2 1 (.slice A2 u.length c2) u.length (ints u)) := how.out.o2
  have hsz2 : w.heap.size + 2 ≤ W2.heap.size := how.out.k6.lt
  rw [← HP.out] at hr3 ⊢
  have HR := Lib.hid hr3
  have how3 := Lib.hid (how.out.below hb3)
  clear how hr3 hb3 hf3
  have f0 : W3.cell? ⟨w.heap.size, 0, none⟩ = some (.slice A1 l.length c1) := how3.out.k3.cell 0
  have f1 : W3.cell? ⟨w.heap.size, 1, none⟩ = some (.slice A2 u.length c2) := how3.out.k3.cell 1
  have r0 : W3.cell? ⟨w.heap.size + 1, 0, none⟩ = some (.slice none 0 0) := how3.out.k6.cell 0
  have r1 : W3.cell? ⟨w.heap.size + 1, 1, none⟩ = some (.slice none 0 0) := how3.out.k6.cell 1
  have y0 : W3.frozen? ⟨w.heap.size + 1, 0, none⟩ = false := how3.out.k6.thaw 0
  have y1 : W3.frozen? ⟨w.heap.size + 1, 1, none⟩ = false := how3.out.k6.thaw 1
  have fin := fun (hu' : relU l u n x = u) (hb' : relF l u n x = false) => (fin_st how3.out.o1 how3.out.o2 how3.out.k6 (by omega) (by omega) how3.out.bl (.slice A1 l.length c1) (.slice A2 u.length c2))
  obtain ⟨t1, t2, t3, t4, t5⟩ := fin_st how3.out.o1 how3.out.o2 how3.out.k6 (by omega) (by omega) how3.out.bl (.slice A1 l.length c1) (.slice A2 u.length c2)
  have T1 := Lib.hid t1
  have T2 := Lib.hid t2
  clear fin t1 t2
  by_cases hp0 : P.length = 0
  · have q0 : ((P.length : Int) == 0) = true := beq_iff_eq.2 (by omega)
    have hres : Hid (relF l u n x = false) := relF_0 (by rw [← HP.out]; exact hp0)
    have hresu : Hid (relU l u n x = u) := by show _ = _; rw [relU, hres.out]; rfl
    clear hp0
    go_wp2_with fail
    exact bodyPost_ret (v := .tuple #[.agg #[.slice A1 l.length c1, .slice A2 u.length c2], .bool false]) (by simp [results, Try.results21, go_sem, t4, t5]) rfl (madeRel_mk hresu.out hres.out T1.out T2.out t3)
  have q0 : ((P.length : Int) == 0) = false := beq_eq_false_iff_ne.2 (by omega)
  by_cases hx : x < 0
  · have hres : Hid (relF l u n x = false) := relF_m hx
    have hresu : Hid (relU l u n x = u) := by show _ = _; rw [relU, hres.out]; rfl
    clear hp0
    go_wp2_with fail
    exact bodyPost_ret (v := .tuple #[.agg #[.slice A1 l.length c1, .slice A2 u.length c2], .bool false]) (by simp [results, Try.results21, go_sem, t4, t5]) rfl (madeRel_mk hresu.out hres.out T1.out T2.out t3)
  have hxf : decide (x < 0) = false := by simp; omega
  have happ : Hid (Apart u.length P) := by rw [HP.out]; exact apart_path HG.out.okt HG.out.len n
  have hp1 : 0 < P.length := by omega
  clear hp0
  go_wp2_with fail
  have ho2b := fun k hk => (World.ownsRow.lt hob.out k hk).2
  obtain ⟨g2, rfl, hg2a, hg2b, _, hc2, hs2⟩ := own_at how3.out.o2 (by rw [HG.out.len]; have := HG.out.one; omega)
  obtain ⟨h1, rfl, hg1a, hg1b, _, hc1, hs1⟩ := own_at2 how3.out.o1 (by have := HG.out.one; omega)
  have hg2w : g2 < W2.heap.size := ho2b g2 rfl
  have HC2 := Lib.hid hc2
  clear ho2b hc1 hc2 hs1 hs2
  go_loopg [28] P.length (fun g s28 w' => ∃ k : Nat, k + g = P.length ∧ s28 = .int .i64 k ∧ Hid (∀ i, i < k → x ≤ gI u (gI P i).toNat) ∧ W3 = w')
  case atStart => exact ⟨0, by omega, rfl, fun i hi => absurd hi (Nat.not_lt_zero i), rfl⟩
  case round =>
    obtain ⟨k, hk, rfl, hall, rfl⟩ := hrel
    by_cases hlt : (k : Int) < (P.length : Int)
    · obtain ⟨g, rfl⟩ : ∃ g, gk = g + 1 := ⟨gk - 1, by omega⟩
      have hm := happ.out.1 k (by omega)
      obtain ⟨m, hmm⟩ : ∃ m, m = gI P k := ⟨_, rfl⟩
      have HM := Lib.hid hmm
      rw [← hmm] at hm
      obtain ⟨hm0, hm1⟩ := hm
      obtain ⟨b, o, rfl, hb, hcc⟩ := Ris.at (i := k) HR.out (by omega)
      have d0 := hcc k (by omega)
      rw [← hmm] at d0
      have d1 := (HC2.out m.toNat (by omega)).1
      have hu1 := HG.out.uok m.toNat (by omega)
      obtain ⟨hu1a, hu1b⟩ := hu1
      clear hcc hmm
      by_cases hfit : gI u m.toNat < x
      · have hres : Hid (relF l u n x = false) := relF_no (i := k) (by rw [← HP.out]; omega) (by rw [← HP.out, ← HM.out]; exact hfit)
        have hresu : Hid (relU l u n x = u) := by show _ = _; rw [relU, hres.out]; rfl
        go_wp2_with fail
        exact bodyPost_ret (v := .tuple #[.agg #[.slice (some ⟨h1, 0, none⟩) l.length c1, .slice (some ⟨g2, 0, none⟩) u.length c2], .bool false]) (by simp [results, Try.results21, go_sem, t4, t5]) rfl (madeRel_mk hresu.out hres.out T1.out T2.out t3)
      · have hall' : Hid (∀ i, i < k + 1 → x ≤ gI u (gI P i).toNat) := fun i hi => by
          by_cases e : i = k
          · subst e; rw [← HM.out]; omega
          · exact hall.out i (by omega)
        go_wp2_with fail
        go_roundg g
        case measure => omega
        case rel => exact ⟨k + 1, by omega, by go_num, hall', rfl⟩
    · have hc0 : Hid (relF l u n x = true) := relF_t (by rw [← HP.out]; exact hp1) (by omega) (fun i hi => by rw [← HP.out] at hi ⊢; exact hall.out i (by omega))
      have hcu : Hid (relU l u n x = addF u P (-x)) := by
        show _ = _
        rw [relU, hc0.out, if_pos rfl, ← HP.out]
      have hokx : Hid (∀ i, i < P.length → x ≤ gI u (gI P i).toNat) := fun i hi => hall.out i (by omega)
      clear f0 f1 r0 r1 y0 y1 T1 T2 t3 t4 t5
      go_wp2_with fail
      go_loopg [43] P.length (fun g s67 w' => ∃ k : Nat, k + g = P.length ∧ s67 = .int .i64 k ∧ Hid (Owned w w' (some ⟨h1, 0, none⟩) (some ⟨g2, 0, none⟩) c1 c2 l (addF u (P.take k) (-x))) ∧ Hid (Ris w' w'.heap.size A3 P))
      case atStart => exact ⟨0, by omega, rfl, by rw [List.take_zero, addF_nil]; exact how3, HR⟩
      case round =>
        obtain ⟨k, hk, rfl, how, HR⟩ := hrel
        have f0 : wr.cell? ⟨w.heap.size, 0, none⟩ = some (.slice (some ⟨h1, 0, none⟩) l.length c1) := how.out.k3.cell 0
        have f1 : wr.cell? ⟨w.heap.size, 1, none⟩ = some (.slice (some ⟨g2, 0, none⟩) u.length c2) := by
          have := how.out.k3.cell 1
          rw [addF_len] at this
          exact this
        by_cases hlt : (k : Int) < (P.length : Int)
        · obtain ⟨g, rfl⟩ : ∃ g, gk = g + 1 := ⟨gk - 1, by omega⟩
          have hm := happ.out.1 k (by omega)
          have hox := hokx.out k (by omega)
          have hat := addF_at (x := -x) happ.out (show k < P.length by omega)
          have hstep := addF_step (x := -x) happ.out (show k < P.length by omega)
          obtain ⟨m, hmm⟩ : ∃ m, m = gI P k := ⟨_, rfl⟩
          rw [← hmm] at hm hox hat hstep
          obtain ⟨hm0, hm1⟩ := hm
          obtain ⟨b, o, rfl, hb, hcc⟩ := Ris.at (i := k) HR.out (by omega)
          have d0 := hcc k (by omega)
          rw [← hmm] at d0
          have hml : m.toNat < l.length := by rw [← HG.out.len]; omega
          have hml' : m < u.length := by omega
          obtain ⟨g2', hg2', hg2c, hg2d, _, hc2, hs2⟩ := own_at how.out.o2 (by rw [addF_len]; omega)
          obtain rfl : g2 = g2' := by injection hg2' with e; injection e
          have hcm := hc2 m.toNat (by rw [addF_len]; omega)
          rw [hat] at hcm
          obtain ⟨d1, d2⟩ := hcm
          have hsm := hs2 m.toNat (gI u m.toNat - x) (by rw [addF_len]; omega)
          rw [Int.sub_eq_add_neg, hstep] at hsm
          have hu1 := HG.out.uok m.toNat (by omega)
          have hl1 := HG.out.okt m.toNat hml
          obtain ⟨hu1a, hu1b⟩ := hu1
          obtain ⟨_, _, hl1a, hl1b, _⟩ := hl1
          have how' : Hid (Owned w (wr.setCell ⟨g2, m.toNat, none⟩ (.int .i64 (gI u m.toNat - x))) (some ⟨h1, 0, none⟩) (some ⟨g2, 0, none⟩) c1 c2 l (addF u (P.take (k + 1)) (-x))) := by
            refine ⟨own_other how.out.o1 how.out.o2 (by decide) _ _, ?_, ?_, blk_far how.out.k6 (by simp; omega) _, how.out.bl.setCell (by simp; omega) _⟩
            · rw [addF_len] at hsm ⊢
              exact hsm
            · have := blk_far how.out.k3 (p := ⟨g2, m.toNat, none⟩) (by simp; omega) (.int .i64 (gI u m.toNat - x))
              rw [addF_len] at this ⊢
              exact this
          have HR' : Hid (Ris (wr.setCell ⟨g2, m.toNat, none⟩ (.int .i64 (gI u m.toNat - x))) (wr.setCell ⟨g2, m.toNat, none⟩ (.int .i64 (gI u m.toNat - x))).heap.size (some ⟨b, o, none⟩) P) := by
            refine HR.out.keep' (g := g2) (by omega) ?_ _
            intro a ha
            have := HF3.out a ha
            omega
          clear hcc hmm hat hstep hc2 hs2 hsm
          go_wp2_with fail
          go_roundg g
          case measure => omega
          case rel => exact ⟨k + 1, by omega, by go_num, how', HR'⟩
        · have hfin : Hid (Owned w wr (some ⟨h1, 0, none⟩) (some ⟨g2, 0, none⟩) c1 c2 l (addF u P (-x))) := by
            have : k = P.length := by omega
            subst this
            rw [addF_full] at how
            exact how
          have hlen : Hid ((addF u P (-x)).length = u.length) := addF_len _ _ _
          obtain ⟨t1, t2, t3, t4, t5⟩ := fin_st hfin.out.o1 hfin.out.o2 hfin.out.k6 (by omega) (by omega) hfin.out.bl (.slice (some ⟨h1, 0, none⟩) l.length c1) (.slice (some ⟨g2, 0, none⟩) u.length c2)
          have T1 := Lib.hid t1
          have T2 := Lib.hid t2
          have r0 : wr.cell? ⟨w.heap.size + 1, 0, none⟩ = some (.slice none 0 0) := hfin.out.k6.cell 0
          have r1 : wr.cell? ⟨w.heap.size + 1, 1, none⟩ = some (.slice none 0 0) := hfin.out.k6.cell 1
          have y0 : wr.frozen? ⟨w.heap.size + 1, 0, none⟩ = false := hfin.out.k6.thaw 0
          have y1 : wr.frozen? ⟨w.heap.size + 1, 1, none⟩ = false := hfin.out.k6.thaw 1
          have hend := Lib.hid (madeRel_mk (c := c1) (c' := c2) hcu.out hc0.out T1.out T2.out t3)
          rw [hlen.out] at hend
          clear t1 t2
          go_wp2_with fail
          exact bodyPost_ret (v := .tuple #[.agg #[.slice (some ⟨h1, 0, none⟩) l.length c1, .slice (some ⟨g2, 0, none⟩) u.length c2], .bool true]) (by simp [results, Try.results21, go_sem, t4, t5]) rfl hend.out
end Go.Proofs.Ytlipkggcakgcnaa.Rel
