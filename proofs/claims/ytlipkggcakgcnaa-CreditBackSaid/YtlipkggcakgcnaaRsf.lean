/- The contract of credit.Reserve once more, with where its answer lies: in new blocks. Condition: as there. -/
import Derived.Test.YtlipkggcakgcnaaRes
namespace Go.Proofs.Ytlipkggcakgcnaa.Rsf
set_option maxRecDepth 100000
open Go.ChangeShapes Go.WideShapes Go.ChangeAt Go.RowKit Mem Tre Ref3 Law3 Fix3 Crd CrdB CrdC Cpl Own Res
set_option linter.unusedVariables false

def MadeResF (l : List (Int × Int)) (u : List Int) (p : Int × Int) (w : World) (e : Ending) (w' : World) : Prop :=
  ∃ A c A' c', e = .returned (.tuple #[.agg #[.slice A l.length c, .slice A' u.length c'], .int .i64 p.1, .int .i64 p.2]) ∧ Nds w' w'.heap.size A l ∧ Ris w' w'.heap.size A' u ∧ Below w.heap.size w w' ∧
    (∀ a, A = some a → w.heap.size ≤ a.block) ∧ (∀ a, A' = some a → w.heap.size ≤ a.block)
theorem madeResF_mk {l : List (Int × Int)} {u u' : List Int} {p : Int × Int} {a b : Int} {A A' : Option Addr} {c c' : Nat} {w w' : World} (fa : ∀ a, A = some a → w.heap.size ≤ a.block) (fb : ∀ a, A' = some a → w.heap.size ≤ a.block) (hu : u = u') (hp : p = (a, b)) (h1 : Nds w' w'.heap.size A l) (h2 : Ris w' w'.heap.size A' u') (hb : Below w.heap.size w w') :
    MadeResF l u p w (.returned (.tuple #[.agg #[.slice A l.length c, .slice A' u'.length c'], .int .i64 a, .int .i64 b])) w' := by
  subst hu; subst hp; exact ⟨A, c, A', c', rfl, h1, h2, hb, fa, fb⟩
theorem own_fresh {w : World} {base : Nat} {e : TypeId} {size n c : Nat} {A : Option Addr} {xs : List Value} (h : w.ownsRow base e size (.slice A n c) n xs) (a : Addr) (ha : A = some a) : base ≤ a.block := by
  rcases h.2 with ⟨hv, _⟩ | ⟨g, cap, cur, hv, hg, _⟩
  · injection hv with hA
    rw [ha] at hA
    cases hA
  · injection hv with hA
    rw [ha] at hA
    injection hA with hA
    subst hA
    exact hg

set_option maxHeartbeats 1000000 in
theorem reserve_fresh (A A' : Option Addr) (c c' : Nat) (l : List (Int × Int)) (u : List Int) (n x : Int) (w : World) (hl : Hid (Nds w w.heap.size A l)) (hu : Hid (Ris w w.heap.size A' u)) (hg : GoodSt l u) (hn : inI n) (hx0 : -9223372036854775808 ≤ x) (hx1 : x ≤ 9223372036854775807) :
    Calls Try.prog 19 #[.agg #[.slice A l.length c, .slice A' u.length c'], .int .i64 n, .int .i64 x] w (MadeResF l (resU l u n x) (resF l u n x) w) := by
  have hr := Lib.hid hg.right
  have hw := Lib.hid hg.wf
  have hwu := Lib.hid hg.wfi
  have g1 := hg.few
  have g2 : (l.length : Int) ≤ 32 := by omega
  have g3 : (u.length : Int) ≤ 32 := by rw [hg.len]; omega
  have HG := Lib.hid hg
  obtain ⟨P, hP⟩ : ∃ P, P = pathF l 3 n := ⟨_, rfl⟩
  have HP := Lib.hid hP
  have p1 : P.length ≤ 3 := by rw [hP]; exact path_le3 _ _ _
  clear hP hg
  go_enter Try.func19, Try.ntmps19
  go_wp2_with fail
  refine (start_own A A' c c' l u w hl hu g2 g3).mono ?_
  rintro e w1 ⟨A1, c1, A2, c2, rfl, hpre⟩
  have f0 : w1.cell? ⟨w.heap.size, 0, none⟩ = some (.slice A l.length c) := hpre.k3.cell 0
  have f1 : w1.cell? ⟨w.heap.size, 1, none⟩ = some (.slice A' u.length c') := hpre.k3.cell 1
  have z0 : w1.frozen? ⟨w.heap.size, 0, none⟩ = false := hpre.k3.thaw 0
  have z1 : w1.frozen? ⟨w.heap.size, 1, none⟩ = false := hpre.k3.thaw 1
  have how := Lib.hid hpre.store
  have FA : Hid (∀ a, A1 = some a → w.heap.size ≤ a.block) := fun a h => by have := own_fresh hpre.o1 a h; omega
  have FB : Hid (∀ a, A2 = some a → w.heap.size ≤ a.block) := fun a h => by have := own_fresh hpre.o2 a h; omega
  clear hpre hl hu
  go_wp2_with fail
  generalize (w1.setCell ⟨w.heap.size, 0, none⟩ (.slice A1 l.length c1)).setCell ⟨w.heap.size, 1, none⟩ (.slice A2 u.length c2) = W2 at how ⊢
  clear f0 f1 z0 z1
  refine (pathOf_any A1 A2 c1 c2 l u n W2 (Rd.of_own how.out.o1) (Rd.of_own how.out.o2) hw hwu (by omega) (by omega) hn hr.out).mono ?_
  rintro e W3 ⟨A3, c3, rfl, hr3, hf3, hb3⟩
  have HF3 := Lib.hid hf3
  have hob : Hid (W2.ownsRow (w.heap.size + 2) 2 1 (.slice A2 u.length c2) u.length (ints u)) := how.out.o2
  have hsz2 : w.heap.size + 2 ≤ W2.heap.size := how.out.k6.lt
  rw [← HP.out] at hr3 ⊢
  have HR := Lib.hid hr3
  have how3 := Lib.hid (how.out.below hb3)
  clear how hr3 hb3 hf3
  have f0 : W3.cell? ⟨w.heap.size, 0, none⟩ = some (.slice A1 l.length c1) := how3.out.k3.cell 0
  have f1 : W3.cell? ⟨w.heap.size, 1, none⟩ = some (.slice A2 u.length c2) := how3.out.k3.cell 1
  have r0 : W3.cell? ⟨w.heap.size + 1, 0, none⟩ = some (.slice none 0 0) := how3.out.k6.cell 0
  have r1 : W3.cell? ⟨w.heap.size + 1, 1, none⟩ = some (.slice none 0 0) := how3.out.k6.cell 1
  have y0 : W3.frozen? ⟨w.heap.size + 1, 0, none⟩ = false := how3.out.k6.thaw 0
  have y1 : W3.frozen? ⟨w.heap.size + 1, 1, none⟩ = false := how3.out.k6.thaw 1
  by_cases hp0 : P.length = 0
  · have q0 : ((P.length : Int) == 0) = true := beq_iff_eq.2 (by omega)
    have hres : Hid (resF l u n x = (18, -1)) := by show _ = _; rw [resF, ← HP.out, if_pos hp0]
    have hresu : Hid (resU l u n x = u) := by show _ = _; rw [resU, hres.out]; rfl
    obtain ⟨t1, t2, t3, t4, t5⟩ := fin_st how3.out.o1 how3.out.o2 how3.out.k6 (by omega) (by omega) how3.out.bl (.slice A1 l.length c1) (.slice A2 u.length c2)
    have T1 := Lib.hid t1
    have T2 := Lib.hid t2
    clear hp0 t1 t2
    go_wp2_with fail
    exact bodyPost_ret (v := .tuple #[.agg #[.slice A1 l.length c1, .slice A2 u.length c2], .int .i64 18, .int .i64 (-1)]) (by simp [results, Try.results19, go_sem, t4, t5]) rfl (madeResF_mk FA.out FB.out hresu.out hres.out T1.out T2.out t3)
  have q0 : ((P.length : Int) == 0) = false := beq_eq_false_iff_ne.2 (by omega)
  by_cases hx : x < 0
  · have hres : Hid (resF l u n x = (1, -1)) := by show _ = _; rw [resF, ← HP.out, if_neg hp0, if_pos hx]
    have hresu : Hid (resU l u n x = u) := by show _ = _; rw [resU, hres.out]; rfl
    obtain ⟨t1, t2, t3, t4, t5⟩ := fin_st how3.out.o1 how3.out.o2 how3.out.k6 (by omega) (by omega) how3.out.bl (.slice A1 l.length c1) (.slice A2 u.length c2)
    have T1 := Lib.hid t1
    have T2 := Lib.hid t2
    clear hp0 t1 t2
    go_wp2_with fail
    exact bodyPost_ret (v := .tuple #[.agg #[.slice A1 l.length c1, .slice A2 u.length c2], .int .i64 1, .int .i64 (-1)]) (by simp [results, Try.results19, go_sem, t4, t5]) rfl (madeResF_mk FA.out FB.out hresu.out hres.out T1.out T2.out t3)
  have hres : Hid (resF l u n x = resS l u x P 12) := by show _ = _; rw [resF, ← HP.out, if_neg hp0, if_neg hx]
  have how4 := Lib.hid (how3.out.below ((Below.refl _ _).alloc (Nat.le_refl _) (.cells #[.int .i64 12, .int .i64 13, .int .i64 14] 123)))
  have HR4 : Hid (Ris (W3.alloc (.cells #[.int .i64 12, .int .i64 13, .int .i64 14] 123)) (W3.alloc (.cells #[.int .i64 12, .int .i64 13, .int .i64 14] 123)).heap.size A3 P) := Rd.below' HR.out ((Below.refl _ _).alloc (Nat.le_refl _) _) (by simp)
  have KR : Hid (Blk (W3.alloc (.cells #[.int .i64 12, .int .i64 13, .int .i64 14] 123)) W3.heap.size 123 #[.int .i64 12, .int .i64 13, .int .i64 14]) := Blk.fresh _ _ _
  have hxf : decide (x < 0) = false := by simp; omega
  have happ : Hid (Apart u.length P) := by rw [HP.out]; exact apart_path HG.out.okt HG.out.len n
  clear hp0 f0 f1 r0 r1 y0 y1
  go_wp2_with fail
  generalize W3.alloc (.cells #[.int .i64 12, .int .i64 13, .int .i64 14] 123) = W4 at how4 HR4 KR ⊢
  have hgR : w.heap.size + 1 < W3.heap.size := how3.out.k6.lt
  generalize W3.heap.size = gR at KR hgR ⊢
  have f0 : W4.cell? ⟨w.heap.size, 0, none⟩ = some (.slice A1 l.length c1) := how4.out.k3.cell 0
  have f1 : W4.cell? ⟨w.heap.size, 1, none⟩ = some (.slice A2 u.length c2) := how4.out.k3.cell 1
  have ho2b := fun k hk => (World.ownsRow.lt hob.out k hk).2
  obtain ⟨g2, rfl, hg2a, hg2b, _, hc2, hs2⟩ := own_at how4.out.o2 (by rw [HG.out.len]; have := HG.out.one; omega)
  obtain ⟨h1, rfl, hg1a, hg1b, _, hc1, hs1⟩ := own_at2 how4.out.o1 (by have := HG.out.one; omega)
  have hg2w : g2 < W2.heap.size := ho2b g2 rfl
  have HC1 := Lib.hid hc1
  have HC2 := Lib.hid hc2
  clear ho2b
  have HS2 := Lib.hid hs2
  clear hc1 hc2 hs1 hs2
  go_loopg [32] P.length (fun g s32 w' => ∃ k : Nat, k + g = P.length ∧ s32 = .int .i64 k ∧ Hid (resS l u x (P.drop k) (12 + k) = resS l u x P 12) ∧ W4 = w')
  case atStart => exact ⟨0, by omega, rfl, rfl, rfl⟩
  case round =>
    obtain ⟨k, hk, rfl, hall, rfl⟩ := hrel
    by_cases hlt : (k : Int) < (P.length : Int)
    · obtain ⟨g, rfl⟩ : ∃ g, gk = g + 1 := ⟨gk - 1, by omega⟩
      have hm := happ.out.1 k (by omega)
      obtain ⟨m, hmm⟩ : ∃ m, m = gI P k := ⟨_, rfl⟩
      have HM := Lib.hid hmm
      rw [← hmm] at hm
      obtain ⟨hm0, hm1⟩ := hm
      obtain ⟨b, o, rfl, hb, hcc⟩ := Ris.at (i := k) HR4.out (by omega)
      have d0 := hcc k (by omega)
      rw [← hmm] at d0
      have hml : m.toNat < l.length := by rw [← HG.out.len]; omega
      have hml' : m < l.length := by omega
      have d1 := (HC2.out m.toNat (by omega)).1
      have d2 := (HC1.out m.toNat hml).2.1
      have hu1 := HG.out.uok m.toNat (by omega)
      have hl1 := HG.out.okt m.toNat hml
      obtain ⟨hu1a, hu1b⟩ := hu1
      obtain ⟨_, _, hl1a, hl1b, _⟩ := hl1
      clear hcc hmm
      by_cases hfit : nC l m.toNat - gI u m.toNat < x
      · have hres' : Hid (resF l u n x = (12 + (k : Int), m)) := by
          show _ = _
          rw [hres.out, ← hall.out, resS_no (by omega) (by rw [← HM.out]; exact hfit), HM.out]
        have hresu : Hid (resU l u n x = u) := by
          show _ = _
          rw [resU, hres'.out, if_neg (by show ¬ (12 + (k : Int)) = 0; omega)]
        obtain ⟨t1, t2, t3, t4, t5⟩ := fin_st how4.out.o1 how4.out.o2 how4.out.k6 (by omega) (by omega) how4.out.bl (.slice (some ⟨h1, 0, none⟩) l.length c1) (.slice (some ⟨g2, 0, none⟩) u.length c2)
        have T1 := Lib.hid t1
        have T2 := Lib.hid t2
        have r0 : W4.cell? ⟨w.heap.size + 1, 0, none⟩ = some (.slice none 0 0) := how4.out.k6.cell 0
        have r1 : W4.cell? ⟨w.heap.size + 1, 1, none⟩ = some (.slice none 0 0) := how4.out.k6.cell 1
        have y0 : W4.frozen? ⟨w.heap.size + 1, 0, none⟩ = false := how4.out.k6.thaw 0
        have y1 : W4.frozen? ⟨w.heap.size + 1, 1, none⟩ = false := how4.out.k6.thaw 1
        have hk3 : (k : Int) < 3 := by omega
        have hk3' : k < 3 := by omega
        have e0 : W4.cell? ⟨gR, k, none⟩ = some (.int .i64 (12 + (k : Int))) := by
          rw [KR.out.cell]
          have : k = 0 ∨ k = 1 ∨ k = 2 := by omega
          rcases this with rfl | rfl | rfl <;> rfl
        have e1 : ((W4.setCell ⟨w.heap.size + 1, 0, none⟩ (.slice (some ⟨h1, 0, none⟩) l.length c1)).setCell ⟨w.heap.size + 1, 1, none⟩ (.slice (some ⟨g2, 0, none⟩) u.length c2)).cell? ⟨gR, k, none⟩ = some (.int .i64 (12 + (k : Int))) := by
          rw [(blk_far (blk_far KR.out (p := ⟨w.heap.size + 1, 0, none⟩) (by simp; omega) _) (p := ⟨w.heap.size + 1, 1, none⟩) (by simp; omega) _).cell, ← KR.out.cell]
          exact e0
        clear t1 t2
        by_cases hbig : gI u m.toNat + x ≤ 9223372036854775807
        · have i1 : inB (gI u m.toNat + x) = true := inB_t (by omega) hbig
          have i2 : numV (gI u m.toNat + x) = gI u m.toNat + x := numV_t i1
          go_wp2_with (go_at_call 56; refine (add_any _ _ _ (by omega) (by omega) (by omega) (by omega)).mono ?_; rintro e w' ⟨rfl, rfl⟩)
          go_region
          all_goals
            go_wp2_with fail
            exact bodyPost_ret (v := .tuple #[.agg #[.slice (some ⟨h1, 0, none⟩) l.length c1, .slice (some ⟨g2, 0, none⟩) u.length c2], .int .i64 (12 + (k : Int)), .int .i64 m]) (by simp [results, Try.results19, go_sem, t4, t5]) rfl (madeResF_mk FA.out FB.out hresu.out hres'.out T1.out T2.out t3.drew)
        · have i1 : inB (gI u m.toNat + x) = false := inB_f (by omega)
          go_wp2_with (go_at_call 56; refine (add_any _ _ _ (by omega) (by omega) (by omega) (by omega)).mono ?_; rintro e w' ⟨rfl, rfl⟩)
          go_region
          all_goals
            go_wp2_with fail
            exact bodyPost_ret (v := .tuple #[.agg #[.slice (some ⟨h1, 0, none⟩) l.length c1, .slice (some ⟨g2, 0, none⟩) u.length c2], .int .i64 (12 + (k : Int)), .int .i64 m]) (by simp [results, Try.results19, go_sem, t4, t5]) rfl (madeResF_mk FA.out FB.out hresu.out hres'.out T1.out T2.out t3.drew)
      · have i1 : inB (gI u m.toNat + x) = true := inB_t (by omega) (by omega)
        have i2 : numV (gI u m.toNat + x) = gI u m.toNat + x := numV_t i1
        have hall' : Hid (resS l u x (P.drop (k + 1)) (12 + ((k + 1 : Nat) : Int)) = resS l u x P 12) := by
          show _ = _
          have hgo := resS_go (l := l) (u := u) (p := P) (x := x) (c := 12 + (k : Int)) (k := k) (by omega) (by rw [← HM.out]; exact hfit)
          rw [← hall.out, hgo]
          congr 1
        go_wp2_with (go_at_call 56; refine (add_any _ _ _ (by omega) (by omega) (by omega) (by omega)).mono ?_; rintro e w' ⟨rfl, rfl⟩)
        go_roundg g
        case measure => omega
        case rel => exact ⟨k + 1, by omega, by go_num, hall', rfl⟩
    · have hc0 : Hid (resF l u n x = (0, -1)) := by
        show _ = _
        rw [hres.out, ← hall.out, show k = P.length by omega]; exact resS_end
      have hcu : Hid (resU l u n x = addF u P x) := by
        show _ = _
        rw [resU, hc0.out, if_pos rfl, ← HP.out]
      have hokx : Hid (∀ i, i < P.length → x ≤ nC l (gI P i).toNat - gI u (gI P i).toNat) := by
        have h1 : (resS l u x P 12).1 = 0 := by rw [← hres.out, hc0.out]
        exact resS_ok P 12 (by decide) h1
      go_wp2_with fail
      go_loopg [67] P.length (fun g s67 w' => ∃ k : Nat, k + g = P.length ∧ s67 = .int .i64 k ∧ Hid (Owned w w' (some ⟨h1, 0, none⟩) (some ⟨g2, 0, none⟩) c1 c2 l (addF u (P.take k) x)) ∧ Hid (Ris w' w'.heap.size A3 P))
      case atStart => exact ⟨0, by omega, rfl, by rw [List.take_zero, addF_nil]; exact how4, HR4⟩
      case round =>
        obtain ⟨k, hk, rfl, how, HR⟩ := hrel
        have f0 : wr.cell? ⟨w.heap.size, 0, none⟩ = some (.slice (some ⟨h1, 0, none⟩) l.length c1) := how.out.k3.cell 0
        have f1 : wr.cell? ⟨w.heap.size, 1, none⟩ = some (.slice (some ⟨g2, 0, none⟩) u.length c2) := by
          have := how.out.k3.cell 1
          rw [addF_len] at this
          exact this
        by_cases hlt : (k : Int) < (P.length : Int)
        · obtain ⟨g, rfl⟩ : ∃ g, gk = g + 1 := ⟨gk - 1, by omega⟩
          have hm := happ.out.1 k (by omega)
          have hox := hokx.out k (by omega)
          have hat := addF_at (x := x) happ.out (show k < P.length by omega)
          have hstep := addF_step (x := x) happ.out (show k < P.length by omega)
          obtain ⟨m, hmm⟩ : ∃ m, m = gI P k := ⟨_, rfl⟩
          rw [← hmm] at hm hox hat hstep
          obtain ⟨hm0, hm1⟩ := hm
          obtain ⟨b, o, rfl, hb, hcc⟩ := Ris.at (i := k) HR.out (by omega)
          have d0 := hcc k (by omega)
          rw [← hmm] at d0
          have hml : m.toNat < l.length := by rw [← HG.out.len]; omega
          have hml' : m < u.length := by omega
          obtain ⟨g2', hg2', hg2c, hg2d, _, hc2, hs2⟩ := own_at how.out.o2 (by rw [addF_len]; omega)
          obtain rfl : g2 = g2' := by injection hg2' with e; injection e
          have hcm := hc2 m.toNat (by rw [addF_len]; omega)
          rw [hat] at hcm
          obtain ⟨d1, d2⟩ := hcm
          have hsm := hs2 m.toNat (gI u m.toNat + x) (by rw [addF_len]; omega)
          rw [hstep] at hsm
          have hu1 := HG.out.uok m.toNat (by omega)
          have hl1 := HG.out.okt m.toNat hml
          obtain ⟨hu1a, hu1b⟩ := hu1
          obtain ⟨_, _, hl1a, hl1b, _⟩ := hl1
          have how' : Hid (Owned w (wr.setCell ⟨g2, m.toNat, none⟩ (.int .i64 (gI u m.toNat + x))) (some ⟨h1, 0, none⟩) (some ⟨g2, 0, none⟩) c1 c2 l (addF u (P.take (k + 1)) x)) := by
            refine ⟨own_other how.out.o1 how.out.o2 (by decide) _ _, ?_, ?_, blk_far how.out.k6 (by simp; omega) _, how.out.bl.setCell (by simp; omega) _⟩
            · rw [addF_len] at hsm ⊢
              exact hsm
            · have := blk_far how.out.k3 (p := ⟨g2, m.toNat, none⟩) (by simp; omega) (.int .i64 (gI u m.toNat + x))
              rw [addF_len] at this ⊢
              exact this
          have HR' : Hid (Ris (wr.setCell ⟨g2, m.toNat, none⟩ (.int .i64 (gI u m.toNat + x))) (wr.setCell ⟨g2, m.toNat, none⟩ (.int .i64 (gI u m.toNat + x))).heap.size (some ⟨b, o, none⟩) P) := by
            refine HR.out.keep' (g := g2) (by omega) ?_ _
            intro a ha
            have := HF3.out a ha
            omega
          clear hcc hmm hat hstep hc2 hs2 hsm
          go_wp2_with fail
          go_roundg g
          case measure => omega
          case rel => exact ⟨k + 1, by omega, by go_num, how', HR'⟩
        · have hfin : Hid (Owned w wr (some ⟨h1, 0, none⟩) (some ⟨g2, 0, none⟩) c1 c2 l (addF u P x)) := by
            have : k = P.length := by omega
            subst this
            rw [addF_full] at how
            exact how
          have hlen : Hid ((addF u P x).length = u.length) := addF_len _ _ _
          obtain ⟨t1, t2, t3, t4, t5⟩ := fin_st hfin.out.o1 hfin.out.o2 hfin.out.k6 (by omega) (by omega) hfin.out.bl (.slice (some ⟨h1, 0, none⟩) l.length c1) (.slice (some ⟨g2, 0, none⟩) u.length c2)
          have T1 := Lib.hid t1
          have T2 := Lib.hid t2
          have r0 : wr.cell? ⟨w.heap.size + 1, 0, none⟩ = some (.slice none 0 0) := hfin.out.k6.cell 0
          have r1 : wr.cell? ⟨w.heap.size + 1, 1, none⟩ = some (.slice none 0 0) := hfin.out.k6.cell 1
          have y0 : wr.frozen? ⟨w.heap.size + 1, 0, none⟩ = false := hfin.out.k6.thaw 0
          have y1 : wr.frozen? ⟨w.heap.size + 1, 1, none⟩ = false := hfin.out.k6.thaw 1
          have hend := Lib.hid (madeResF_mk (c := c1) (c' := c2) FA.out FB.out hcu.out hc0.out T1.out T2.out t3)
          rw [hlen.out] at hend
          clear t1 t2
          go_wp2_with fail
          exact bodyPost_ret (v := .tuple #[.agg #[.slice (some ⟨h1, 0, none⟩) l.length c1, .slice (some ⟨g2, 0, none⟩) u.length c2], .int .i64 0, .int .i64 (-1)]) (by simp [results, Try.results19, go_sem, t4, t5]) rfl hend.out
end Go.Proofs.Ytlipkggcakgcnaa.Rsf
