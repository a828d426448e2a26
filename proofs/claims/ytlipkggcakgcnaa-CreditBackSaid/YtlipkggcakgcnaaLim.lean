/- The contract of credit.Limit: the code and the State are as the plain functions say. Condition: the State is one that may be, each node behind the one that it hangs on. -/
import Derived.Test.YtlipkggcakgcnaaRes
namespace Go.Proofs.Ytlipkggcakgcnaa.Lim
set_option maxRecDepth 100000
open Go.ChangeShapes Go.WideShapes Go.ChangeAt Go.RowKit Mem Tre Ref3 Law3 Fix3 Crd CrdB CrdC Cpl Own Res
set_option linter.unusedVariables false

def MadeLim (l : List (Int × Int)) (u : List Int) (b : Int) (w : World) (e : Ending) (w' : World) : Prop :=
  ∃ A c A' c', e = .returned (.tuple #[.agg #[.slice A l.length c, .slice A' u.length c'], .int .i64 b]) ∧ Nds w' w'.heap.size A l ∧ Ris w' w'.heap.size A' u ∧ Below w.heap.size w w'
theorem madeLim_mk {l l' : List (Int × Int)} {u : List Int} {b b' : Int} {A A' : Option Addr} {c c' : Nat} {w w' : World} (hu : l = l') (hp : b = b') (h1 : Nds w' w'.heap.size A l') (h2 : Ris w' w'.heap.size A' u) (hb : Below w.heap.size w w') :
    MadeLim l u b w (.returned (.tuple #[.agg #[.slice A l'.length c, .slice A' u.length c'], .int .i64 b'])) w' := by
  subst hu; subst hp; exact ⟨A, c, A', c', rfl, h1, h2, hb⟩

set_option maxHeartbeats 1000000 in
theorem limit_any (A A' : Option Addr) (c c' : Nat) (l : List (Int × Int)) (u : List Int) (n x : Int) (w : World) (hl : Hid (Nds w w.heap.size A l)) (hu : Hid (Ris w w.heap.size A' u)) (hg : GoodSt l u) (hn : inI n) (hx0 : -9223372036854775808 ≤ x) (hx1 : x ≤ 9223372036854775807) :
    Calls Try.prog 23 #[.agg #[.slice A l.length c, .slice A' u.length c'], .int .i64 n, .int .i64 x] w (MadeLim (limL l n x) u (limF l n x) w) := by
  have hr := Lib.hid hg.right
  have hw := Lib.hid hg.wf
  have hwu := Lib.hid hg.wfi
  have g1 := hg.few
  have g2 : (l.length : Int) ≤ 32 := by omega
  have g3 : (u.length : Int) ≤ 32 := by rw [hg.len]; omega
  have HG := Lib.hid hg
  obtain ⟨P, hP⟩ : ∃ P, P = pathF l 3 n := ⟨_, rfl⟩
  have HP := Lib.hid hP
  have p1 : P.length ≤ 3 := by rw [hP]; exact path_le3 _ _ _
  clear hP hg
  go_enter Try.func23, Try.ntmps23
  go_wp2_with fail
  refine (start_own A A' c c' l u w hl hu g2 g3).mono ?_
  rintro e w1 ⟨A1, c1, A2, c2, rfl, hpre⟩
  have f0 : w1.cell? ⟨w.heap.size, 0, none⟩ = some (.slice A l.length c) := hpre.k3.cell 0
  have f1 : w1.cell? ⟨w.heap.size, 1, none⟩ = some (.slice A' u.length c') := hpre.k3.cell 1
  have z0 : w1.frozen? ⟨w.heap.size, 0, none⟩ = false := hpre.k3.thaw 0
  have z1 : w1.frozen? ⟨w.heap.size, 1, none⟩ = false := hpre.k3.thaw 1
  have how := Lib.hid hpre.store
  clear hpre hl hu
  go_wp2_with fail
  generalize (w1.setCell ⟨w.heap.size, 0, none⟩ (.slice A1 l.length c1)).setCell ⟨w.heap.size, 1, none⟩ (.slice A2 u.length c2) = W2 at how ⊢
  clear f0 f1 z0 z1
  refine (pathOf_any A1 A2 c1 c2 l u n W2 (Rd.of_own how.out.o1) (Rd.of_own how.out.o2) hw hwu (by omega) (by omega) hn hr.out).mono ?_
  rintro e W3 ⟨A3, c3, rfl, hr3, hf3, hb3⟩
  have HF3 := Lib.hid hf3
  have hob : Hid (W2.ownsRow (w.heap.size + 2) 2 1 (.slice A2 u.length c2) u.length (ints u)) := how.out.o2
  have hsz2 : w.heap.size + 2 ≤ W2.heap.size := how.out.k6.lt
  rw [← HP.out] at hr3 ⊢
  have HR := Lib.hid hr3
  have how3 := Lib.hid (how.out.below hb3)
  clear how hr3 hb3 hf3
  have f0 : W3.cell? ⟨w.heap.size, 0, none⟩ = some (.slice A1 l.length c1) := how3.out.k3.cell 0
  have f1 : W3.cell? ⟨w.heap.size, 1, none⟩ = some (.slice A2 u.length c2) := how3.out.k3.cell 1
  have r0 : W3.cell? ⟨w.heap.size + 1, 0, none⟩ = some (.slice none 0 0) := how3.out.k6.cell 0
  have r1 : W3.cell? ⟨w.heap.size + 1, 1, none⟩ = some (.slice none 0 0) := how3.out.k6.cell 1
  have y0 : W3.frozen? ⟨w.heap.size + 1, 0, none⟩ = false := how3.out.k6.thaw 0
  have y1 : W3.frozen? ⟨w.heap.size + 1, 1, none⟩ = false := how3.out.k6.thaw 1
  by_cases hp0 : P.length = 0
  · have q0 : ((P.length : Int) == 0) = true := beq_iff_eq.2 (by omega)
    have hout : inR l.length n = false := (path_none n).1 (by rw [← HP.out]; exact hp0)
    have hres : Hid (limF l n x = 18) := by show _ = _; rw [limF, hout]; rfl
    have hresu : Hid (limL l n x = l) := by show _ = _; rw [limL, hres.out]; rfl
    obtain ⟨t1, t2, t3, t4, t5⟩ := fin_st how3.out.o1 how3.out.o2 how3.out.k6 (by omega) (by omega) how3.out.bl (.slice A1 l.length c1) (.slice A2 u.length c2)
    have T1 := Lib.hid t1
    have T2 := Lib.hid t2
    clear t1 t2 hp0 hout
    go_wp2_with fail
    exact bodyPost_ret (v := .tuple #[.agg #[.slice A1 l.length c1, .slice A2 u.length c2], .int .i64 18]) (by simp [results, Try.results23, go_sem, t4, t5]) rfl (madeLim_mk hresu.out hres.out T1.out T2.out t3)
  have q0 : ((P.length : Int) == 0) = false := beq_eq_false_iff_ne.2 (by omega)
  have hin : Hid (inR l.length n = true) := by
    show _ = _
    cases hh : inR l.length n with
    | true => rfl
    | false => exact absurd (by rw [HP.out]; exact (path_none n).2 hh) hp0
  obtain ⟨hn0, hn1⟩ := inR_of hin.out
  clear hp0
  by_cases hx : x < 0 ∨ 4611686018427387904 < x
  · have hres : Hid (limF l n x = 1) := by show _ = _; rw [limF, if_pos hin.out, if_pos hx]
    have hresu : Hid (limL l n x = l) := by show _ = _; rw [limL, hres.out]; rfl
    obtain ⟨t1, t2, t3, t4, t5⟩ := fin_st how3.out.o1 how3.out.o2 how3.out.k6 (by omega) (by omega) how3.out.bl (.slice A1 l.length c1) (.slice A2 u.length c2)
    have T1 := Lib.hid t1
    have T2 := Lib.hid t2
    clear t1 t2
    by_cases hx0 : x < 0
    · clear hx
      go_wp2_with fail
      exact bodyPost_ret (v := .tuple #[.agg #[.slice A1 l.length c1, .slice A2 u.length c2], .int .i64 1]) (by simp [results, Try.results23, go_sem, t4, t5]) rfl (madeLim_mk hresu.out hres.out T1.out T2.out t3)
    · have hx2 : 4611686018427387904 < x := by omega
      clear hx
      go_wp2_with fail
      exact bodyPost_ret (v := .tuple #[.agg #[.slice A1 l.length c1, .slice A2 u.length c2], .int .i64 1]) (by simp [results, Try.results23, go_sem, t4, t5]) rfl (madeLim_mk hresu.out hres.out T1.out T2.out t3)
  have hres : Hid (limF l n x = 0) := by show _ = _; rw [limF, if_pos hin.out, if_neg hx]
  have hresu : Hid (limL l n x = l.set n.toNat (nP l n.toNat, x)) := by show _ = _; rw [limL, hres.out]; rfl
  have hx0 : 0 ≤ x := by omega
  have hx2 : x ≤ 4611686018427387904 := by omega
  have hnl : n.toNat < l.length := by omega
  clear hx
  obtain ⟨g1', rfl, hg1a, hg1b, _, hc1, hs1⟩ := own_at2 how3.out.o1 (by have := HG.out.one; omega)
  obtain ⟨d1, d2, d3⟩ := hc1 n.toNat hnl
  have hsm := hs1 n.toNat x hnl
  have o1' : (W3.setCell ⟨g1', n.toNat * 2 + 1, none⟩ (.int .i64 x)).ownsRow (w.heap.size + 2) 120 2 (.slice (some ⟨g1', 0, none⟩) (l.set n.toNat (nP l n.toNat, x)).length c1) (l.set n.toNat (nP l n.toNat, x)).length (nds (l.set n.toNat (nP l n.toNat, x))) := by
    rw [List.length_set]; exact hsm
  have o2' := own_other how3.out.o2 how3.out.o1 (by decide) (n.toNat * 2 + 1) (.int .i64 x)
  have k6' := blk_far how3.out.k6 (p := ⟨g1', n.toNat * 2 + 1, none⟩) (by simp; omega) (.int .i64 x)
  have k3' := blk_far how3.out.k3 (p := ⟨g1', n.toNat * 2 + 1, none⟩) (by simp; omega) (.int .i64 x)
  have bl' := how3.out.bl.setCell (p := ⟨g1', n.toNat * 2 + 1, none⟩) (by simp; omega) (.int .i64 x)
  obtain ⟨t1, t2, t3, t4, t5⟩ := fin_st o1' o2' k6' (by omega) (by omega) bl' (.slice (some ⟨g1', 0, none⟩) l.length c1) (.slice A2 u.length c2)
  have v0 : (W3.setCell ⟨g1', n.toNat * 2 + 1, none⟩ (.int .i64 x)).cell? ⟨w.heap.size, 0, none⟩ = some (.slice (some ⟨g1', 0, none⟩) l.length c1) := k3'.cell 0
  have v1 : (W3.setCell ⟨g1', n.toNat * 2 + 1, none⟩ (.int .i64 x)).cell? ⟨w.heap.size, 1, none⟩ = some (.slice A2 u.length c2) := k3'.cell 1
  have s0 : (W3.setCell ⟨g1', n.toNat * 2 + 1, none⟩ (.int .i64 x)).cell? ⟨w.heap.size + 1, 0, none⟩ = some (.slice none 0 0) := k6'.cell 0
  have s1 : (W3.setCell ⟨g1', n.toNat * 2 + 1, none⟩ (.int .i64 x)).cell? ⟨w.heap.size + 1, 1, none⟩ = some (.slice none 0 0) := k6'.cell 1
  have T1 := Lib.hid t1
  have T2 := Lib.hid t2
  have hend := Lib.hid (madeLim_mk (c := c1) (c' := c2) hresu.out hres.out T1.out T2.out t3)
  rw [List.length_set] at hend
  clear t1 t2 o1' o2' k6' k3' hsm hc1 hs1
  go_wp2_with fail
  exact bodyPost_ret (v := .tuple #[.agg #[.slice (some ⟨g1', 0, none⟩) l.length c1, .slice A2 u.length c2], .int .i64 0]) (by simp [results, Try.results23, go_sem, t4, t5]) rfl hend.out
end Go.Proofs.Ytlipkggcakgcnaa.Lim
