/- The contract of the reference's Reserve. Condition: the State is one that may be, each node behind the one that it hangs on. -/
import Derived.Test.YtlipkggcakgcnaaRel
import Derived.Test.YtlipkggcakgcnaaLim
namespace Go.Proofs.Ytlipkggcakgcnaa.Rr4
set_option maxRecDepth 100000
open Go.ChangeShapes Go.WideShapes Go.ChangeAt Go.RowKit Mem Tre Ref3 Law3 Fix3 Crd CrdB CrdC Cpl Own Res Rel Lim
set_option linter.unusedVariables false

theorem grown_refl (w : World) (row : Option Nat) : w.grownBy w row := ⟨rfl, rfl, rfl, Nat.le_refl _, fun _ _ _ => rfl⟩
theorem run_appG {P : Program} {w : World} {Bx : Nat} {base : Nat} {e : TypeId} {size n m nm c : Nat} {v : Value} {xs news : List Value} {A : Option Addr}
    (hown : w.ownsRow base e size v n xs) (hr : Rd w Bx A news) (hnm : nm = n + m) (t ty : TypeId)
    (i : TypeInfo) (z : Value) (bytes : Nat) (ht : P.underlying t = some (.slice e)) (hi : P.info? e = some i) (hz : i.zero = some z)
    (hsize : i.size = size) (hby : i.bytes = bytes) (hzs : z.cells.size = size) (hsz : 0 < size)
    (hl : news.length = m * size) (h1 : ∀ u ∈ news, u.oneCell' = true)
    (h63 : n + m ≤ maxLen) (hbytes : (n + m) * bytes ≤ 140737488355328) (hbase : base ≤ w.heap.size) :
    ∃ A' c' w', (Builtin.append_ #[t, t] ty #[v, .slice A m c]).run P w = .ok (.slice A' nm c') w' ∧ w'.ownsRow base e size (.slice A' nm c') nm (xs ++ news) ∧ w.grownBy w' v.ownBlock := by
  subst hnm
  cases A with
  | none =>
    have hn : news = [] := by
      rcases hr with h | ⟨b, o, h, _⟩
      · exact h
      · cases h
    subst hn
    have hm : m = 0 := by
      rcases Nat.eq_zero_or_pos m with h | h
      · exact h
      · have := Nat.mul_pos h hsz; simp at hl; omega
    subst hm
    obtain ⟨A', c', rfl, _⟩ := own_form hown
    exact ⟨A', c', w, run_appNil w base t ty e i size ht hi _ n xs hown c, by simpa using hown, grown_refl _ _⟩
  | some ad =>
    have hnews : ∀ j u, news[j]? = some u → w.cell? (ad.add j) = some u := by
      intro j u hj
      rcases hr with h | ⟨b, o, h, _, hc⟩
      · subst h; simp at hj
      · injection h with h
        subst h
        rw [show (⟨b, o, none⟩ : Addr).add j = ⟨b, o + j, none⟩ by unfold Addr.add; split <;> simp_all]
        exact hc j u hj
    obtain ⟨v', w', hrun, hown', hg, _⟩ := run_append_own (P := P) w base t ty e i z size bytes ht hi hz hsize hby hzs hsz v n xs hown ad m c news hl hnews h1 h63 hbytes hbase
    obtain ⟨A', c', rfl, _⟩ := own_form hown'
    exact ⟨A', c', w', hrun, hown', hg⟩
theorem step_appG {P : Program} {w : World} {ops : Array Oper} {o : Oper} {a : Act} {K : Act → World → Prop} {Q : Exit → Act → World → Prop} {E : Prop} {Bx : Nat} {base : Nat} {e : TypeId} {size n m nm c : Nat} {v : Value} {xs news : List Value} {A : Option Addr}
    (hown : Hid (w.ownsRow base e size v n xs)) (hr : Hid (Rd w Bx A news)) (hnm : nm = n + m) (hgd : o.guard = none) (s x : Operand) (t : TypeId)
    (ho : o.op = .call { callee := .builtin .append, args := #[s, x], argTypes := #[t, t] })
    (i : TypeInfo) (z : Value) (bytes : Nat) (ht : P.underlying t = some (.slice e)) (hi : P.info? e = some i) (hz : i.zero = some z)
    (hsize : i.size = size) (hby : i.bytes = bytes) (hzs : z.cells.size = size) (hsz : 0 < size)
    (hs : a.eval s = v) (hx : a.eval x = .slice A m c) (hl : news.length = m * size) (h1 : ∀ u ∈ news, u.oneCell' = true)
    (h63 : n + m ≤ maxLen) (hbytes : (n + m) * bytes ≤ 140737488355328) (hbase : base ≤ w.heap.size)
    (h : ∀ A' c' w', Hid (w'.ownsRow base e size (.slice A' nm c') nm (xs ++ news)) → w.grownBy w' v.ownBlock → K (a.put o.dst (.slice A' nm c')) w') :
    if Region.wanted o (yielded ops a.tmps) = true then Oper.wp P o a w K Q else E := by
  have hw : Region.wanted o (yielded ops a.tmps) = true := by simp [Region.wanted, hgd]
  rw [if_pos hw]
  obtain ⟨A', c', w', hrun, h2, h3⟩ := run_appG (P := P) hown.out hr.out hnm t o.type i z bytes ht hi hz hsize hby hzs hsz hl h1 h63 hbytes hbase (c := c)
  unfold Oper.wp execOp
  simp only [ho, resolve, invoke, builtin, Sem.run_bind, Sem.run_pure, Result.andThen_ok, List.map_toArray, List.map_cons, List.map_nil, hs, hx, hrun]
  exact h A' c' w' h2 h3
theorem own_set2 {w : World} {base : Nat} {e te : TypeId} {size n g : Nat} {v : Value} {xs : List Value} {cs : Array Value} (h : w.ownsRow base e size v n xs) (hk : Blk w g te cs) (hne : e ≠ te) (x y : Value) :
    ((w.setCell ⟨g, 0, none⟩ x).setCell ⟨g, 1, none⟩ y).ownsRow base e size v n xs := by
  refine ⟨h.1, ?_⟩
  rcases h.2 with h2 | ⟨k, cap, cur, hv, hg, hh, r⟩
  · exact .inl h2
  · have hkg : k ≠ g := by
      rintro rfl
      unfold Blk at hk
      rw [hh] at hk
      injection hk with hk
      injection hk with _ q
      exact hne q
    refine .inr ⟨k, cap, cur, hv, hg, ?_, r⟩
    rw [Below.heap_setCell _ _ _ _ (by exact hkg), Below.heap_setCell _ _ _ _ (by exact hkg)]
    exact hh
theorem Blk_grown {w w' : World} {g : Nat} {te : TypeId} {cs : Array Value} {row : Option Nat} (h : Blk w g te cs) (hg : w.grownBy w' row) (hne : some g ≠ row) : Blk w' g te cs := (hg.block g h.lt hne).trans h
theorem blk_ne {W : World} {g b j n n' c c' : Nat} {te : TypeId} {a a' : Option Addr} {k : IntKind} {x : Int} (h : Blk W g te #[.slice a n c, .slice a' n' c']) (hc : W.cell? ⟨b, j, none⟩ = some (.int k x)) : b ≠ g := by
  rintro rfl
  rw [h.cell] at hc
  match j, hc with
  | 0, hc => simp at hc
  | 1, hc => simp at hc
  | j + 2, hc => simp at hc
theorem far2 {W : World} {g b j : Nat} {v x y : Value} (hc : W.cell? ⟨b, j, none⟩ = some v) (hne : b ≠ g) (N : Nat) : (((W.drewN N).setCell ⟨g, 0, none⟩ x).setCell ⟨g, 1, none⟩ y).cell? ⟨b, j, none⟩ = some v := by
  rw [World.cell?_setCell_other _ _ _ _ (by intro e; injection e with e; exact hne e.symm), World.cell?_setCell_other _ _ _ _ (by intro e; injection e with e; exact hne e.symm)]
  exact hc

set_option maxHeartbeats 1000000 in
theorem rreserve_any (A A' : Option Addr) (c c' : Nat) (l : List (Int × Int)) (u : List Int) (n x : Int) (w : World) (hl : Hid (Nds w w.heap.size A l)) (hu : Hid (Ris w w.heap.size A' u)) (hg : GoodSt l u) (hn : inI n) (hx0 : -9223372036854775808 ≤ x) (hx1 : x ≤ 9223372036854775807) :
    Calls Try.prog 20 #[.agg #[.slice A l.length c, .slice A' u.length c'], .int .i64 n, .int .i64 x] w (MadeRes l (resU l u n x) (resF l u n x) w) := by
  obtain ⟨i0, hi, hz0, hz1, hz2⟩ := info_parts i64_info
  have hw := Lib.hid hg.wf
  have hwu := Lib.hid hg.wfi
  have g1 := hg.few
  have g2 : (l.length : Int) ≤ 32 := by omega
  have g3 : (u.length : Int) ≤ 32 := by rw [hg.len]; omega
  have HG := Lib.hid hg
  obtain ⟨P, hP⟩ : ∃ P, P = pathF l 3 n := ⟨_, rfl⟩
  have HP := Lib.hid hP
  have p1 : P.length ≤ 3 := by rw [hP]; exact path_le3 _ _ _
  clear hP hg
  have b0 : Below w.heap.size w ((w.alloc (.cells #[.slice A l.length c, .slice A' u.length c'] 26)).alloc (.cells #[.slice none 0 0, .slice none 0 0] 26)) := ((Below.refl _ _).alloc (Nat.le_refl _) _).alloc (by simp) _
  have k1 : Hid (Blk ((w.alloc (.cells #[.slice A l.length c, .slice A' u.length c'] 26)).alloc (.cells #[.slice none 0 0, .slice none 0 0] 26)) w.heap.size 26 #[.slice A l.length c, .slice A' u.length c']) := (Blk.fresh w _ _).alloc _
  have k2 : Hid (Blk ((w.alloc (.cells #[.slice A l.length c, .slice A' u.length c'] 26)).alloc (.cells #[.slice none 0 0, .slice none 0 0] 26)) (w.heap.size + 1) 26 #[.slice none 0 0, .slice none 0 0]) := by
    have := Blk.fresh (w.alloc (.cells #[.slice A l.length c, .slice A' u.length c'] 26)) 26 #[.slice none 0 0, .slice none 0 0]
    simp only [World.size_alloc] at this
    exact this
  go_enter Try.func20, Try.ntmps20
  go_wp2_with fail
  refine (rpath_any A c l n _ (Rd.below' hl.out b0 b0.size) hw (by omega) hn).mono ?_
  rintro e W3 ⟨A3, c3, rfl, hr3, hb3⟩
  rw [← HP.out] at hr3 ⊢
  have HR := Lib.hid hr3
  have b3 := below_step b0 hb3
  have K1 := Lib.hid (Blk.below' k1.out hb3)
  have K2 := Lib.hid (Blk.below' k2.out hb3)
  have HL : Hid (Nds W3 W3.heap.size A l) := Rd.below' hl.out b3 b3.size
  have HU : Hid (Ris W3 W3.heap.size A' u) := Rd.below' hu.out b3 b3.size
  clear k1 k2 hb3 hr3 b0
  have f0 : W3.cell? ⟨w.heap.size, 0, none⟩ = some (.slice A l.length c) := K1.out.cell 0
  have f1 : W3.cell? ⟨w.heap.size, 1, none⟩ = some (.slice A' u.length c') := K1.out.cell 1
  have r0 : W3.cell? ⟨w.heap.size + 1, 0, none⟩ = some (.slice none 0 0) := K2.out.cell 0
  have r1 : W3.cell? ⟨w.heap.size + 1, 1, none⟩ = some (.slice none 0 0) := K2.out.cell 1
  have y0 : W3.frozen? ⟨w.heap.size + 1, 0, none⟩ = false := K2.out.thaw 0
  have y1 : W3.frozen? ⟨w.heap.size + 1, 1, none⟩ = false := K2.out.thaw 1
  have t3 := (b3.setCell (p := ⟨w.heap.size + 1, 0, none⟩) (by simp) (.slice A l.length c)).setCell (p := ⟨w.heap.size + 1, 1, none⟩) (by simp) (.slice A' u.length c')
  have T1 : Hid (Nds ((W3.setCell ⟨w.heap.size + 1, 0, none⟩ (.slice A l.length c)).setCell ⟨w.heap.size + 1, 1, none⟩ (.slice A' u.length c')) _ A l) := Rd.below' hl.out t3 t3.size
  have T2 : Hid (Ris ((W3.setCell ⟨w.heap.size + 1, 0, none⟩ (.slice A l.length c)).setCell ⟨w.heap.size + 1, 1, none⟩ (.slice A' u.length c')) _ A' u) := Rd.below' hu.out t3 t3.size
  have t4 : ((W3.setCell ⟨w.heap.size + 1, 0, none⟩ (.slice A l.length c)).setCell ⟨w.heap.size + 1, 1, none⟩ (.slice A' u.length c')).cell? ⟨w.heap.size + 1, 0, none⟩ = some (.slice A l.length c) := by rw [(blk_set (blk_set K2.out 0 _) 1 _).cell]; rfl
  have t5 : ((W3.setCell ⟨w.heap.size + 1, 0, none⟩ (.slice A l.length c)).setCell ⟨w.heap.size + 1, 1, none⟩ (.slice A' u.length c')).cell? ⟨w.heap.size + 1, 1, none⟩ = some (.slice A' u.length c') := by rw [(blk_set (blk_set K2.out 0 _) 1 _).cell]; rfl
  by_cases hp0 : P.length = 0
  · have q0 : ((P.length : Int) == 0) = true := beq_iff_eq.2 (by omega)
    have hres : Hid (resF l u n x = (18, -1)) := by show _ = _; rw [resF, ← HP.out, if_pos hp0]
    have hresu : Hid (resU l u n x = u) := by show _ = _; rw [resU, hres.out]; rfl
    clear hp0
    go_wp2_with fail
    exact bodyPost_ret (v := .tuple #[.agg #[.slice A l.length c, .slice A' u.length c'], .int .i64 18, .int .i64 (-1)]) (by simp [results, Try.results20, go_sem, t4, t5]) rfl (madeRes_mk hresu.out hres.out T1.out T2.out t3)
  have q0 : ((P.length : Int) == 0) = false := beq_eq_false_iff_ne.2 (by omega)
  by_cases hx : x < 0
  · have hres : Hid (resF l u n x = (1, -1)) := by show _ = _; rw [resF, ← HP.out, if_neg hp0, if_pos hx]
    have hresu : Hid (resU l u n x = u) := by show _ = _; rw [resU, hres.out]; rfl
    clear hp0
    go_wp2_with fail
    exact bodyPost_ret (v := .tuple #[.agg #[.slice A l.length c, .slice A' u.length c'], .int .i64 1, .int .i64 (-1)]) (by simp [results, Try.results20, go_sem, t4, t5]) rfl (madeRes_mk hresu.out hres.out T1.out T2.out t3)
  have t4' : ∀ N, (((W3.drewN N).setCell ⟨w.heap.size + 1, 0, none⟩ (.slice A l.length c)).setCell ⟨w.heap.size + 1, 1, none⟩ (.slice A' u.length c')).cell? ⟨w.heap.size + 1, 0, none⟩ = some (.slice A l.length c) := fun N => t4
  have t5' : ∀ N, (((W3.drewN N).setCell ⟨w.heap.size + 1, 0, none⟩ (.slice A l.length c)).setCell ⟨w.heap.size + 1, 1, none⟩ (.slice A' u.length c')).cell? ⟨w.heap.size + 1, 1, none⟩ = some (.slice A' u.length c') := fun N => t5
  have TN : Hid (∀ N, Nds (((W3.drewN N).setCell ⟨w.heap.size + 1, 0, none⟩ (.slice A l.length c)).setCell ⟨w.heap.size + 1, 1, none⟩ (.slice A' u.length c')) (((W3.drewN N).setCell ⟨w.heap.size + 1, 0, none⟩ (.slice A l.length c)).setCell ⟨w.heap.size + 1, 1, none⟩ (.slice A' u.length c')).heap.size A l ∧ Ris (((W3.drewN N).setCell ⟨w.heap.size + 1, 0, none⟩ (.slice A l.length c)).setCell ⟨w.heap.size + 1, 1, none⟩ (.slice A' u.length c')) (((W3.drewN N).setCell ⟨w.heap.size + 1, 0, none⟩ (.slice A l.length c)).setCell ⟨w.heap.size + 1, 1, none⟩ (.slice A' u.length c')).heap.size A' u ∧ Below w.heap.size w (((W3.drewN N).setCell ⟨w.heap.size + 1, 0, none⟩ (.slice A l.length c)).setCell ⟨w.heap.size + 1, 1, none⟩ (.slice A' u.length c'))) := fun N => ⟨T1.out, T2.out, ⟨t3.os, t3.tape, t3.output, t3.size, t3.block⟩⟩
  clear t4 t5 t3 T1 T2
  have hres : Hid (resF l u n x = resS l u x P 12) := by show _ = _; rw [resF, ← HP.out, if_neg hp0, if_neg hx]
  have hxf : decide (x < 0) = false := by simp; omega
  have happ : Hid (Apart u.length P) := by rw [HP.out]; exact apart_path HG.out.okt HG.out.len n
  clear hp0
  go_wp2_with fail
  obtain ⟨b1, o1, rfl, hb1, hc1⟩ := Nds.at HL.out (by have := HG.out.one; omega)
  obtain ⟨b2, o2, rfl, hb2, hc2⟩ := Ris.at (i := 0) HU.out (by rw [HG.out.len]; have := HG.out.one; omega)
  have HC1 := Lib.hid hc1
  have HC2 := Lib.hid hc2
  clear hc1 hc2
  go_loopg [10] P.length (fun g s10 w' => ∃ (k nq : Nat), k + g = P.length ∧ s10 = .int .i64 k ∧ Hid (resS l u x (P.drop k) (12 + k) = resS l u x P 12) ∧ w' = W3.drewN nq)
  case atStart => exact ⟨0, 0, by omega, rfl, rfl, rfl⟩
  case round =>
    obtain ⟨k, nq, hk, rfl, hall, rfl⟩ := hrel
    by_cases hlt : (k : Int) < (P.length : Int)
    · obtain ⟨g, rfl⟩ : ∃ g, gk = g + 1 := ⟨gk - 1, by omega⟩
      have hm := happ.out.1 k (by omega)
      obtain ⟨m, hmm⟩ : ∃ m, m = gI P k := ⟨_, rfl⟩
      have HM := Lib.hid hmm
      rw [← hmm] at hm
      obtain ⟨hm0, hm1⟩ := hm
      obtain ⟨b, o, rfl, hb, hcc⟩ := Ris.at (i := k) HR.out (by omega)
      have d0 := hcc k (by omega)
      rw [← hmm] at d0
      have hml : m.toNat < l.length := by rw [← HG.out.len]; omega
      have hml' : m < l.length := by omega
      have d1 := HC2.out m.toNat (by omega)
      have d2 := (HC1.out m.toNat hml).2
      have hu1 := HG.out.uok m.toNat (by omega)
      have hl1 := HG.out.okt m.toNat hml
      obtain ⟨hu1a, hu1b⟩ := hu1
      obtain ⟨_, _, hl1a, hl1b, _⟩ := hl1
      clear hcc hmm
      by_cases hfit : nC l m.toNat - gI u m.toNat < x
      · have hres' : Hid (resF l u n x = (12 + (k : Int), m)) := by
          show _ = _
          rw [hres.out, ← hall.out, resS_no (by omega) (by rw [← HM.out]; exact hfit), HM.out]
        have hresu : Hid (resU l u n x = u) := by
          show _ = _
          rw [resU, hres'.out, if_neg (by show ¬ (12 + (k : Int)) = 0; omega)]
        have hbne := blk_ne K2.out d0
        have e1 := fun N : Nat => far2 (x := .slice (some ⟨b1, o1, none⟩) l.length c) (y := .slice (some ⟨b2, o2, none⟩) u.length c') d0 hbne N
        go_wp2_with fail
        go_quiet (fail)
        go_wp2_with fail
        go_region
        all_goals
          go_wp2_with fail
          exact bodyPost_ret (v := .tuple #[.agg #[.slice (some ⟨b1, o1, none⟩) l.length c, .slice (some ⟨b2, o2, none⟩) u.length c'], .int .i64 (12 + (k : Int)), .int .i64 m]) (by simp [results, Try.results20, go_sem, t4', t5']) rfl (madeRes_mk hresu.out hres'.out (TN.out _).1 (TN.out _).2.1 (TN.out _).2.2)
      · have hall' : Hid (resS l u x (P.drop (k + 1)) (12 + ((k + 1 : Nat) : Int)) = resS l u x P 12) := by
          show _ = _
          have hgo := resS_go (l := l) (u := u) (p := P) (x := x) (c := 12 + (k : Int)) (k := k) (by omega) (by rw [← HM.out]; exact hfit)
          rw [← hall.out, hgo]
          congr 1
        go_wp2_with fail
        go_quiet (fail)
        go_wp2_with fail
        go_roundg g
        case measure => omega
        case rel => exact ⟨k + 1, _, by omega, by go_num, hall', rfl⟩
    · have hc0 : Hid (resF l u n x = (0, -1)) := by
        show _ = _
        rw [hres.out, ← hall.out, show k = P.length by omega]; exact resS_end
      have hcu : Hid (resU l u n x = addF u P x) := by
        show _ = _
        rw [resU, hc0.out, if_pos rfl, ← HP.out]
      have hokx : Hid (∀ i, i < P.length → x ≤ nC l (gI P i).toNat - gI u (gI P i).toNat) := by
        have h1 : (resS l u x P 12).1 = 0 := by rw [← hres.out, hc0.out]
        exact resS_ok P 12 (by decide) h1
      have howa : Hid (((W3.drewN (nq + 1)).alloc (.cells #[] 2)).ownsRow W3.heap.size 2 1 (.slice (some ⟨W3.heap.size, 0, none⟩) 0 0) 0 []) := own_empty (by exact Blk.fresh (W3.drewN (nq + 1)) _ _) (by simp)
      have hbla : Below W3.heap.size W3 ((W3.drewN (nq + 1)).alloc (.cells #[] 2)) := (Below.drewN' (Below.refl _ _) _).alloc (Nat.le_refl _) _
      have hrda : Hid (Rd ((W3.drewN (nq + 1)).alloc (.cells #[] 2)) W3.heap.size (some ⟨b2, o2, none⟩) (ints u)) := Rd.below HU.out hbla
      have hka : Hid (Blk ((W3.drewN (nq + 1)).alloc (.cells #[] 2)) w.heap.size 26 #[.slice (some ⟨b1, o1, none⟩) l.length c, .slice (some ⟨b2, o2, none⟩) u.length c']) := Blk.below' K1.out hbla
      have howb : Hid ((((W3.drewN (nq + 1)).alloc (.cells #[] 2)).alloc (.cells #[.slice none 0 0, .slice none 0 0] 26)).ownsRow W3.heap.size 2 1 (.slice (some ⟨W3.heap.size, 0, none⟩) 0 0) 0 []) := own_empty (by exact (Blk.fresh (W3.drewN (nq + 1)) _ _).alloc _) (by simp)
      have hblb : Below W3.heap.size W3 (((W3.drewN (nq + 1)).alloc (.cells #[] 2)).alloc (.cells #[.slice none 0 0, .slice none 0 0] 26)) := ((Below.drewN' (Below.refl _ _) _).alloc (Nat.le_refl _) _).alloc (by simp [World.drewN]) _
      have hrdb : Hid (Rd (((W3.drewN (nq + 1)).alloc (.cells #[] 2)).alloc (.cells #[.slice none 0 0, .slice none 0 0] 26)) W3.heap.size (some ⟨b2, o2, none⟩) (ints u)) := Rd.below HU.out hblb
      have hkb : Hid (Blk (((W3.drewN (nq + 1)).alloc (.cells #[] 2)).alloc (.cells #[.slice none 0 0, .slice none 0 0] 26)) w.heap.size 26 #[.slice (some ⟨b1, o1, none⟩) l.length c, .slice (some ⟨b2, o2, none⟩) u.length c']) := Blk.below' K1.out hblb
      have howc : Hid ((((W3.drewN (nq + 1)).alloc (.cells #[.slice none 0 0, .slice none 0 0] 26)).alloc (.cells #[] 2)).ownsRow (W3.heap.size + 1) 2 1 (.slice (some ⟨W3.heap.size + 1, 0, none⟩) 0 0) 0 []) := own_empty (by have := Blk.fresh ((W3.drewN (nq + 1)).alloc (.cells #[.slice none 0 0, .slice none 0 0] 26)) 2 #[]; simp only [World.size_alloc] at this; exact this) (by simp)
      have hblc : Below W3.heap.size W3 (((W3.drewN (nq + 1)).alloc (.cells #[.slice none 0 0, .slice none 0 0] 26)).alloc (.cells #[] 2)) := ((Below.drewN' (Below.refl _ _) _).alloc (Nat.le_refl _) _).alloc (by simp [World.drewN]) _
      have hrdc : Hid (Rd (((W3.drewN (nq + 1)).alloc (.cells #[.slice none 0 0, .slice none 0 0] 26)).alloc (.cells #[] 2)) W3.heap.size (some ⟨b2, o2, none⟩) (ints u)) := Rd.below HU.out hblc
      have hkc : Hid (Blk (((W3.drewN (nq + 1)).alloc (.cells #[.slice none 0 0, .slice none 0 0] 26)).alloc (.cells #[] 2)) w.heap.size 26 #[.slice (some ⟨b1, o1, none⟩) l.length c, .slice (some ⟨b2, o2, none⟩) u.length c']) := Blk.below' K1.out hblc
      have hsb : Hid (Blk (((W3.drewN (nq + 1)).alloc (.cells #[] 2)).alloc (.cells #[.slice none 0 0, .slice none 0 0] 26)) (W3.heap.size + 1) 26 #[.slice none 0 0, .slice none 0 0]) := by
        have := Blk.fresh ((W3.drewN (nq + 1)).alloc (.cells #[] 2)) 26 #[.slice none 0 0, .slice none 0 0]
        simp only [World.size_alloc] at this
        exact this
      have hsc : Hid (Blk (((W3.drewN (nq + 1)).alloc (.cells #[.slice none 0 0, .slice none 0 0] 26)).alloc (.cells #[] 2)) W3.heap.size 26 #[.slice none 0 0, .slice none 0 0]) := (Blk.fresh (W3.drewN (nq + 1)) _ _).alloc _
      clear t4' t5'
      go_wp2_with fail
      go_region_held3 (fun w' => w'.cell? ⟨w.heap.size, 0, none⟩ = some (.slice (some ⟨b1, o1, none⟩) l.length c) ∧ w'.cell? ⟨w.heap.size, 1, none⟩ = some (.slice (some ⟨b2, o2, none⟩) u.length c'))
        (first | go_keep | (exact ⟨v0, v1⟩) | (exact ⟨v2 _ _, v3 _ _⟩))
        (first
          | (refine step_appG (nm := u.length) howa hrda (by simp) rfl _ _ _ rfl i0 (.int .i64 0) 8 Try.underlying24 hi hz0 hz1 hz2 rfl (by decide) rfl rfl (by rw [ints_len]; omega) (ints_one u) (by unfold maxLen; omega) (by omega) (by first | (simp; done) | (simp; omega)) ?_; intro A5 c5 w5 hown5 hgr5; have hkk := Lib.hid (Blk_grown hka.out hgr5 (by simp [Value.ownBlock]; have := K2.out.lt; omega)); have v0 : w5.cell? ⟨w.heap.size, 0, none⟩ = some (.slice (some ⟨b1, o1, none⟩) l.length c) := hkk.out.cell 0; have v1 : w5.cell? ⟨w.heap.size, 1, none⟩ = some (.slice (some ⟨b2, o2, none⟩) u.length c') := hkk.out.cell 1)
          | (refine step_appG (nm := u.length) howb hrdb (by simp) rfl _ _ _ rfl i0 (.int .i64 0) 8 Try.underlying24 hi hz0 hz1 hz2 rfl (by decide) rfl rfl (by rw [ints_len]; omega) (ints_one u) (by unfold maxLen; omega) (by omega) (by first | (simp; done) | (simp; omega)) ?_; intro A5 c5 w5 hown5 hgr5; have hkk := Lib.hid (Blk_grown hkb.out hgr5 (by simp [Value.ownBlock]; have := K2.out.lt; omega)); have v0 : w5.cell? ⟨w.heap.size, 0, none⟩ = some (.slice (some ⟨b1, o1, none⟩) l.length c) := hkk.out.cell 0; have v1 : w5.cell? ⟨w.heap.size, 1, none⟩ = some (.slice (some ⟨b2, o2, none⟩) u.length c') := hkk.out.cell 1; have hst := Lib.hid (Blk_grown hsb.out hgr5 (by simp [Value.ownBlock])); have s0 : w5.cell? ⟨W3.heap.size + 1, 0, none⟩ = some (.slice none 0 0) := hst.out.cell 0; have s1 : w5.cell? ⟨W3.heap.size + 1, 1, none⟩ = some (.slice none 0 0) := hst.out.cell 1; have s2 : w5.frozen? ⟨W3.heap.size + 1, 0, none⟩ = false := hst.out.thaw 0; have s3 : w5.frozen? ⟨W3.heap.size + 1, 1, none⟩ = false := hst.out.thaw 1; have v2 : ∀ x y, ((w5.setCell ⟨W3.heap.size + 1, 0, none⟩ x).setCell ⟨W3.heap.size + 1, 1, none⟩ y).cell? ⟨w.heap.size, 0, none⟩ = some (.slice (some ⟨b1, o1, none⟩) l.length c) := fun x y => (blk_far (blk_far hkk.out (p := ⟨W3.heap.size + 1, 0, none⟩) (by have := K2.out.lt; simp; omega) x) (p := ⟨W3.heap.size + 1, 1, none⟩) (by have := K2.out.lt; simp; omega) y).cell 0; have v3 : ∀ x y, ((w5.setCell ⟨W3.heap.size + 1, 0, none⟩ x).setCell ⟨W3.heap.size + 1, 1, none⟩ y).cell? ⟨w.heap.size, 1, none⟩ = some (.slice (some ⟨b2, o2, none⟩) u.length c') := fun x y => (blk_far (blk_far hkk.out (p := ⟨W3.heap.size + 1, 0, none⟩) (by have := K2.out.lt; simp; omega) x) (p := ⟨W3.heap.size + 1, 1, none⟩) (by have := K2.out.lt; simp; omega) y).cell 1)
          | (refine step_appG (nm := u.length) howc hrdc (by simp) rfl _ _ _ rfl i0 (.int .i64 0) 8 Try.underlying24 hi hz0 hz1 hz2 rfl (by decide) rfl rfl (by rw [ints_len]; omega) (ints_one u) (by unfold maxLen; omega) (by omega) (by first | (simp; done) | (simp; omega)) ?_; intro A5 c5 w5 hown5 hgr5; have hkk := Lib.hid (Blk_grown hkc.out hgr5 (by simp [Value.ownBlock]; have := K2.out.lt; omega)); have v0 : w5.cell? ⟨w.heap.size, 0, none⟩ = some (.slice (some ⟨b1, o1, none⟩) l.length c) := hkk.out.cell 0; have v1 : w5.cell? ⟨w.heap.size, 1, none⟩ = some (.slice (some ⟨b2, o2, none⟩) u.length c') := hkk.out.cell 1; have hst := Lib.hid (Blk_grown hsc.out hgr5 (by simp [Value.ownBlock])); have s0 : w5.cell? ⟨W3.heap.size, 0, none⟩ = some (.slice none 0 0) := hst.out.cell 0; have s1 : w5.cell? ⟨W3.heap.size, 1, none⟩ = some (.slice none 0 0) := hst.out.cell 1; have s2 : w5.frozen? ⟨W3.heap.size, 0, none⟩ = false := hst.out.thaw 0; have s3 : w5.frozen? ⟨W3.heap.size, 1, none⟩ = false := hst.out.thaw 1; have v2 : ∀ x y, ((w5.setCell ⟨W3.heap.size, 0, none⟩ x).setCell ⟨W3.heap.size, 1, none⟩ y).cell? ⟨w.heap.size, 0, none⟩ = some (.slice (some ⟨b1, o1, none⟩) l.length c) := fun x y => (blk_far (blk_far hkk.out (p := ⟨W3.heap.size, 0, none⟩) (by have := K2.out.lt; simp; omega) x) (p := ⟨W3.heap.size, 1, none⟩) (by have := K2.out.lt; simp; omega) y).cell 0; have v3 : ∀ x y, ((w5.setCell ⟨W3.heap.size, 0, none⟩ x).setCell ⟨W3.heap.size, 1, none⟩ y).cell? ⟨w.heap.size, 1, none⟩ = some (.slice (some ⟨b2, o2, none⟩) u.length c') := fun x y => (blk_far (blk_far hkk.out (p := ⟨W3.heap.size, 0, none⟩) (by have := K2.out.lt; simp; omega) x) (p := ⟨W3.heap.size, 1, none⟩) (by have := K2.out.lt; simp; omega) y).cell 1))
      have hsz5 : W3.heap.size ≤ w5.heap.size := by have := hgr5.size; simp [World.drewN] at this; omega
      have hO : Hid (Blk (w5.alloc (.cells #[.slice (some ⟨b1, o1, none⟩) l.length c, .slice A5 u.length c5] 26)) w5.heap.size 26 #[.slice (some ⟨b1, o1, none⟩) l.length c, .slice A5 u.length c5]) := Blk.fresh _ _ _
      have hB6 : Below W3.heap.size W3 (w5.alloc (.cells #[.slice (some ⟨b1, o1, none⟩) l.length c, .slice A5 u.length c5] 26)) := (hbla.grown hgr5 (by first | (simp [World.drewN]; done) | (simp [World.drewN]; omega)) (by simp [Value.ownBlock])).alloc hsz5 _
      have hown6 : Hid ((w5.alloc (.cells #[.slice (some ⟨b1, o1, none⟩) l.length c, .slice A5 u.length c5] 26)).ownsRow W3.heap.size 2 1 (.slice A5 u.length c5) u.length (ints u)) := World.ownsRow.alloc hown5.out _
      have hgO : W3.heap.size ≤ w5.heap.size := by omega
      clear hgr5 hown5
      generalize (w5.alloc (.cells #[.slice (some ⟨b1, o1, none⟩) l.length c, .slice A5 u.length c5] 26)) = w6 at hO hB6 hown6 ⊢
      generalize hgg : w5.heap.size = gO at hO hgO ⊢
      clear hgg
      rotate_left
      have hsz5 : W3.heap.size ≤ w5.heap.size := by have := hgr5.size; simp [World.drewN] at this; omega
      have hO : Hid (Blk ((w5.setCell ⟨W3.heap.size + 1, 0, none⟩ (.slice (some ⟨b1, o1, none⟩) l.length c)).setCell ⟨W3.heap.size + 1, 1, none⟩ (.slice A5 u.length c5)) (W3.heap.size + 1) 26 #[.slice (some ⟨b1, o1, none⟩) l.length c, .slice A5 u.length c5]) := blk_set (blk_set hst.out 0 _) 1 _
      have hB6 : Below W3.heap.size W3 ((w5.setCell ⟨W3.heap.size + 1, 0, none⟩ (.slice (some ⟨b1, o1, none⟩) l.length c)).setCell ⟨W3.heap.size + 1, 1, none⟩ (.slice A5 u.length c5)) := ((hblb.grown hgr5 (by first | (simp [World.drewN]; done) | (simp [World.drewN]; omega)) (by simp [Value.ownBlock])).setCell (by simp) _).setCell (by simp) _
      have hown6 : Hid (((w5.setCell ⟨W3.heap.size + 1, 0, none⟩ (.slice (some ⟨b1, o1, none⟩) l.length c)).setCell ⟨W3.heap.size + 1, 1, none⟩ (.slice A5 u.length c5)).ownsRow W3.heap.size 2 1 (.slice A5 u.length c5) u.length (ints u)) := own_set2 hown5.out hst.out (by decide) _ _
      have hgO : W3.heap.size ≤ (W3.heap.size + 1) := by omega
      clear hgr5 hown5
      generalize ((w5.setCell ⟨W3.heap.size + 1, 0, none⟩ (.slice (some ⟨b1, o1, none⟩) l.length c)).setCell ⟨W3.heap.size + 1, 1, none⟩ (.slice A5 u.length c5)) = w6 at hO hB6 hown6 ⊢
      generalize hgg : (W3.heap.size + 1) = gO at hO hgO ⊢
      clear hgg
      rotate_left
      have hsz5 : W3.heap.size ≤ w5.heap.size := by have := hgr5.size; simp [World.drewN] at this; omega
      have hO : Hid (Blk ((w5.setCell ⟨W3.heap.size, 0, none⟩ (.slice (some ⟨b1, o1, none⟩) l.length c)).setCell ⟨W3.heap.size, 1, none⟩ (.slice A5 u.length c5)) W3.heap.size 26 #[.slice (some ⟨b1, o1, none⟩) l.length c, .slice A5 u.length c5]) := blk_set (blk_set hst.out 0 _) 1 _
      have hB6 : Below W3.heap.size W3 ((w5.setCell ⟨W3.heap.size, 0, none⟩ (.slice (some ⟨b1, o1, none⟩) l.length c)).setCell ⟨W3.heap.size, 1, none⟩ (.slice A5 u.length c5)) := ((hblc.grown hgr5 (by first | (simp [World.drewN]; done) | (simp [World.drewN]; omega)) (by simp [Value.ownBlock])).setCell (by simp) _).setCell (by simp) _
      have hown6 : Hid (((w5.setCell ⟨W3.heap.size, 0, none⟩ (.slice (some ⟨b1, o1, none⟩) l.length c)).setCell ⟨W3.heap.size, 1, none⟩ (.slice A5 u.length c5)).ownsRow W3.heap.size 2 1 (.slice A5 u.length c5) u.length (ints u)) := own_mono (own_set2 hown5.out hst.out (by decide) _ _) (by omega)
      have hgO : W3.heap.size ≤ W3.heap.size := by omega
      clear hgr5 hown5
      generalize ((w5.setCell ⟨W3.heap.size, 0, none⟩ (.slice (some ⟨b1, o1, none⟩) l.length c)).setCell ⟨W3.heap.size, 1, none⟩ (.slice A5 u.length c5)) = w6 at hO hB6 hown6 ⊢
      generalize hgg : W3.heap.size = gO at hO hgO ⊢
      clear hgg
      rotate_left
      all_goals
        clear hrda hrdb hrdc hbla hblb hblc howa howb howc hka hkb hkc hsb hsc
        go_wp2_with fail
      all_goals
        obtain ⟨g5, rfl, hg5a, hg5b, hz1, hz2, hz3⟩ := own_at hown6.out (by rw [HG.out.len]; have := HG.out.one; omega)
        clear hz1 hz2 hz3
        have h0w : Hid (Ris w6 w6.heap.size A3 P) := Rd.below' HR.out hB6 hB6.size
        have hrow0 : Hid (w6.ownsRow W3.heap.size 2 1 (.slice (some ⟨g5, 0, none⟩) u.length c5) u.length (ints (addF u (P.take 0) x))) := by rw [List.take_zero, addF_nil]; exact hown6.out
        go_loopg [12] P.length (fun g s12 w' => ∃ k : Nat, k + g = P.length ∧ s12 = .int .i64 k ∧ Hid (w'.ownsRow W3.heap.size 2 1 (.slice (some ⟨g5, 0, none⟩) u.length c5) u.length (ints (addF u (P.take k) x))) ∧ Hid (Blk w' gO 26 #[.slice (some ⟨b1, o1, none⟩) l.length c, .slice (some ⟨g5, 0, none⟩) u.length c5]) ∧ Below W3.heap.size W3 w')
        case atStart => exact ⟨0, by omega, rfl, hrow0, hO, hB6⟩
        case round =>
          obtain ⟨k, hk, rfl, hrow, hO, hbl⟩ := hrel
          by_cases hlt : (k : Int) < (P.length : Int)
          · obtain ⟨g, rfl⟩ : ∃ g, gk = g + 1 := ⟨gk - 1, by omega⟩
            have hm := happ.out.1 k (by omega)
            have hox := hokx.out k (by omega)
            have hat := addF_at (x := x) happ.out (show k < P.length by omega)
            have hstep := addF_step (x := x) happ.out (show k < P.length by omega)
            obtain ⟨m, hmm⟩ : ∃ m, m = gI P k := ⟨_, rfl⟩
            rw [← hmm] at hm hox hat hstep
            obtain ⟨hm0, hm1⟩ := hm
            obtain ⟨b, o, rfl, hb, hcc⟩ := Ris.at (i := k) HR.out (by omega)
            have d0 : wr.cell? ⟨b, o + k, none⟩ = some (.int .i64 m) := by rw [hmm]; exact (hbl.cell (p := ⟨b, o + k, none⟩) hb).trans (hcc k (by omega))
            have hml : m.toNat < l.length := by rw [← HG.out.len]; omega
            have hml' : m < u.length := by omega
            obtain ⟨g5', hg5', hq1, hq2, hq3, hc2, hs2⟩ := own_at hrow.out (by rw [addF_len]; omega)
            clear hq1 hq2 hq3
            obtain rfl : g5 = g5' := by injection hg5' with e; injection e
            have hcm := hc2 m.toNat (by rw [addF_len]; omega)
            rw [hat] at hcm
            obtain ⟨d1, d2⟩ := hcm
            have hsm := hs2 m.toNat (gI u m.toNat + x) (by rw [addF_len]; omega)
            rw [hstep] at hsm
            have hu1 := HG.out.uok m.toNat (by omega)
            have hl1 := HG.out.okt m.toNat hml
            obtain ⟨hu1a, hu1b⟩ := hu1
            obtain ⟨_, _, hl1a, hl1b, _⟩ := hl1
            have d3 : wr.cell? ⟨gO, 1, none⟩ = some (.slice (some ⟨g5, 0, none⟩) u.length c5) := hO.out.cell 1
            have hne1 : gO ≠ g5 := by
              rintro rfl
              rw [hO.out.cell] at d1
              have : m.toNat = 0 ∨ m.toNat = 1 ∨ 2 ≤ m.toNat := by omega
              rcases this with h | h | h
              · rw [h] at d1; simp at d1
              · rw [h] at d1; simp at d1
              · rw [Array.getElem?_eq_none (by simpa using h)] at d1; cases d1
            have hne2 : b ≠ g5 := by omega
            have d4 : ∀ y, (wr.setCell ⟨g5, m.toNat, none⟩ y).cell? ⟨gO, 1, none⟩ = some (.slice (some ⟨g5, 0, none⟩) u.length c5) := fun y => (blk_far hO.out (p := ⟨g5, m.toNat, none⟩) (by simpa using hne1) y).cell 1
            have d5 : ∀ y, (wr.setCell ⟨g5, m.toNat, none⟩ y).cell? ⟨b, o + k, none⟩ = some (.int .i64 m) := fun y => by
              rw [World.cell?_setCell_other _ _ _ _ (by intro e; injection e with e; exact hne2 e.symm)]; exact d0
            have hrow' : Hid ((wr.setCell ⟨g5, m.toNat, none⟩ (.int .i64 (gI u m.toNat + x))).ownsRow W3.heap.size 2 1 (.slice (some ⟨g5, 0, none⟩) u.length c5) u.length (ints (addF u (P.take (k + 1)) x))) := hsm
            have hO' : Hid (Blk (wr.setCell ⟨g5, m.toNat, none⟩ (.int .i64 (gI u m.toNat + x))) gO 26 #[.slice (some ⟨b1, o1, none⟩) l.length c, .slice (some ⟨g5, 0, none⟩) u.length c5]) := blk_far hO.out (p := ⟨g5, m.toNat, none⟩) (by simpa using hne1) _
            have hbl' : Below W3.heap.size W3 (wr.setCell ⟨g5, m.toNat, none⟩ (.int .i64 (gI u m.toNat + x))) := hbl.setCell (by simpa using hg5a) _
            clear hcc hmm hat hstep hc2 hs2 hsm hrow
            go_wp2_with fail
            go_region
            all_goals
              go_wp2_with fail
              go_roundg g
              case measure => omega
              case rel => exact ⟨k + 1, by omega, by go_num, hrow', hO', hbl'.drew⟩
          · have hrowf : Hid (wr.ownsRow W3.heap.size 2 1 (.slice (some ⟨g5, 0, none⟩) u.length c5) u.length (ints (addF u P x))) := by
              have : k = P.length := by omega
              subst this
              rw [addF_full] at hrow
              exact hrow
            have hlen : Hid (u.length = (addF u P x).length) := (addF_len _ _ _).symm
            have hK2 := Lib.hid (Blk.below K2.out hbl K2.out.lt)
            have hKlt := K2.out.lt
            have d2 : wr.cell? ⟨gO, 0, none⟩ = some (.slice (some ⟨b1, o1, none⟩) l.length c) := hO.out.cell 0
            have d3 : wr.cell? ⟨gO, 1, none⟩ = some (.slice (some ⟨g5, 0, none⟩) u.length c5) := hO.out.cell 1
            have r0 : wr.cell? ⟨w.heap.size + 1, 0, none⟩ = some (.slice none 0 0) := hK2.out.cell 0
            have r1 : wr.cell? ⟨w.heap.size + 1, 1, none⟩ = some (.slice none 0 0) := hK2.out.cell 1
            have y0 : wr.frozen? ⟨w.heap.size + 1, 0, none⟩ = false := hK2.out.thaw 0
            have y1 : wr.frozen? ⟨w.heap.size + 1, 1, none⟩ = false := hK2.out.thaw 1
            have bF := ((below_step b3 hbl).setCell (p := ⟨w.heap.size + 1, 0, none⟩) (by simp) (.slice (some ⟨b1, o1, none⟩) l.length c)).setCell (p := ⟨w.heap.size + 1, 1, none⟩) (by simp) (.slice (some ⟨g5, 0, none⟩) u.length c5)
            have T1 := Lib.hid (Rd.below' hl.out bF bF.size)
            have T2 := Lib.hid (Rd.of_own (ownsRow_setCell_below (ownsRow_setCell_below hrowf.out (a := ⟨w.heap.size + 1, 0, none⟩) hKlt (.slice (some ⟨b1, o1, none⟩) l.length c)) (a := ⟨w.heap.size + 1, 1, none⟩) hKlt (.slice (some ⟨g5, 0, none⟩) u.length c5)))
            have hend := Lib.hid (madeRes_mk (A := some ⟨b1, o1, none⟩) (A' := some ⟨g5, 0, none⟩) (c := c) (c' := c5) hcu.out hc0.out T1.out T2.out bF)
            rw [← hlen.out] at hend
            have kf := blk_set (blk_set hK2.out 0 (.slice (some ⟨b1, o1, none⟩) l.length c)) 1 (.slice (some ⟨g5, 0, none⟩) u.length c5)
            have t4 : ((wr.setCell ⟨w.heap.size + 1, 0, none⟩ (.slice (some ⟨b1, o1, none⟩) l.length c)).setCell ⟨w.heap.size + 1, 1, none⟩ (.slice (some ⟨g5, 0, none⟩) u.length c5)).cell? ⟨w.heap.size + 1, 0, none⟩ = some (.slice (some ⟨b1, o1, none⟩) l.length c) := by rw [kf.cell]; rfl
            have t5 : ((wr.setCell ⟨w.heap.size + 1, 0, none⟩ (.slice (some ⟨b1, o1, none⟩) l.length c)).setCell ⟨w.heap.size + 1, 1, none⟩ (.slice (some ⟨g5, 0, none⟩) u.length c5)).cell? ⟨w.heap.size + 1, 1, none⟩ = some (.slice (some ⟨g5, 0, none⟩) u.length c5) := by rw [kf.cell]; rfl
            clear kf bF
            go_wp2_with fail
            exact bodyPost_ret (v := .tuple #[.agg #[.slice (some ⟨b1, o1, none⟩) l.length c, .slice (some ⟨g5, 0, none⟩) u.length c5], .int .i64 0, .int .i64 (-1)]) (by simp [results, Try.results20, go_sem, t4, t5]) rfl hend.out
end Go.Proofs.Ytlipkggcakgcnaa.Rr4
