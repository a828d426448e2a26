/- The contract of the law's From: a State of the program's as the reference has it. Condition: the State lies in memory. -/
import Derived.Test.YtlipkggcakgcnaaSm4
namespace Go.Proofs.Ytlipkggcakgcnaa.Fr4
set_option maxRecDepth 100000
open Go.ChangeShapes Go.WideShapes Go.ChangeAt Go.RowKit Mem Tre Ref3 Law3 Fix3 Crd CrdB CrdC Cpl Own Res Rr4 Sm4
set_option linter.unusedVariables false

theorem step_app1G {P : Program} {w : World} {ops : Array Oper} {o : Oper} {a : Act} {K : Act → World → Prop} {Q : Exit → Act → World → Prop} {E : Prop} {base : Nat} {e te : TypeId} {size n : Nat} {v : Value} {xs : List Value} {cs : Array Value}
    (hown : Hid (w.ownsRow base e size v n xs)) (hgd : o.guard = none) (s x : Operand) (t : TypeId)
    (ho : o.op = .call { callee := .builtin .append, args := #[s, x], argTypes := #[t, t] })
    (i : TypeInfo) (z : Value) (bytes : Nat) (ht : P.underlying t = some (.slice e)) (hi : P.info? e = some i) (hz : i.zero = some z)
    (hsize : i.size = size) (hby : i.bytes = bytes) (hzs : z.cells.size = size) (hsz : 0 < size)
    (hs : a.eval s = v) {gb : Nat} (hx : a.eval x = .slice (some ⟨gb, 0, none⟩) 1 1) (hgb : gb = w.heap.size) (news : List Value) (hn : cs.toList = news) (hl : news.length = size) (h1 : ∀ u ∈ news, u.oneCell' = true)
    (h63 : n + 1 ≤ maxLen) (hbytes : (n + 1) * bytes ≤ 140737488355328) (hbase : base ≤ w.heap.size)
    (h : ∀ A' c' w', Hid (w'.ownsRow base e size (.slice A' (n + 1) c') (n + 1) (xs ++ news)) → (w.alloc (.cells cs te)).grownBy w' v.ownBlock → K (a.put o.dst (.slice A' (n + 1) c')) w') :
    if Region.wanted o (yielded ops a.tmps) = true then Oper.wp P o a (w.alloc (.cells cs te)) K Q else E := by
  subst hgb
  have hw : Region.wanted o (yielded ops a.tmps) = true := by simp [Region.wanted, hgd]
  rw [if_pos hw]
  refine wp_append_own _ s x t ho base e i z size bytes ht hi hz hsize hby hzs hsz v n xs hs (World.ownsRow.alloc hown.out _) ⟨w.heap.size, 0, none⟩ 1 1 news hx (by omega) (one_cells hn) h1 h63 hbytes (by simp; omega) ?_
  intro v' w' hown' hg _
  obtain ⟨A', c', rfl, _⟩ := own_form hown'
  exact h A' c' w' hown' hg
theorem own_row_ne {w : World} {base : Nat} {e : TypeId} {size n : Nat} {v : Value} {xs : List Value} (h : w.ownsRow base e size v n xs) {g : Nat} (hg : g < base) : some g ≠ v.ownBlock := by
  intro e
  have := World.ownsRow.lt h g e.symm
  omega

set_option maxHeartbeats 2000000 in
theorem from_any (A A' : Option Addr) (c c' : Nat) (l : List (Int × Int)) (u : List Int) (w : World) (hl : Hid (Nds w w.heap.size A l)) (hu : Hid (Ris w w.heap.size A' u)) (hmax : (l.length : Int) ≤ 1000000) (hmay : (u.length : Int) ≤ 1000000) :
    Calls Try.prog 18 #[.agg #[.slice A l.length c, .slice A' u.length c']] w (MadeSt l u w) := by
  obtain ⟨i0, hi, hz0, hz1, hz2⟩ := info_parts rnode_info
  obtain ⟨j0, hj, hj0, hj1, hj2⟩ := info_parts i64_info
  obtain ⟨W, hW⟩ : ∃ W, W = (((w.alloc (.cells #[.slice A l.length c, .slice A' u.length c'] 31)).alloc (.cells #[.slice none 0 0, .slice none 0 0] 26)).alloc (.cells #[] 2)) := ⟨_, rfl⟩
  have HW := Lib.hid hW
  have b0 : Below w.heap.size w W := by rw [hW]; exact (((Below.refl _ _).alloc (Nat.le_refl _) _).alloc (by simp) _).alloc (by simp; omega) _
  have k1 : Hid (Blk W w.heap.size 31 #[.slice A l.length c, .slice A' u.length c']) := by rw [hW]; exact ((Blk.fresh w _ _).alloc _).alloc _
  have k2 : Hid (Blk W (w.heap.size + 1) 26 #[.slice none 0 0, .slice none 0 0]) := by
    have := Blk.fresh (w.alloc (.cells #[.slice A l.length c, .slice A' u.length c'] 31)) 26 #[.slice none 0 0, .slice none 0 0]
    simp only [World.size_alloc] at this
    rw [hW]; exact this.alloc _
  have k3 : Blk W (w.heap.size + 2) 2 #[] := by
    have := Blk.fresh ((w.alloc (.cells #[.slice A l.length c, .slice A' u.length c'] 31)).alloc (.cells #[.slice none 0 0, .slice none 0 0] 26)) 2 #[]
    simp only [World.size_alloc] at this
    rw [hW]; exact this
  have how : Hid (W.ownsRow (w.heap.size + 2) 2 1 (.slice (some ⟨w.heap.size + 2, 0, none⟩) 0 0) 0 []) := own_empty k3 (Nat.le_refl _)
  have hszW : W.heap.size = w.heap.size + 3 := by rw [hW]; simp
  have hbl : Below (w.heap.size + 2) W W := Below.refl _ _
  have hru : Hid (Rd W w.heap.size A' (ints u)) := Rd.below hu.out b0
  have f1 : W.cell? ⟨w.heap.size, 1, none⟩ = some (.slice A' u.length c') := k1.out.cell 1
  have hs1 : w.heap.size + 2 ≤ W.heap.size := by omega
  have HZ := Lib.hid hszW
  clear hW k3 hszW
  go_enter Try.func18, Try.ntmps18
  go_wp2_with (at_builtin; rw [← HW.out]; refine wpList_appR (nm := u.length) how hbl hru (by simp) rfl _ _ _ rfl j0 (.int .i64 0) 8 Try.underlying24 hj hj0 hj1 hj2 rfl (by decide) rfl rfl (by rw [ints_len]; omega) (ints_one u) (by unfold maxLen; omega) (by omega) (Nat.le_refl _) hs1 hs1 ?_; intro A5 c5 w5 hown5 hb5 hsz5)
  have kO : Hid (Blk (w5.alloc (.cells #[.slice none 0 0, .slice A5 u.length c5] 26)) w5.heap.size 26 #[.slice none 0 0, .slice A5 u.length c5]) := Blk.fresh _ _ _
  have hb6 : Below (w.heap.size + 2) W (w5.alloc (.cells #[.slice none 0 0, .slice A5 u.length c5] 26)) := hb5.alloc (by omega) _
  have hu6 : Hid ((w5.alloc (.cells #[.slice none 0 0, .slice A5 u.length c5] 26)).ownsRow (w.heap.size + 2) 2 1 (.slice A5 u.length c5) u.length (ints u)) := World.ownsRow.alloc hown5.out _
  have hz6 : (w5.alloc (.cells #[.slice none 0 0, .slice A5 u.length c5] 26)).heap.size = w5.heap.size + 1 := World.size_alloc _ _
  have hgO : w.heap.size + 2 ≤ w5.heap.size := by omega
  have hfr : ∀ q, (Value.slice A5 u.length c5).ownBlock = some q → q < w5.heap.size := fun q hq => (World.ownsRow.lt hown5.out q hq).2
  have HFR := Lib.hid hfr
  have H6 := Lib.hid hz6
  clear hown5 hb5 hsz5 hfr hz6 hru hbl how f1
  generalize w5.alloc (.cells #[.slice none 0 0, .slice A5 u.length c5] 26) = w6 at kO hb6 hu6 H6 ⊢
  generalize w5.heap.size = gO at kO hgO HFR H6 ⊢
  have hg6 : gO < w6.heap.size := kO.out.lt
  have k1' := Lib.hid (Blk.below k1.out hb6 (by omega))
  have k2' := Lib.hid (Blk.below k2.out hb6 (by omega))
  have b6 : Below w.heap.size w w6 := b0.trans (hb6.mono (by omega))
  go_loopg [4] l.length (fun g s4 w' => ∃ (k : Nat) (Ak : Option Addr) (ck : Nat), k + g = l.length ∧ s4 = .int .i64 k ∧ Hid (Blk w' gO 26 #[.slice Ak k ck, .slice A5 u.length c5]) ∧ Hid (w'.ownsRow (gO + 1) 57 2 (.slice Ak k ck) k (nds (l.take k))) ∧ Below gO w6 w')
  case atStart => exact ⟨0, none, 0, by omega, rfl, kO, World.ownsRow_nil _ _ _ _, Below.refl _ _⟩
  case round =>
    obtain ⟨k, Ak, ck, hk, rfl, hO, hown, hbl⟩ := hrel
    have hq1 := Lib.hid (Blk.below k1'.out hbl (by omega))
    have f0 : wr.cell? ⟨w.heap.size, 0, none⟩ = some (.slice A l.length c) := hq1.out.cell 0
    have f2 : wr.cell? ⟨gO, 0, none⟩ = some (.slice Ak k ck) := hO.out.cell 0
    have f3 : wr.cell? ⟨gO, 1, none⟩ = some (.slice A5 u.length c5) := hO.out.cell 1
    have hgr := hO.out.lt
    by_cases hlt : (k : Int) < (l.length : Int)
    · obtain ⟨g, rfl⟩ : ∃ g, gk = g + 1 := ⟨gk - 1, by omega⟩
      have hlw : Nds wr w.heap.size A l := Rd.below hl.out (b6.trans (hbl.mono (by omega)))
      obtain ⟨b, o, rfl, hb, hcc⟩ := Nds.at hlw (by omega)
      have d0 := (hcc k (by omega)).1
      have d1 := (hcc k (by omega)).2
      have hbw : b < wr.heap.size := by omega
      have hsw : w.heap.size < wr.heap.size := by omega
      have d0' : ∀ X, (wr.alloc X).cell? ⟨b, o + k * 2, none⟩ = some (.int .i64 (nP l k)) := fun X => (World.cell?_alloc_lt wr X ⟨b, o + k * 2, none⟩ hbw).trans d0
      have d1' : ∀ X, (wr.alloc X).cell? ⟨b, o + k * 2 + 1, none⟩ = some (.int .i64 (nC l k)) := fun X => (World.cell?_alloc_lt wr X ⟨b, o + k * 2 + 1, none⟩ hbw).trans d1
      have f2' : ∀ X, (wr.alloc X).cell? ⟨gO, 0, none⟩ = some (.slice Ak k ck) := fun X => (World.cell?_alloc_lt wr X ⟨gO, 0, none⟩ hgr).trans f2
      have f0' : ∀ X, (wr.alloc X).cell? ⟨w.heap.size, 0, none⟩ = some (.slice (some ⟨b, o, none⟩) l.length c) := fun X => (World.cell?_alloc_lt wr X ⟨w.heap.size, 0, none⟩ hsw).trans f0
      have hpre : Hid (nds (l.take (k + 1)) = nds (l.take k) ++ [.int .i64 (nP l k), .int .i64 (nC l k)]) := by show _ = _; rw [take_snoc (by omega), nds_snoc]
      clear hcc hlw
      go_wp2_with fail
      go_region_law ((refine step_app1G (own_drew hown) rfl _ _ _ rfl i0 (.agg #[.int .i64 0, .int .i64 0]) 16 Try.underlying22 hi hz0 hz1 hz2 rfl (by decide) rfl rfl rfl [.int .i64 (nP l k), .int .i64 (nC l k)] rfl rfl (by simp [Value.oneCell']) (by unfold maxLen; omega) (by omega) hgr ?_; intro A1 c1 w1 hown1 hgr1; have hO1 := Lib.hid (Blk_grown (Blk.alloc (w := wr.drew) hO.out _) hgr1 (own_row_ne hown.out (by omega))); have s0 : w1.cell? ⟨gO, 0, none⟩ = some (.slice Ak k ck) := hO1.out.cell 0; have s1 : w1.frozen? ⟨gO, 0, none⟩ = false := hO1.out.thaw 0))
      all_goals
        have hO2 := Lib.hid (blk_set hO1.out 0 (.slice A1 (k + 1) c1))
        have hown2 : Hid ((w1.setCell ⟨gO, 0, none⟩ (.slice A1 (k + 1) c1)).ownsRow (gO + 1) 57 2 (.slice A1 (k + 1) c1) (k + 1) (nds (l.take (k + 1)))) := by
          rw [hpre.out]
          exact ownsRow_setCell_below hown1.out (by simp) _
        have hbl2 : Below gO w6 (w1.setCell ⟨gO, 0, none⟩ (.slice A1 (k + 1) c1)) := by
          refine (((hbl.drew).alloc (by simp; omega) _).grown hgr1 (by simp; omega) ?_).setCell (Nat.le_refl _) _
          intro q hq
          have := World.ownsRow.lt hown.out q hq
          omega
        clear hO1 hown1 hgr1
        go_wp2_with fail
        go_roundg g
        case measure => omega
        case rel => exact ⟨k + 1, A1, c1, by omega, by go_num, hO2, hown2, hbl2⟩
    · have hkl : Hid (k = l.length) := by show _ = _; omega
      have hown' : Hid (wr.ownsRow (gO + 1) 57 2 (.slice Ak k ck) k (nds l)) := by
        have := hown.out
        rw [hkl.out, List.take_length] at this
        rw [hkl.out]
        exact this
      have hq2 := Lib.hid (Blk.below k2'.out hbl (by omega))
      have r0 : wr.cell? ⟨w.heap.size + 1, 0, none⟩ = some (.slice none 0 0) := hq2.out.cell 0
      have r1 : wr.cell? ⟨w.heap.size + 1, 1, none⟩ = some (.slice none 0 0) := hq2.out.cell 1
      have y0 : wr.frozen? ⟨w.heap.size + 1, 0, none⟩ = false := hq2.out.thaw 0
      have y1 : wr.frozen? ⟨w.heap.size + 1, 1, none⟩ = false := hq2.out.thaw 1
      have bF := ((b6.trans (hbl.mono (by omega))).setCell (p := ⟨w.heap.size + 1, 0, none⟩) (by simp) (.slice Ak k ck)).setCell (p := ⟨w.heap.size + 1, 1, none⟩) (by simp) (.slice A5 u.length c5)
      have T1 := Lib.hid (Rd.of_own (ownsRow_setCell_below (ownsRow_setCell_below hown'.out (a := ⟨w.heap.size + 1, 0, none⟩) (by show w.heap.size + 1 < gO + 1; omega) (.slice Ak k ck)) (a := ⟨w.heap.size + 1, 1, none⟩) (by show w.heap.size + 1 < gO + 1; omega) (.slice A5 u.length c5)))
      have hu7 : wr.ownsRow (w.heap.size + 2) 2 1 (.slice A5 u.length c5) u.length (ints u) := by
        refine World.ownsRow.kept (row := some gO) hu6.out ⟨hbl.os, hbl.tape, hbl.output, hbl.size, fun q hq hne => ?_⟩ ?_
        · have : q ≠ gO := fun e => hne (by rw [e])
          exact hbl.block q (by have := H6.out; omega)
        · cases hv : (Value.slice A5 u.length c5).ownBlock with
          | none => exact .inl rfl
          | some q =>
            right
            intro e
            injection e with e
            have := HFR.out q hv
            omega
      have T2 := Lib.hid (Rd.of_own (ownsRow_setCell_below (ownsRow_setCell_below hu7 (a := ⟨w.heap.size + 1, 0, none⟩) (by show w.heap.size + 1 < w.heap.size + 2; omega) (.slice Ak k ck)) (a := ⟨w.heap.size + 1, 1, none⟩) (by show w.heap.size + 1 < w.heap.size + 2; omega) (.slice A5 u.length c5)))
      have kf := blk_set (blk_set hq2.out 0 (.slice Ak k ck)) 1 (.slice A5 u.length c5)
      have t4 : ((wr.setCell ⟨w.heap.size + 1, 0, none⟩ (.slice Ak k ck)).setCell ⟨w.heap.size + 1, 1, none⟩ (.slice A5 u.length c5)).cell? ⟨w.heap.size + 1, 0, none⟩ = some (.slice Ak k ck) := by rw [kf.cell]; rfl
      have t5 : ((wr.setCell ⟨w.heap.size + 1, 0, none⟩ (.slice Ak k ck)).setCell ⟨w.heap.size + 1, 1, none⟩ (.slice A5 u.length c5)).cell? ⟨w.heap.size + 1, 1, none⟩ = some (.slice A5 u.length c5) := by rw [kf.cell]; rfl
      have hend := Lib.hid (madeSt_mk (A := Ak) (A' := A5) (c := ck) (c' := c5) hkl.out rfl T1.out T2.out bF)
      clear kf bF hu7 hown hown'
      go_wp2_with fail
      exact bodyPost_ret (v := .agg #[.slice Ak k ck, .slice A5 u.length c5]) (by simp [results, Try.results18, go_sem, t4, t5]) rfl hend.out
end Go.Proofs.Ytlipkggcakgcnaa.Fr4
