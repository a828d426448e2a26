/- The contract of the reference's Reserve. Condition: the State is one that may be, each node behind the one that it hangs on. -/
import Derived.Test.YtjabfbeioapiaaaRel
import Derived.Test.YtjabfbeioapiaaaLim
namespace Go.Proofs.Ytjabfbeioapiaaa.Rr4
set_option maxRecDepth 100000
open Go.ChangeShapes Go.WideShapes Go.ChangeAt Go.RowKit Mem Tre Ref3 Law3 Fix3 Crd CrdB CrdC Cpl Own Res Rel Lim
set_option linter.unusedVariables false

theorem grown_refl (w : World) (row : Option Nat) : w.grownBy w row := ⟨rfl, rfl, rfl, Nat.le_refl _, fun _ _ _ => rfl⟩
theorem run_appG {P : Program} {w : World} {Bx : Nat} {base : Nat} {e : TypeId} {size n m nm c : Nat} {v : Value} {xs news : List Value} {A : Option Addr}
    (hown : w.ownsRow base e size v n xs) (hr : Rd w Bx A news) (hnm : nm = n + m) (t ty : TypeId)
    (i : TypeInfo) (z : Value) (bytes : Nat) (ht : P.underlying t = some (.slice e)) (hi : P.info? e = some i) (hz : i.zero = some z)
    (hsize : i.size = size) (hby : i.bytes = bytes) (hzs : z.cells.size = size) (hsz : 0 < size)
    (hl : news.length = m * size) (h1 : ∀ u ∈ news, u.oneCell' = true)
    (h63 : n + m ≤ maxLen) (hbytes : (n + m) * bytes ≤ 140737488355328) (hbase : base ≤ w.heap.size) :
    ∃ A' c' w', (Builtin.append_ #[t, t] ty #[v, .slice A m c]).run P w = .ok (.slice A' nm c') w' ∧ w'.ownsRow base e size (.slice A' nm c') nm (xs ++ news) ∧ w.grownBy w' v.ownBlock := by
  subst hnm
  cases A with
  | none =>
    have hn : news = [] := by
      rcases hr with h | ⟨b, o, h, _⟩
      · exact h
      · cases h
    subst hn
    have hm : m = 0 := by
      rcases Nat.eq_zero_or_pos m with h | h
      · exact h
      · have := Nat.mul_pos h hsz; simp at hl; omega
    subst hm
    obtain ⟨A', c', rfl, _⟩ := own_form hown
    exact ⟨A', c', w, run_appNil w base t ty e i size ht hi _ n xs hown c, by simpa using hown, grown_refl _ _⟩
  | some ad =>
    have hnews : ∀ j u, news[j]? = some u → w.cell? (ad.add j) = some u := by
      intro j u hj
      rcases hr with h | ⟨b, o, h, _, hc⟩
      · subst h; simp at hj
      · injection h with h
        subst h
        rw [show (⟨b, o, none⟩ : Addr).add j = ⟨b, o + j, none⟩ by unfold Addr.add; split <;> simp_all]
        exact hc j u hj
    obtain ⟨v', w', hrun, hown', hg, _⟩ := run_append_own (P := P) w base t ty e i z size bytes ht hi hz hsize hby hzs hsz v n xs hown ad m c news hl hnews h1 h63 hbytes hbase
    obtain ⟨A', c', rfl, _⟩ := own_form hown'
    exact ⟨A', c', w', hrun, hown', hg⟩
theorem step_appG {P : Program} {w : World} {ops : Array Oper} {o : Oper} {a : Act} {K : Act → World → Prop} {Q : Exit → Act → World → Prop} {E : Prop} {Bx : Nat} {base : Nat} {e : TypeId} {size n m nm c : Nat} {v : Value} {xs news : List Value} {A : Option Addr}
    (hown : Hid (w.ownsRow base e size v n xs)) (hr : Hid (Rd w Bx A news)) (hnm : nm = n + m) (hgd : o.guard = none) (s x : Operand) (t : TypeId)
    (ho : o.op = .call { callee := .builtin .append, args := #[s, x], argTypes := #[t, t] })
    (i : TypeInfo) (z : Value) (bytes : Nat) (ht : P.underlying t = some (.slice e)) (hi : P.info? e = some i) (hz : i.zero = some z)
    (hsize : i.size = size) (hby : i.bytes = bytes) (hzs : z.cells.size = size) (hsz : 0 < size)
    (hs : a.eval s = v) (hx : a.eval x = .slice A m c) (hl : news.length = m * size) (h1 : ∀ u ∈ news, u.oneCell' = true)
    (h63 : n + m ≤ maxLen) (hbytes : (n + m) * bytes ≤ 140737488355328) (hbase : base ≤ w.heap.size)
    (h : ∀ A' c' w', Hid (w'.ownsRow base e size (.slice A' nm c') nm (xs ++ news)) → w.grownBy w' v.ownBlock → K (a.put o.dst (.slice A' nm c')) w') :
    if Region.wanted o (yielded ops a.tmps) = true then Oper.wp P o a w K Q else E := by
  have hw : Region.wanted o (yielded ops a.tmps) = true := by simp [Region.wanted, hgd]
  rw [if_pos hw]
  obtain ⟨A', c', w', hrun, h2, h3⟩ := run_appG (P := P) hown.out hr.out hnm t o.type i z bytes ht hi hz hsize hby hzs hsz hl h1 h63 hbytes hbase (c := c)
  unfold Oper.wp execOp
  simp only [ho, resolve, invoke, builtin, Sem.run_bind, Sem.run_pure, Result.andThen_ok, List.map_toArray, List.map_cons, List.map_nil, hs, hx, hrun]
  exact h A' c' w' h2 h3
theorem own_set2 {w : World} {base : Nat} {e te : TypeId} {size n g : Nat} {v : Value} {xs : List Value} {cs : Array Value} (h : w.ownsRow base e size v n xs) (hk : Blk w g te cs) (hne : e ≠ te) (x y : Value) :
    ((w.setCell ⟨g, 0, none⟩ x).setCell ⟨g, 1, none⟩ y).ownsRow base e size v n xs := by
  refine ⟨h.1, ?_⟩
  rcases h.2 with h2 | ⟨k, cap, cur, hv, hg, hh, r⟩
  · exact .inl h2
  · have hkg : k ≠ g := by
      rintro rfl
      unfold Blk at hk
      rw [hh] at hk
      injection hk with hk
      injection hk with _ q
      exact hne q
    refine .inr ⟨k, cap, cur, hv, hg, ?_, r⟩
    rw [Below.heap_setCell _ _ _ _ (by exact hkg), Below.heap_setCell _ _ _ _ (by exact hkg)]
    exact hh
theorem Blk_grown {w w' : World} {g : Nat} {te : TypeId} {cs : Array Value} {row : Option Nat} (h : Blk w g te cs) (hg : w.grownBy w' row) (hne : some g ≠ row) : Blk w' g te cs := (hg.block g h.lt hne).trans h
theorem blk_ne {W : World} {g b j n n' c c' : Nat} {te : TypeId} {a a' : Option Addr} {k : IntKind} {x : Int} (h : Blk W g te #[.slice a n c, .slice a' n' c']) (hc : W.cell? ⟨b, j, none⟩ = some (.int k x)) : b ≠ g := by
  rintro rfl
  rw [h.cell] at hc
  match j, hc with
  | 0, hc => simp at hc
  | 1, hc => simp at hc
  | j + 2, hc => simp at hc
theorem far2 {W : World} {g b j : Nat} {v x y : Value} (hc : W.cell? ⟨b, j, none⟩ = some v) (hne : b ≠ g) (N : Nat) : (((W.drewN N).setCell ⟨g, 0, none⟩ x).setCell ⟨g, 1, none⟩ y).cell? ⟨b, j, none⟩ = some v := by
  rw [World.cell?_setCell_other _ _ _ _ (by intro e; injection e with e; exact hne e.symm), World.cell?_setCell_other _ _ _ _ (by intro e; injection e with e; exact hne e.symm)]
  exact hc

end Go.Proofs.Ytjabfbeioapiaaa.Rr4
