/- Rows of the call's own side by side: one is appended to, the other stays. Over any program, no condition. -/
import Derived.Test.YtjabfbeioapiaaaRr4
namespace Go.Proofs.Ytjabfbeioapiaaa.Apt
set_option maxRecDepth 100000
open Go.ChangeShapes Go.WideShapes Go.ChangeAt Go.RowKit Mem Tre Ref3 Law3 Rr4
set_option linter.unusedVariables false
theorem wpList_appRG {P : Program} {w : World} {ops : Array Oper} {rest : List Oper} {o : Oper} {a : Act} {Q : Exit → Act → World → Prop} {Bx : Nat} {base : Nat} {e : TypeId} {size n m nm c : Nat} {v : Value} {xs news : List Value} {A : Option Addr}
    (hown : Hid (w.ownsRow base e size v n xs)) (hr : Hid (Rd w Bx A news)) (hnm : nm = n + m) (hgd : o.guard = none) (s x : Operand) (t : TypeId)
    (ho : o.op = .call { callee := .builtin .append, args := #[s, x], argTypes := #[t, t] })
    (i : TypeInfo) (z : Value) (bytes : Nat) (ht : P.underlying t = some (.slice e)) (hi : P.info? e = some i) (hz : i.zero = some z)
    (hsize : i.size = size) (hby : i.bytes = bytes) (hzs : z.cells.size = size) (hsz : 0 < size)
    (hs : a.eval s = v) (hx : a.eval x = .slice A m c) (hl : news.length = m * size) (h1 : ∀ u ∈ news, u.oneCell' = true)
    (h63 : n + m ≤ maxLen) (hbytes : (n + m) * bytes ≤ 140737488355328) (hbase : base ≤ w.heap.size)
    (h : ∀ A' c' w', Hid (w'.ownsRow base e size (.slice A' nm c') nm (xs ++ news)) → w.grownBy w' v.ownBlock → wpList P ops Q rest (a.put o.dst (.slice A' nm c')) w') :
    wpList P ops Q (o :: rest) a w := by
  refine wpList_plain hgd fun _ hK => ?_
  obtain ⟨A', c', w', hrun, h2, h3⟩ := run_appG (P := P) hown.out hr.out hnm t o.type i z bytes ht hi hz hsize hby hzs hsz hl h1 h63 hbytes hbase (c := c)
  unfold Oper.wp execOp
  simp only [ho, resolve, invoke, builtin, Sem.run_bind, Sem.run_pure, Result.andThen_ok, List.map_toArray, List.map_cons, List.map_nil, hs, hx, hrun]
  exact hK _ _ (h A' c' w' h2 h3)
section
variable {w w' : World} {b1 b2 : Nat} {e1 e2 : TypeId} {s1 s2 n1 n2 : Nat} {v1 v2 : Value} {x1 x2 : List Value}
theorem own_ne (h : w.ownsRow b1 e1 s1 v1 n1 x1) (k : w.ownsRow b2 e2 s2 v2 n2 x2) (hne : e1 ≠ e2) : v1.ownBlock = none ∨ v1.ownBlock ≠ v2.ownBlock := by
  rcases h.2 with ⟨rfl, _⟩ | ⟨g, cap, cur, rfl, _, hg, _⟩
  · exact .inl rfl
  · rcases k.2 with ⟨rfl, _⟩ | ⟨g', cap', cur', rfl, _, hg', _⟩
    · exact .inr (by simp [Value.ownBlock])
    · refine .inr fun e => ?_
      simp only [Value.ownBlock, Option.some.injEq] at e
      subst e
      rw [hg] at hg'
      injection hg' with hg'
      injection hg' with _ q
      exact hne q
theorem own_grown (h : w.ownsRow b1 e1 s1 v1 n1 x1) (k : w.ownsRow b2 e2 s2 v2 n2 x2) (hne : e1 ≠ e2) (hg : w.grownBy w' v2.ownBlock) : w'.ownsRow b1 e1 s1 v1 n1 x1 :=
  World.ownsRow.kept h hg (own_ne h k hne)
theorem blk_own_ne {g : Nat} {te : TypeId} {cs : Array Value} (h : Blk w g te cs) (k : w.ownsRow b2 e2 s2 v2 n2 x2) (hne : te ≠ e2) : some g ≠ v2.ownBlock := by
  rcases k.2 with ⟨rfl, _⟩ | ⟨g', cap', cur', rfl, _, hg', _⟩
  · simp [Value.ownBlock]
  · intro e
    simp only [Value.ownBlock, Option.some.injEq] at e
    subst e
    unfold Blk at h
    rw [h] at hg'
    injection hg' with hg'
    injection hg' with _ q
    exact hne q
theorem blk_own_grown {g : Nat} {te : TypeId} {cs : Array Value} (h : Blk w g te cs) (k : w.ownsRow b2 e2 s2 v2 n2 x2) (hne : te ≠ e2) (hg : w.grownBy w' v2.ownBlock) : Blk w' g te cs :=
  Blk_grown h hg (blk_own_ne h k hne)
/-- what lies ahead of the row's base is as it was -/
theorem grown_below {B : Nat} {w0 : World} (hb : Below B w0 w) (k : w.ownsRow b2 e2 s2 v2 n2 x2) (hg : w.grownBy w' v2.ownBlock) (hB : B ≤ b2) (hB' : B ≤ w.heap.size) : Below B w0 w' :=
  hb.grown hg hB' (fun q hq => by have := World.ownsRow.lt k q hq; omega)
end
end Go.Proofs.Ytjabfbeioapiaaa.Apt
