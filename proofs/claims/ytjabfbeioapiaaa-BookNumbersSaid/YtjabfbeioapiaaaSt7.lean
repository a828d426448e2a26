/- Words for a struct of seven cells that is stored, and for a Config in new memory; append to a row beside other blocks. No condition. -/
import Derived.Test.YtjabfbeioapiaaaRul1
import Derived.Test.YtjabfbeioapiaaaFr4
import Derived.Deep.RegionHeld3
import Derived.Deep.DeepCutAuto
namespace Go.Proofs.Ytjabfbeioapiaaa.St7
set_option maxRecDepth 100000
open Go.ChangeShapes Go.WideShapes Go.ChangeAt Go.RowKit Mem Tre Ref3 Law3 Fix3 Opn Bnd Flo Cfg CrdB CrdC Rr4 Fr4
set_option linter.unusedVariables false
attribute [local go_sem] run_store_float

theorem wpList_app1G {P : Program} {w : World} {ops : Array Oper} {rest : List Oper} {o : Oper} {a : Act} {Q : Exit → Act → World → Prop} {base : Nat} {e te : TypeId} {size n : Nat} {v : Value} {xs : List Value} {cs : Array Value}
    (hown : Hid (w.ownsRow base e size v n xs)) (hgd : o.guard = none) (s x : Operand) (t : TypeId)
    (ho : o.op = .call { callee := .builtin .append, args := #[s, x], argTypes := #[t, t] })
    (i : TypeInfo) (z : Value) (bytes : Nat) (ht : P.underlying t = some (.slice e)) (hi : P.info? e = some i) (hz : i.zero = some z)
    (hsize : i.size = size) (hby : i.bytes = bytes) (hzs : z.cells.size = size) (hsz : 0 < size)
    (hs : a.eval s = v) {gb : Nat} (hx : a.eval x = .slice (some ⟨gb, 0, none⟩) 1 1) (hgb : gb = w.heap.size) (news : List Value) (hn : cs.toList = news) (hl : news.length = size) (h1 : ∀ u ∈ news, u.oneCell' = true)
    (h63 : n + 1 ≤ maxLen) (hbytes : (n + 1) * bytes ≤ 140737488355328) (hbase : base ≤ w.heap.size)
    (h : ∀ A' c' w', Hid (w'.ownsRow base e size (.slice A' (n + 1) c') (n + 1) (xs ++ news)) → (w.alloc (.cells cs te)).grownBy w' v.ownBlock → wpList P ops Q rest (a.put o.dst (.slice A' (n + 1) c')) w') :
    wpList P ops Q (o :: rest) a (w.alloc (.cells cs te)) := by
  subst hgb
  refine wpList_append_own _ hgd s x t ho base e i z size bytes ht hi hz hsize hby hzs hsz v n xs hs (World.ownsRow.alloc hown.out _) ⟨w.heap.size, 0, none⟩ 1 1 news hx (by omega) (one_cells hn) h1 h63 hbytes (by simp; omega) ?_
  intro v' w' hown' hg _
  obtain ⟨A', c', rfl, _⟩ := own_form hown'
  exact h A' c' w' hown' hg

/-- a struct of seven cells is stored -/
def st7 (W : World) (g : Nat) (a b c d e f h : Value) : World :=
  ((((((W.setCell ⟨g, 0, none⟩ a).setCell ⟨g, 1, none⟩ b).setCell ⟨g, 2, none⟩ c).setCell ⟨g, 3, none⟩ d).setCell ⟨g, 4, none⟩ e).setCell ⟨g, 5, none⟩ f).setCell ⟨g, 6, none⟩ h
theorem st7_blk {W : World} {g : Nat} {te : TypeId} {v0 v1 v2 v3 v4 v5 v6 a b c d e f h : Value} (hk : Blk W g te #[v0, v1, v2, v3, v4, v5, v6]) : Blk (st7 W g a b c d e f h) g te #[a, b, c, d, e, f, h] := by
  have k0 : Blk (W.setCell ⟨g, 0, none⟩ a) g te #[a, v1, v2, v3, v4, v5, v6] := blk_set hk 0 a
  have k1 : Blk ((W.setCell ⟨g, 0, none⟩ a).setCell ⟨g, 1, none⟩ b) g te #[a, b, v2, v3, v4, v5, v6] := blk_set k0 1 b
  have k2 : Blk (((W.setCell ⟨g, 0, none⟩ a).setCell ⟨g, 1, none⟩ b).setCell ⟨g, 2, none⟩ c) g te #[a, b, c, v3, v4, v5, v6] := blk_set k1 2 c
  have k3 : Blk ((((W.setCell ⟨g, 0, none⟩ a).setCell ⟨g, 1, none⟩ b).setCell ⟨g, 2, none⟩ c).setCell ⟨g, 3, none⟩ d) g te #[a, b, c, d, v4, v5, v6] := blk_set k2 3 d
  have k4 : Blk (((((W.setCell ⟨g, 0, none⟩ a).setCell ⟨g, 1, none⟩ b).setCell ⟨g, 2, none⟩ c).setCell ⟨g, 3, none⟩ d).setCell ⟨g, 4, none⟩ e) g te #[a, b, c, d, e, v5, v6] := blk_set k3 4 e
  have k5 : Blk ((((((W.setCell ⟨g, 0, none⟩ a).setCell ⟨g, 1, none⟩ b).setCell ⟨g, 2, none⟩ c).setCell ⟨g, 3, none⟩ d).setCell ⟨g, 4, none⟩ e).setCell ⟨g, 5, none⟩ f) g te #[a, b, c, d, e, f, v6] := blk_set k4 5 f
  have k6 : Blk (((((((W.setCell ⟨g, 0, none⟩ a).setCell ⟨g, 1, none⟩ b).setCell ⟨g, 2, none⟩ c).setCell ⟨g, 3, none⟩ d).setCell ⟨g, 4, none⟩ e).setCell ⟨g, 5, none⟩ f).setCell ⟨g, 6, none⟩ h) g te #[a, b, c, d, e, f, h] := blk_set k5 6 h
  exact k6
theorem st7_below {B : Nat} {w0 W : World} {g : Nat} {a b c d e f h : Value} (hb : Below B w0 W) (hg : B ≤ g) : Below B w0 (st7 W g a b c d e f h) :=
  ((((((hb.setCell (p := ⟨g, 0, none⟩) hg a).setCell (p := ⟨g, 1, none⟩) hg b).setCell (p := ⟨g, 2, none⟩) hg c).setCell (p := ⟨g, 3, none⟩) hg d).setCell (p := ⟨g, 4, none⟩) hg e).setCell (p := ⟨g, 5, none⟩) hg f).setCell (p := ⟨g, 6, none⟩) hg h
theorem st7_own {W : World} {g base : Nat} {e : TypeId} {size n : Nat} {v : Value} {xs : List Value} {a b c d e' f h : Value} (ho : W.ownsRow base e size v n xs) (hg : g < base) : (st7 W g a b c d e' f h).ownsRow base e size v n xs :=
  ownsRow_setCell_below (ownsRow_setCell_below (ownsRow_setCell_below (ownsRow_setCell_below (ownsRow_setCell_below (ownsRow_setCell_below (ownsRow_setCell_below ho (a := ⟨g, 0, none⟩) hg a) (a := ⟨g, 1, none⟩) hg b) (a := ⟨g, 2, none⟩) hg c) (a := ⟨g, 3, none⟩) hg d) (a := ⟨g, 4, none⟩) hg e') (a := ⟨g, 5, none⟩) hg f) (a := ⟨g, 6, none⟩) hg h
theorem st7_size {W : World} {g : Nat} {a b c d e f h : Value} : (st7 W g a b c d e f h).heap.size = W.heap.size := by simp [st7]
theorem st7_cells {W : World} {g : Nat} {te : TypeId} {v0 v1 v2 v3 v4 v5 v6 a b c d e f h : Value} (hk : Blk W g te #[v0, v1, v2, v3, v4, v5, v6]) :
    (st7 W g a b c d e f h).cell? ⟨g, 0, none⟩ = some a ∧ (st7 W g a b c d e f h).cell? ⟨g, 1, none⟩ = some b ∧ (st7 W g a b c d e f h).cell? ⟨g, 2, none⟩ = some c ∧ (st7 W g a b c d e f h).cell? ⟨g, 3, none⟩ = some d ∧
    (st7 W g a b c d e f h).cell? ⟨g, 4, none⟩ = some e ∧ (st7 W g a b c d e f h).cell? ⟨g, 5, none⟩ = some f ∧ (st7 W g a b c d e f h).cell? ⟨g, 6, none⟩ = some h :=
  have k := st7_blk (a := a) (b := b) (c := c) (d := d) (e := e) (f := f) (h := h) hk
  ⟨k.cell 0, k.cell 1, k.cell 2, k.cell 3, k.cell 4, k.cell 5, k.cell 6⟩

/-- a Config in new memory -/
def MadeCf (sh wi ra ta : Int) (nd : List (Int × Int)) (ac : List Int) (sy : List (Int × Int × Int × Nat)) (w : World) (e : Ending) (w' : World) : Prop :=
  ∃ A B C c d f, e = .returned (.agg #[.int .i64 sh, .int .i64 wi, .int .i64 ra, .int .i64 ta, .slice A nd.length c, .slice B ac.length d, .slice C sy.length f]) ∧ Nds w' w'.heap.size A nd ∧ Ris w' w'.heap.size B ac ∧ Smb w' w'.heap.size C sy ∧ Below w.heap.size w w'
theorem madeCf_mk {sh wi ra ta : Int} {nd : List (Int × Int)} {ac : List Int} {sy : List (Int × Int × Int × Nat)} {A B C : Option Addr} {n m k c d f : Nat} {w w' : World} (h1 : n = nd.length) (h2 : m = ac.length) (h3 : k = sy.length)
    (hn : Nds w' w'.heap.size A nd) (ha : Ris w' w'.heap.size B ac) (hs : Smb w' w'.heap.size C sy) (hb : Below w.heap.size w w') :
    MadeCf sh wi ra ta nd ac sy w (.returned (.agg #[.int .i64 sh, .int .i64 wi, .int .i64 ra, .int .i64 ta, .slice A n c, .slice B m d, .slice C k f])) w' := by
  subst h1; subst h2; subst h3; exact ⟨A, B, C, c, d, f, rfl, hn, ha, hs, hb⟩
theorem sym_info : (Try.prog.info? 56).map (fun i => (i.zero, i.size, i.bytes)) = some (some (.agg #[.int .i64 0, .int .i64 0, .int .i64 0, .float .f64 0]), 4, 32) := by kernel_rfl

end Go.Proofs.Ytjabfbeioapiaaa.St7
