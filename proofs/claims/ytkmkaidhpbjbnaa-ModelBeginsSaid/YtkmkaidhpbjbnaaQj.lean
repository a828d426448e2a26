/- Texts side by side: each has its own first line. -/
import Derived.OpenShut
import Derived.Lib.SmallJoins
import Derived.Deep.Fields
import Derived.Deep.Slices
import Derived.ChangeSame
import Derived.SizedLaws
import Derived.Test.YtkmkaidhpbjbnaaQb
import Derived.Test.YtkmkaidhpbjbnaaQc
import Derived.Test.YtkmkaidhpbjbnaaQd
import Derived.Test.YtkmkaidhpbjbnaaQe
import Derived.Test.YtkmkaidhpbjbnaaQf
import Derived.Test.YtkmkaidhpbjbnaaQh
import Derived.Test.YtkmkaidhpbjbnaaQi
/- The contract of the reference's Fix of a Config. Condition: the Config lies in memory, its numbers are of 64 bits. -/
namespace Go.Proofs.Ytkmkaidhpbjbnaa.Rul7
set_option maxRecDepth 100000
open Go.ChangeShapes Go.WideShapes Go.ChangeAt Go.RowKit Mem Tre Ref3 Law3 Fix3 Opn Bnd Flo Cfg CrdB CrdC Rr4 Fr4 St7 Rul6 Fcf Fown Lat
set_option linter.unusedVariables false
set_option linter.unusedSimpArgs false
attribute [local go_sem] run_store_float

theorem s5_of {W : World} {g : Nat} {te : TypeId} {v0 v1 v2 v3 v4 v5 v6 : Value} (hk : Blk W g te #[v0, v1, v2, v3, v4, v5, v6]) :
    W.cell? ⟨g, 0, none⟩ = some v0 ∧ W.cell? ⟨g, 1, none⟩ = some v1 ∧ W.cell? ⟨g, 2, none⟩ = some v2 ∧ W.cell? ⟨g, 3, none⟩ = some v3 ∧ W.cell? ⟨g, 4, none⟩ = some v4 :=
  ⟨hk.cell 0, hk.cell 1, hk.cell 2, hk.cell 3, hk.cell 4⟩
theorem s75_of {W : World} {g gZ : Nat} {te : TypeId} {v0 v1 v2 v3 v4 v5 v6 : Value} (hk : Blk W g te #[v0, v1, v2, v3, v4, v5, v6]) (hne : g ≠ gZ) : ∀ a b c d e f h : Value, (((((((W.setCell ⟨gZ, 0, none⟩ a).setCell ⟨gZ, 1, none⟩ b).setCell ⟨gZ, 2, none⟩ c).setCell ⟨gZ, 3, none⟩ d).setCell ⟨gZ, 4, none⟩ e).setCell ⟨gZ, 5, none⟩ f).setCell ⟨gZ, 6, none⟩ h).cell? ⟨g, 0, none⟩ = some v0 ∧ (((((((W.setCell ⟨gZ, 0, none⟩ a).setCell ⟨gZ, 1, none⟩ b).setCell ⟨gZ, 2, none⟩ c).setCell ⟨gZ, 3, none⟩ d).setCell ⟨gZ, 4, none⟩ e).setCell ⟨gZ, 5, none⟩ f).setCell ⟨gZ, 6, none⟩ h).cell? ⟨g, 1, none⟩ = some v1 ∧ (((((((W.setCell ⟨gZ, 0, none⟩ a).setCell ⟨gZ, 1, none⟩ b).setCell ⟨gZ, 2, none⟩ c).setCell ⟨gZ, 3, none⟩ d).setCell ⟨gZ, 4, none⟩ e).setCell ⟨gZ, 5, none⟩ f).setCell ⟨gZ, 6, none⟩ h).cell? ⟨g, 2, none⟩ = some v2 ∧ (((((((W.setCell ⟨gZ, 0, none⟩ a).setCell ⟨gZ, 1, none⟩ b).setCell ⟨gZ, 2, none⟩ c).setCell ⟨gZ, 3, none⟩ d).setCell ⟨gZ, 4, none⟩ e).setCell ⟨gZ, 5, none⟩ f).setCell ⟨gZ, 6, none⟩ h).cell? ⟨g, 3, none⟩ = some v3 ∧ (((((((W.setCell ⟨gZ, 0, none⟩ a).setCell ⟨gZ, 1, none⟩ b).setCell ⟨gZ, 2, none⟩ c).setCell ⟨gZ, 3, none⟩ d).setCell ⟨gZ, 4, none⟩ e).setCell ⟨gZ, 5, none⟩ f).setCell ⟨gZ, 6, none⟩ h).cell? ⟨g, 4, none⟩ = some v4 :=
  fun a b c d e f h => s5_of (st7_far (a := a) (b := b) (c := c) (d := d) (e := e) (f := f) (h := h) hk hne)
def FxR (sh wi ra ta : Int) (A B C : Option Addr) (c d f : Nat) (nd : List (Int × Int)) (ac : List Int) (sy : List (Int × Int × Int × Nat)) (w : World) (s3 : Value) (wx : World) : Prop := ∃ (gO : Nat) (A1 : Option Addr) (c1 : Nat), s3 = .pointer (some ⟨gO, 0, none⟩) ∧ w.heap.size + 2 ≤ gO ∧ Hid (Blk wx gO 29 #[.int .i64 (1 + modF sh 3), .int .i64 (modF wi 4), .int .i64 (1 + modF ra 6), .int .i64 (1 + modF ta 8), .slice A1 (fixF nd).length c1, .slice none 0 0, .slice none 0 0]) ∧ Hid (Blk wx w.heap.size 29 #[.int .i64 sh, .int .i64 wi, .int .i64 ra, .int .i64 ta, .slice A nd.length c, .slice B ac.length d, .slice C sy.length f]) ∧ Hid (Blk wx (w.heap.size + 1) 29 #[.int .i64 0, .int .i64 0, .int .i64 0, .int .i64 0, .slice none 0 0, .slice none 0 0, .slice none 0 0]) ∧ Hid (wx.ownsRow (w.heap.size + 2) 109 2 (.slice A1 (fixF nd).length c1) (fixF nd).length (nds (fixF nd))) ∧ Below w.heap.size w wx
theorem fe1 {sh wi ra ta : Int} {A B C A1 : Option Addr} {c d f c1 : Nat} {nd : List (Int × Int)} {ac : List Int} {sy : List (Int × Int × Int × Nat)} {w w5 : World} (kB5 : Blk w5 w.heap.size 29 #[.int .i64 sh, .int .i64 wi, .int .i64 ra, .int .i64 ta, .slice A nd.length c, .slice B ac.length d, .slice C sy.length f]) (kR5 : Blk w5 (w.heap.size + 1) 29 #[.int .i64 0, .int .i64 0, .int .i64 0, .int .i64 0, .slice none 0 0, .slice none 0 0, .slice none 0 0]) (N5 : w5.ownsRow (w.heap.size + 2) 109 2 (.slice A1 (fixF nd).length c1) (fixF nd).length (nds (fixF nd))) (b5 : Below w.heap.size w w5) :
    FxR sh wi ra ta A B C c d f nd ac sy w (.pointer (some ⟨w5.heap.size, 0, none⟩)) (w5.alloc (.cells #[.int .i64 (1 + modF sh 3), .int .i64 (modF wi 4), .int .i64 (1 + modF ra 6), .int .i64 (1 + modF ta 8), .slice A1 (fixF nd).length c1, .slice none 0 0, .slice none 0 0] 29)) :=
  ⟨w5.heap.size, A1, c1, rfl, by have := kR5.lt; omega, Blk.fresh _ _ _, kB5.alloc _, kR5.alloc _, World.ownsRow.alloc N5 _, below_up b5 _⟩
theorem fe2 {sh wi ra ta : Int} {A B C A1 : Option Addr} {c d f c1 gZ : Nat} {nd : List (Int × Int)} {ac : List Int} {sy : List (Int × Int × Int × Nat)} {w w5 : World} (kB5 : Blk w5 w.heap.size 29 #[.int .i64 sh, .int .i64 wi, .int .i64 ra, .int .i64 ta, .slice A nd.length c, .slice B ac.length d, .slice C sy.length f]) (kR5 : Blk w5 (w.heap.size + 1) 29 #[.int .i64 0, .int .i64 0, .int .i64 0, .int .i64 0, .slice none 0 0, .slice none 0 0, .slice none 0 0]) (N5 : w5.ownsRow (w.heap.size + 2) 109 2 (.slice A1 (fixF nd).length c1) (fixF nd).length (nds (fixF nd))) (b5 : Below w.heap.size w w5) (kZ5 : Blk w5 gZ 29 #[.int .i64 0, .int .i64 0, .int .i64 0, .int .i64 0, .slice none 0 0, .slice none 0 0, .slice none 0 0]) (hz : w.heap.size + 2 ≤ gZ) :
    FxR sh wi ra ta A B C c d f nd ac sy w (.pointer (some ⟨gZ, 0, none⟩)) (((((((w5.setCell ⟨gZ, 0, none⟩ (.int .i64 (1 + modF sh 3))).setCell ⟨gZ, 1, none⟩ (.int .i64 (modF wi 4))).setCell ⟨gZ, 2, none⟩ (.int .i64 (1 + modF ra 6))).setCell ⟨gZ, 3, none⟩ (.int .i64 (1 + modF ta 8))).setCell ⟨gZ, 4, none⟩ (.slice A1 (fixF nd).length c1)).setCell ⟨gZ, 5, none⟩ (.slice none 0 0)).setCell ⟨gZ, 6, none⟩ (.slice none 0 0)) :=
  ⟨gZ, A1, c1, rfl, hz, st7_blk kZ5, st7_far kB5 (by omega), st7_far kR5 (by omega), own_st7 N5 kZ5 (by decide), st7_below b5 (by omega)⟩
theorem own_oneI {w : World} {g : Nat} {te : TypeId} {base : Nat} {x : Int} (h : Blk w g te #[.int .i64 x]) (hb : base ≤ g) : w.ownsRow base te 1 (.slice (some ⟨g, 0, none⟩) 1 1) 1 (ints [x]) :=
  ⟨by simp [ints], .inr ⟨g, 1, #[.int .i64 x], rfl, hb, h, Nat.le_refl _, by unfold maxLen; omega, by simp, by simp [ints]⟩⟩
def Lq (sh wi ra ta : Int) (A B C : Option Addr) (c d f : Nat) (nd : List (Int × Int)) (ac : List Int) (sy : List (Int × Int × Int × Nat)) (w : World) (gO k j : Nat) (A1 A3 Ak : Option Addr) (c1 c3 ck : Nat) (wx : World) : Prop :=
  Hid (Blk wx gO 29 #[.int .i64 (1 + modF sh 3), .int .i64 (modF wi 4), .int .i64 (1 + modF ra 6), .int .i64 (1 + modF ta 8), .slice A1 (fixF nd).length c1, .slice A3 k c3, .slice Ak j ck]) ∧ Hid (Blk wx w.heap.size 29 #[.int .i64 sh, .int .i64 wi, .int .i64 ra, .int .i64 ta, .slice A nd.length c, .slice B ac.length d, .slice C sy.length f]) ∧ Hid (Blk wx (w.heap.size + 1) 29 #[.int .i64 0, .int .i64 0, .int .i64 0, .int .i64 0, .slice none 0 0, .slice none 0 0, .slice none 0 0]) ∧ Hid (wx.ownsRow (w.heap.size + 2) 109 2 (.slice A1 (fixF nd).length c1) (fixF nd).length (nds (fixF nd))) ∧ Hid (wx.ownsRow (w.heap.size + 2) 3 1 (.slice A3 k c3) k (ints (fixA (fixF nd).length ac))) ∧ Hid (wx.ownsRow (w.heap.size + 2) 71 4 (.slice Ak j ck) j (smbs ((sy.take j).map oneS))) ∧ Hid (Below w.heap.size w wx)
theorem Lq.alloc {sh wi ra ta : Int} {A B C : Option Addr} {c d f : Nat} {nd : List (Int × Int)} {ac : List Int} {sy : List (Int × Int × Int × Nat)} {w : World} {gO k j : Nat} {A1 A3 Ak : Option Addr} {c1 c3 ck : Nat} {wx : World} (h : Lq sh wi ra ta A B C c d f nd ac sy w gO k j A1 A3 Ak c1 c3 ck wx) (o : Obj) : Lq sh wi ra ta A B C c d f nd ac sy w gO k j A1 A3 Ak c1 c3 ck (wx.alloc o) :=
  ⟨h.1.out.alloc _, h.2.1.out.alloc _, h.2.2.1.out.alloc _, World.ownsRow.alloc h.2.2.2.1.out _, World.ownsRow.alloc h.2.2.2.2.1.out _, World.ownsRow.alloc h.2.2.2.2.2.1.out _, below_up h.2.2.2.2.2.2.out _⟩
theorem Lq.set {sh wi ra ta : Int} {A B C : Option Addr} {c d f : Nat} {nd : List (Int × Int)} {ac : List Int} {sy : List (Int × Int × Int × Nat)} {w : World} {gO k j gX : Nat} {A1 A3 Ak : Option Addr} {c1 c3 ck : Nat} {wx : World} {cs : Array Value} (h : Lq sh wi ra ta A B C c d f nd ac sy w gO k j A1 A3 Ak c1 c3 ck wx) (hx : Blk wx gX 71 cs) (hn : (Value.slice Ak j ck).ownBlock ≠ some gX) (hg : w.heap.size + 2 ≤ gX) (hne : gO ≠ gX) (i : Nat) (v : Value) : Lq sh wi ra ta A B C c d f nd ac sy w gO k j A1 A3 Ak c1 c3 ck (wx.setCell ⟨gX, i, none⟩ v) :=
  ⟨blk_far h.1.out hne _, blk_far h.2.1.out (by show w.heap.size ≠ gX; omega) _, blk_far h.2.2.1.out (by show w.heap.size + 1 ≠ gX; omega) _, own_set1 h.2.2.2.1.out hx (by decide) i v, own_set1 h.2.2.2.2.1.out hx (by decide) i v, ownsRow_setCell_other h.2.2.2.2.2.1.out (a := ⟨gX, i, none⟩) hn v, h.2.2.2.2.2.2.out.setCell (p := ⟨gX, i, none⟩) (by show w.heap.size ≤ gX; omega) v⟩
theorem one64 (x : Int) : wrap64 (1 + wrap64 ((IntKind.u64.wrap x).tmod 1099511627776)) = 1 + modF x 1099511627776 := by
  have := modF_bd (x := x) (m := 1099511627776) (by decide) (by decide)
  unfold modF at this ⊢
  generalize wrap64 ((IntKind.u64.wrap x).tmod 1099511627776) = y at this ⊢
  unfold wrap64
  omega
theorem own_oneS {w : World} {g base n : Nat} {p q r : Int} (h : Blk w g 71 #[.int .i64 p, .int .i64 q, .int .i64 r, .float .f64 n]) (hb : base ≤ g) : w.ownsRow base 71 4 (.slice (some ⟨g, 0, none⟩) 1 1) 1 (smbs [(p, q, r, n)]) :=
  ⟨by simp [smbs, syV], .inr ⟨g, 1, #[.int .i64 p, .int .i64 q, .int .i64 r, .float .f64 n], rfl, hb, h, Nat.le_refl _, by unfold maxLen; omega, by simp, by simp [smbs, syV]⟩⟩
theorem mod_w (x : Int) (m : Int) : IntKind.i64.wrap ((IntKind.u64.wrap x).tmod m) = modF x m := by
  unfold modF wrap64
  rw [IntKind.wrap_i64]
theorem one_w {x m : Int} (h : 0 < m) (h' : m ≤ 1000) : IntKind.i64.wrap (1 + modF x m) = 1 + modF x m := by
  have := modF_bd (x := x) (m := m) h (by omega)
  rw [IntKind.wrap_i64]; omega

set_option maxHeartbeats 8000000 in
theorem fix5_any (sh wi ra ta : Int) (A B C : Option Addr) (c d f : Nat) (nd : List (Int × Int)) (ac : List Int) (sy : List (Int × Int × Int × Nat)) (w : World)
    (hl : Hid (Nds w w.heap.size A nd)) (hu : Hid (Ris w w.heap.size B ac)) (hs : Hid (Smb w w.heap.size C sy)) (hw : Hid (WfN nd)) (hwa : Hid (WfI ac)) (hws : Hid (WfS sy)) (hmax : (nd.length : Int) ≤ 4611686018427387904) (hmay : (ac.length : Int) ≤ 4611686018427387904) (hmaz : (sy.length : Int) ≤ 4611686018427387904) :
    Calls Try.prog 14 #[.agg #[.int .i64 sh, .int .i64 wi, .int .i64 ra, .int .i64 ta, .slice A nd.length c, .slice B ac.length d, .slice C sy.length f]] w (MadeCf (1 + modF sh 3) (modF wi 4) (1 + modF ra 6) (1 + modF ta 8) (fixF nd) (fixA (fixF nd).length ac) (fixS sy) w) := by
  have H1 : Hid (∀ W, Below w.heap.size w W → Hid (Nds W W.heap.size A nd)) := fun W hb => Rd.below' hl.out hb hb.size
  obtain ⟨W, hW⟩ : ∃ W, W = ((w.alloc (.cells #[.int .i64 sh, .int .i64 wi, .int .i64 ra, .int .i64 ta, .slice A nd.length c, .slice B ac.length d, .slice C sy.length f] 29)).alloc (.cells #[.int .i64 0, .int .i64 0, .int .i64 0, .int .i64 0, .slice none 0 0, .slice none 0 0, .slice none 0 0] 29)) := ⟨_, rfl⟩
  have HW := Lib.hid hW
  have hW2 : Hid (W.heap.size = w.heap.size + 2) := by show _ = _; rw [hW]; simp
  have b0 : Hid (Below w.heap.size w W) := by rw [hW]; exact ((Below.refl _ _).alloc (Nat.le_refl _) _).alloc (by simp) _
  have kB0 : Hid (Blk W w.heap.size 29 #[.int .i64 sh, .int .i64 wi, .int .i64 ra, .int .i64 ta, .slice A nd.length c, .slice B ac.length d, .slice C sy.length f]) := by rw [hW]; exact (Blk.fresh w _ _).alloc _
  have kR0 : Hid (Blk W (w.heap.size + 1) 29 #[.int .i64 0, .int .i64 0, .int .i64 0, .int .i64 0, .slice none 0 0, .slice none 0 0, .slice none 0 0]) := by
    have := Blk.fresh (w.alloc (.cells #[.int .i64 sh, .int .i64 wi, .int .i64 ra, .int .i64 ta, .slice A nd.length c, .slice B ac.length d, .slice C sy.length f] 29)) 29 #[.int .i64 0, .int .i64 0, .int .i64 0, .int .i64 0, .slice none 0 0, .slice none 0 0, .slice none 0 0]
    simp only [World.size_alloc] at this
    rw [hW]; exact this
  clear hW
  have bA : Hid (Below w.heap.size w W.drew) := b0.out.drew
  have bZ : Hid (Below w.heap.size w (W.alloc (.cells #[.int .i64 0, .int .i64 0, .int .i64 0, .int .i64 0, .slice none 0 0, .slice none 0 0, .slice none 0 0] 29)).drew) := (below_up b0.out _).drew
  have kBZ : Hid (Blk (W.alloc (.cells #[.int .i64 0, .int .i64 0, .int .i64 0, .int .i64 0, .slice none 0 0, .slice none 0 0, .slice none 0 0] 29)).drew w.heap.size 29 #[.int .i64 sh, .int .i64 wi, .int .i64 ra, .int .i64 ta, .slice A nd.length c, .slice B ac.length d, .slice C sy.length f]) := kB0.out.alloc _
  have kRZ : Hid (Blk (W.alloc (.cells #[.int .i64 0, .int .i64 0, .int .i64 0, .int .i64 0, .slice none 0 0, .slice none 0 0, .slice none 0 0] 29)).drew (w.heap.size + 1) 29 #[.int .i64 0, .int .i64 0, .int .i64 0, .int .i64 0, .slice none 0 0, .slice none 0 0, .slice none 0 0]) := kR0.out.alloc _
  have kZZ : Hid (Blk (W.alloc (.cells #[.int .i64 0, .int .i64 0, .int .i64 0, .int .i64 0, .slice none 0 0, .slice none 0 0, .slice none 0 0] 29)).drew W.heap.size 29 #[.int .i64 0, .int .i64 0, .int .i64 0, .int .i64 0, .slice none 0 0, .slice none 0 0, .slice none 0 0]) := Blk.fresh W _ _
  have sA : W.drew.cell? ⟨w.heap.size, 0, none⟩ = some (.int .i64 sh) ∧ W.drew.cell? ⟨w.heap.size, 1, none⟩ = some (.int .i64 wi) ∧ W.drew.cell? ⟨w.heap.size, 2, none⟩ = some (.int .i64 ra) ∧ W.drew.cell? ⟨w.heap.size, 3, none⟩ = some (.int .i64 ta) ∧ W.drew.cell? ⟨w.heap.size, 4, none⟩ = some (.slice A nd.length c) := s5_of (te := 29) (v5 := .slice B ac.length d) (v6 := .slice C sy.length f) kB0.out
  have sZ : (W.alloc (.cells #[.int .i64 0, .int .i64 0, .int .i64 0, .int .i64 0, .slice none 0 0, .slice none 0 0, .slice none 0 0] 29)).drew.cell? ⟨w.heap.size, 0, none⟩ = some (.int .i64 sh) ∧ (W.alloc (.cells #[.int .i64 0, .int .i64 0, .int .i64 0, .int .i64 0, .slice none 0 0, .slice none 0 0, .slice none 0 0] 29)).drew.cell? ⟨w.heap.size, 1, none⟩ = some (.int .i64 wi) ∧ (W.alloc (.cells #[.int .i64 0, .int .i64 0, .int .i64 0, .int .i64 0, .slice none 0 0, .slice none 0 0, .slice none 0 0] 29)).drew.cell? ⟨w.heap.size, 2, none⟩ = some (.int .i64 ra) ∧ (W.alloc (.cells #[.int .i64 0, .int .i64 0, .int .i64 0, .int .i64 0, .slice none 0 0, .slice none 0 0, .slice none 0 0] 29)).drew.cell? ⟨w.heap.size, 3, none⟩ = some (.int .i64 ta) ∧ (W.alloc (.cells #[.int .i64 0, .int .i64 0, .int .i64 0, .int .i64 0, .slice none 0 0, .slice none 0 0, .slice none 0 0] 29)).drew.cell? ⟨w.heap.size, 4, none⟩ = some (.slice A nd.length c) := s5_of (te := 29) (v5 := .slice B ac.length d) (v6 := .slice C sy.length f) kBZ.out
  have m1 : IntKind.i64.wrap ((IntKind.u64.wrap sh).tmod 3) = modF sh 3 := mod_w sh 3
  have m2 : IntKind.i64.wrap ((IntKind.u64.wrap wi).tmod 4) = modF wi 4 := mod_w wi 4
  have m3 : IntKind.i64.wrap ((IntKind.u64.wrap ra).tmod 6) = modF ra 6 := mod_w ra 6
  have m4 : IntKind.i64.wrap ((IntKind.u64.wrap ta).tmod 8) = modF ta 8 := mod_w ta 8
  have o1 : IntKind.i64.wrap (1 + modF sh 3) = 1 + modF sh 3 := one_w (by decide) (by decide)
  have o3 : IntKind.i64.wrap (1 + modF ra 6) = 1 + modF ra 6 := one_w (by decide) (by decide)
  have o4 : IntKind.i64.wrap (1 + modF ta 8) = 1 + modF ta 8 := one_w (by decide) (by decide)
  go_enter Try.func14, Try.ntmps14
  go_upto_region 1 with fail
  rw [← HW.out]
  go_cut [3] (fun s3 wx => FxR sh wi ra ta A B C c d f nd ac sy w s3 wx)
  case first =>
    go_region_held3 (fun w' => w'.cell? ⟨w.heap.size, 0, none⟩ = some (.int .i64 sh) ∧ w'.cell? ⟨w.heap.size, 1, none⟩ = some (.int .i64 wi) ∧ w'.cell? ⟨w.heap.size, 2, none⟩ = some (.int .i64 ra) ∧ w'.cell? ⟨w.heap.size, 3, none⟩ = some (.int .i64 ta) ∧ w'.cell? ⟨w.heap.size, 4, none⟩ = some (.slice A nd.length c))
      (first | (with_reducible assumption) | (exact s6 _) | (with_reducible exact s7 _ _ _ _ _ _ _) | (exact s7 _ _ _ _ _ _ _) | go_keep)
      (first
        | (go_at_call 37; (with_reducible refine (fix_own A c nd W.drew (H1.out _ bA.out) hw (by omega)).mono ?_); rintro e w5 ⟨A1, c1, rfl, hn1, hb1⟩; have b5 : Hid (Below w.heap.size w w5) := below_step bA.out hb1; have kB5 := Lib.hid (Blk.below' (w := W.drew) kB0.out hb1); have kR5 := Lib.hid (Blk.below' (w := W.drew) kR0.out hb1); have N5 : Hid (w5.ownsRow (w.heap.size + 2) 109 2 (.slice A1 (fixF nd).length c1) (fixF nd).length (nds (fixF nd))) := own_mono hn1 (by simp [hW2.out]); have s5 : w5.cell? ⟨w.heap.size, 0, none⟩ = some (.int .i64 sh) ∧ w5.cell? ⟨w.heap.size, 1, none⟩ = some (.int .i64 wi) ∧ w5.cell? ⟨w.heap.size, 2, none⟩ = some (.int .i64 ra) ∧ w5.cell? ⟨w.heap.size, 3, none⟩ = some (.int .i64 ta) ∧ w5.cell? ⟨w.heap.size, 4, none⟩ = some (.slice A nd.length c) := s5_of kB5.out; have s6 : ∀ X, (w5.alloc X).cell? ⟨w.heap.size, 0, none⟩ = some (.int .i64 sh) ∧ (w5.alloc X).cell? ⟨w.heap.size, 1, none⟩ = some (.int .i64 wi) ∧ (w5.alloc X).cell? ⟨w.heap.size, 2, none⟩ = some (.int .i64 ra) ∧ (w5.alloc X).cell? ⟨w.heap.size, 3, none⟩ = some (.int .i64 ta) ∧ (w5.alloc X).cell? ⟨w.heap.size, 4, none⟩ = some (.slice A nd.length c) := fun X => s5_of (kB5.out.alloc X))
        | (go_at_call 37; (with_reducible refine (fix_own A c nd (W.alloc (.cells #[.int .i64 0, .int .i64 0, .int .i64 0, .int .i64 0, .slice none 0 0, .slice none 0 0, .slice none 0 0] 29)).drew (H1.out _ bZ.out) hw (by omega)).mono ?_); rintro e w5 ⟨A1, c1, rfl, hn1, hb1⟩; have b5 : Hid (Below w.heap.size w w5) := below_step bZ.out hb1; have kB5 := Lib.hid (Blk.below' kBZ.out hb1); have kR5 := Lib.hid (Blk.below' kRZ.out hb1); have kZ5 := Lib.hid (Blk.below' kZZ.out hb1); have N5 : Hid (w5.ownsRow (w.heap.size + 2) 109 2 (.slice A1 (fixF nd).length c1) (fixF nd).length (nds (fixF nd))) := own_mono hn1 (by simp [hW2.out]); have s5 : w5.cell? ⟨w.heap.size, 0, none⟩ = some (.int .i64 sh) ∧ w5.cell? ⟨w.heap.size, 1, none⟩ = some (.int .i64 wi) ∧ w5.cell? ⟨w.heap.size, 2, none⟩ = some (.int .i64 ra) ∧ w5.cell? ⟨w.heap.size, 3, none⟩ = some (.int .i64 ta) ∧ w5.cell? ⟨w.heap.size, 4, none⟩ = some (.slice A nd.length c) := s5_of kB5.out; have hzn : w.heap.size ≠ W.heap.size := (by have := hW2.out; omega); have s7 := s75_of kB5.out hzn; obtain ⟨zc0, zc1, zc2, zc3, zc4, zc5, zc6, zt0, zt1, zt2, zt3, zt4, zt5, zt6⟩ := z_of kZ5.out))
    all_goals
      go_wp2_with fail
      go_meet
      first
        | (with_reducible exact fe1 kB5.out kR5.out N5.out b5.out)
        | (with_reducible exact fe2 kB5.out kR5.out N5.out b5.out kZ5.out (by have := hW2.out; omega))
  case rest =>
    obtain ⟨gO, A1, c1, rfl, hgO, kO, kB, kR, rN, bl⟩ := hcut
    rename World => wS
    obtain ⟨i0, hi, hz0, hz1, hz2⟩ := info_parts int_info6
    obtain ⟨hf1, hf2⟩ := fixF_len nd
    go_wp2_with fail
    go_loopg [4] (min ac.length 5) (fun g s4 w' => ∃ (j : Nat) (Ak : Option Addr) (ck : Nat), j + g = min ac.length 5 ∧ s4 = .int .i64 j ∧ Hid (Blk w' gO 29 #[.int .i64 (1 + modF sh 3), .int .i64 (modF wi 4), .int .i64 (1 + modF ra 6), .int .i64 (1 + modF ta 8), .slice A1 (fixF nd).length c1, .slice Ak j ck, .slice none 0 0]) ∧ Hid (Blk w' w.heap.size 29 #[.int .i64 sh, .int .i64 wi, .int .i64 ra, .int .i64 ta, .slice A nd.length c, .slice B ac.length d, .slice C sy.length f]) ∧ Hid (Blk w' (w.heap.size + 1) 29 #[.int .i64 0, .int .i64 0, .int .i64 0, .int .i64 0, .slice none 0 0, .slice none 0 0, .slice none 0 0]) ∧ Hid (w'.ownsRow (w.heap.size + 2) 109 2 (.slice A1 (fixF nd).length c1) (fixF nd).length (nds (fixF nd))) ∧ Hid (w'.ownsRow (w.heap.size + 2) 3 1 (.slice Ak j ck) j (ints ((ac.take j).map fun a => modF a (fixF nd).length))) ∧ Below w.heap.size w w')
    case atStart => exact ⟨0, none, 0, by omega, rfl, kO, kB, kR, rN, World.ownsRow_nil _ _ _ _, bl⟩
    case round =>
      obtain ⟨j, Ak, ck, hjg, rfl, hO, hB, hR, hN, hS, hbl⟩ := hrel
      have f5 : wr.cell? ⟨w.heap.size, 5, none⟩ = some (.slice B ac.length d) := hB.out.cell 5
      have hgr := hO.out.lt
      have hwr := hR.out.lt
      by_cases hlt : j < ac.length ∧ j < 5
      · obtain ⟨g, rfl⟩ : ∃ g, gk = g + 1 := ⟨gk - 1, by omega⟩
        obtain ⟨hlt1, hlt2⟩ := hlt
        have t1 : decide ((j : Int) < 5) = true := by simp; omega
        have t2 : decide ((j : Int) < (ac.length : Int)) = true := by simp; omega
        obtain ⟨b, o, hBe, hb, hcc⟩ := Ris.at (i := j) hu.out hlt1
        have d0 : wr.cell? ⟨b, o + j, none⟩ = some (.int .i64 (gI ac j)) := (hbl.cell (p := ⟨b, o + j, none⟩) hb).trans (hcc j hlt1)
        have hin : inI (gI ac j) := hwa.out j hlt1
        obtain ⟨hin0, hin1⟩ := hin
        have HBE := Lib.hid hBe
        have hd0 := Lib.hid (hcc j hlt1)
        rw [hBe] at f5
        have hpre : Hid (ints ((ac.take (j + 1)).map fun a => modF a (fixF nd).length) = ints ((ac.take j).map fun a => modF a (fixF nd).length) ++ [.int .i64 (modF (gI ac j) (fixF nd).length)]) := by
          show _ = _
          have e : ac.take (j + 1) = ac.take j ++ [gI ac j] := by
            have e2 : ac[j] = gI ac j := by simp [gI, hlt1]
            rw [List.take_succ_eq_append_getElem hlt1, e2]
          rw [e, List.map_append, List.map_cons, List.map_nil, ints_snoc]
        have HJ := Lib.hid hjg
        clear hcc hBe hjg
        have hU : IntKind.u64.wrap ((fixF nd).length : Int) = ((fixF nd).length : Int) := by rw [wrap_u64]; omega
        have hz1' : (((fixF nd).length : Int) == 0) = false := beq_eq_false_iff_ne.2 (by omega)
        have hz2' : ¬ ((fixF nd).length : Int) = 0 := by omega
        have hz3' : ¬ fixF nd = [] := by intro e; rw [e] at hf1; simp at hf1
        have hM : IntKind.i64.wrap ((IntKind.u64.wrap (gI ac j)).tmod ((fixF nd).length : Int)) = modF (gI ac j) (fixF nd).length := mod_w _ _
        have v5 : wr.cell? ⟨gO, 5, none⟩ = some (.slice Ak j ck) := hO.out.cell 5
        have v4 : wr.cell? ⟨gO, 4, none⟩ = some (.slice A1 (fixF nd).length c1) := hO.out.cell 4
        have hbw : b < wr.heap.size := by omega
        have hbw2 : w.heap.size < wr.heap.size := by omega
        have va : ∀ X, (fun w' => w'.cell? ⟨gO, 5, none⟩ = some (.slice Ak j ck) ∧ w'.cell? ⟨w.heap.size, 5, none⟩ = some (.slice (some ⟨b, o, none⟩) ac.length d) ∧ w'.cell? ⟨b, o + j, none⟩ = some (.int .i64 (gI ac j)) ∧ w'.cell? ⟨gO, 4, none⟩ = some (.slice A1 (fixF nd).length c1)) (wr.drew.alloc X) := fun X => ⟨(World.cell?_alloc_lt wr.drew X ⟨gO, 5, none⟩ hgr).trans v5, (World.cell?_alloc_lt wr.drew X ⟨w.heap.size, 5, none⟩ hbw2).trans f5, (World.cell?_alloc_lt wr.drew X ⟨b, o + j, none⟩ hbw).trans d0, (World.cell?_alloc_lt wr.drew X ⟨gO, 4, none⟩ hgr).trans v4⟩
        have VA := Lib.hid va
        clear va
        have h63 : j + 1 ≤ maxLen := by unfold maxLen; omega
        have hby : (j + 1) * 8 ≤ 140737488355328 := by omega
        have hba : w.heap.size + 2 ≤ wr.heap.size := by omega
        go_upto_region 5 with fail
        refine wp_region_noPanic ?_
        refine wp_region_L (T := (fun w' => w'.cell? ⟨gO, 5, none⟩ = some (.slice Ak j ck) ∧ w'.cell? ⟨w.heap.size, 5, none⟩ = some (.slice (some ⟨b, o, none⟩) ac.length d) ∧ w'.cell? ⟨b, o + j, none⟩ = some (.int .i64 (gI ac j)) ∧ w'.cell? ⟨gO, 4, none⟩ = some (.slice A1 (fixF nd).length c1))) (st := [17]) (by kernel_rfl) ?_
        have hT : (fun w' => w'.cell? ⟨gO, 5, none⟩ = some (.slice Ak j ck) ∧ w'.cell? ⟨w.heap.size, 5, none⟩ = some (.slice (some ⟨b, o, none⟩) ac.length d) ∧ w'.cell? ⟨b, o + j, none⟩ = some (.int .i64 (gI ac j)) ∧ w'.cell? ⟨gO, 4, none⟩ = some (.slice A1 (fixF nd).length c1)) wr.drew := ⟨v5, f5, d0, v4⟩
        have HT := Lib.hid hT
        clear hT
        refine wpL_word (i := 0) (v := ?_) rfl (by kernel_rfl) (fun _ _ _ h => h) (by kernel_rfl) _ _ _ _ (by kernel_rfl) (by kernel_rfl) (Or.inl ⟨by rfl, ?_⟩) (fun _ => HT.out) ?_
        rotate_left
        · intro w' _
          go_simp
          try with_reducible rfl
        try simp only [Act.put, List.setIfInBounds_toArray, List.set_cons_zero, List.set_cons_succ]
        refine wpL_load (i := 1) (v := ?_) rfl (by kernel_rfl) (fun _ _ _ h => h) (by kernel_rfl) (by kernel_rfl) _ _ _ _ (by kernel_rfl) (by kernel_rfl) (Or.inl ⟨by rfl, ?_⟩) (by kernel_rfl) HT.out ?_
        rotate_left
        · intro w' hS
          try dsimp only at hS
          obtain ⟨x4, x5, x6, x7⟩ := hS
          go_simp
          try with_reducible rfl
        try simp only [Act.put, List.setIfInBounds_toArray, List.set_cons_zero, List.set_cons_succ]
        refine wpL_word (i := 2) (v := ?_) rfl (by kernel_rfl) (fun _ _ _ h => h) (by kernel_rfl) _ _ _ _ (by kernel_rfl) (by kernel_rfl) (Or.inl ⟨by rfl, ?_⟩) (fun _ => HT.out) ?_
        rotate_left
        · intro w' _
          go_simp
          try with_reducible rfl
        try simp only [Act.put, List.setIfInBounds_toArray, List.set_cons_zero, List.set_cons_succ]
        refine wpL_load (i := 3) (v := ?_) rfl (by kernel_rfl) (fun _ _ _ h => h) (by kernel_rfl) (by kernel_rfl) _ _ _ _ (by kernel_rfl) (by kernel_rfl) (Or.inl ⟨by rfl, ?_⟩) (by kernel_rfl) HT.out ?_
        rotate_left
        · intro w' hS
          try dsimp only at hS
          obtain ⟨x4, x5, x6, x7⟩ := hS
          go_simp
          try with_reducible rfl
        try simp only [Act.put, List.setIfInBounds_toArray, List.set_cons_zero, List.set_cons_succ]
        refine wpL_word (i := 4) (v := ?_) rfl (by kernel_rfl) (fun _ _ _ h => h) (by kernel_rfl) _ _ _ _ (by kernel_rfl) (by kernel_rfl) (Or.inl ⟨by rfl, ?_⟩) (fun _ => HT.out) ?_
        rotate_left
        · intro w' _
          go_simp
          try with_reducible rfl
        try simp only [Act.put, List.setIfInBounds_toArray, List.set_cons_zero, List.set_cons_succ]
        refine wpL_word (i := 5) (v := ?_) rfl (by kernel_rfl) (fun _ _ _ h => h) (by kernel_rfl) _ _ _ _ (by kernel_rfl) (by kernel_rfl) (Or.inl ⟨by rfl, ?_⟩) (fun _ => HT.out) ?_
        rotate_left
        · intro w' _
          go_simp
          try with_reducible rfl
        try simp only [Act.put, List.setIfInBounds_toArray, List.set_cons_zero, List.set_cons_succ]
        refine wpL_load (i := 6) (v := ?_) rfl (by kernel_rfl) (fun _ _ _ h => h) (by kernel_rfl) (by kernel_rfl) _ _ _ _ (by kernel_rfl) (by kernel_rfl) (Or.inl ⟨by rfl, ?_⟩) (by kernel_rfl) HT.out ?_
        rotate_left
        · intro w' hS
          try dsimp only at hS
          obtain ⟨x4, x5, x6, x7⟩ := hS
          go_simp
          try with_reducible rfl
        try simp only [Act.put, List.setIfInBounds_toArray, List.set_cons_zero, List.set_cons_succ]
        refine wpL_word (i := 7) (v := ?_) rfl (by kernel_rfl) (fun _ _ _ h => h) (by kernel_rfl) _ _ _ _ (by kernel_rfl) (by kernel_rfl) (Or.inl ⟨by rfl, ?_⟩) (fun _ => HT.out) ?_
        rotate_left
        · intro w' _
          go_simp
          try with_reducible rfl
        try simp only [Act.put, List.setIfInBounds_toArray, List.set_cons_zero, List.set_cons_succ]
        refine wpL_word (i := 8) (v := ?_) rfl (by kernel_rfl) (fun _ _ _ h => h) (by kernel_rfl) _ _ _ _ (by kernel_rfl) (by kernel_rfl) (Or.inl ⟨by rfl, ?_⟩) (fun _ => HT.out) ?_
        rotate_left
        · intro w' _
          go_simp
          try with_reducible rfl
        try simp only [Act.put, List.setIfInBounds_toArray, List.set_cons_zero, List.set_cons_succ]
        refine wpL_load (i := 9) (v := ?_) rfl (by kernel_rfl) (fun _ _ _ h => h) (by kernel_rfl) (by kernel_rfl) _ _ _ _ (by kernel_rfl) (by kernel_rfl) (Or.inl ⟨by rfl, ?_⟩) (by kernel_rfl) HT.out ?_
        rotate_left
        · intro w' hS
          try dsimp only at hS
          obtain ⟨x4, x5, x6, x7⟩ := hS
          go_simp
          try with_reducible rfl
        try simp only [Act.put, List.setIfInBounds_toArray, List.set_cons_zero, List.set_cons_succ]
        refine wpL_word (i := 10) (v := ?_) rfl (by kernel_rfl) (fun _ _ _ h => h) (by kernel_rfl) _ _ _ _ (by kernel_rfl) (by kernel_rfl) (Or.inl ⟨by rfl, ?_⟩) (fun _ => HT.out) ?_
        rotate_left
        · intro w' _
          go_simp
          try with_reducible rfl
        try simp only [Act.put, List.setIfInBounds_toArray, List.set_cons_zero, List.set_cons_succ]
        refine wpL_word (i := 11) (v := ?_) rfl (by kernel_rfl) (fun _ _ _ h => h) (by kernel_rfl) _ _ _ _ (by kernel_rfl) (by kernel_rfl) (Or.inl ⟨by rfl, ?_⟩) (fun _ => HT.out) ?_
        rotate_left
        · intro w' _
          go_simp
          try with_reducible rfl
        try simp only [Act.put, List.setIfInBounds_toArray, List.set_cons_zero, List.set_cons_succ]
        refine wpL_word (i := 12) (v := ?_) rfl (by kernel_rfl) (fun _ _ _ h => h) (by kernel_rfl) _ _ _ _ (by kernel_rfl) (by kernel_rfl) (Or.inl ⟨by rfl, ?_⟩) (fun _ => HT.out) ?_
        rotate_left
        · intro w' _
          go_simp
          try with_reducible rfl
        try simp only [Act.put, List.setIfInBounds_toArray, List.set_cons_zero, List.set_cons_succ]
        refine wpL_word (i := 13) (v := ?_) rfl (by kernel_rfl) (fun _ _ _ h => h) (by kernel_rfl) _ _ _ _ (by kernel_rfl) (by kernel_rfl) (Or.inl ⟨by rfl, ?_⟩) (fun _ => HT.out) ?_
        rotate_left
        · intro w' _
          go_simp
          try with_reducible rfl
        try simp only [Act.put, List.setIfInBounds_toArray, List.set_cons_zero, List.set_cons_succ]
        refine wpL_next (n := 14) (by kernel_rfl) rfl (fun K hK => ?_)
        go_simp
        refine hK.out _ _ (VA.out _) ?_
        clear hK K
        try simp only [Act.put, List.setIfInBounds_toArray, List.set_cons_zero, List.set_cons_succ]
        refine wpL_next (n := 15) (by kernel_rfl) rfl (fun K hK => ?_)
        refine step_app1G (own_drew hS) rfl _ _ _ rfl i0 (.int .i64 0) 8 Try.underlying23 hi hz0 hz1 hz2 rfl (by decide) rfl rfl rfl [.int .i64 (modF (gI ac j) (fixF nd).length)] rfl rfl (by simp [Value.oneCell']) h63 hby hba ?_
        intro A2 c2 w2 hown2 hgr2
        have hO2 := Lib.hid (Blk_grown (Blk.alloc (w := wr.drew) hO.out _) hgr2 (Ne.symm (own_blk_ne hS.out hO.out (by decide))))
        have hB2 := Lib.hid (Blk_grown (Blk.alloc (w := wr.drew) hB.out _) hgr2 (Ne.symm (own_blk_ne hS.out hB.out (by decide))))
        have hR2 := Lib.hid (Blk_grown (Blk.alloc (w := wr.drew) hR.out _) hgr2 (Ne.symm (own_blk_ne hS.out hR.out (by decide))))
        have hN2 := own_own (World.ownsRow.alloc (w := wr.drew) hN.out _) (World.ownsRow.alloc (w := wr.drew) hS.out _) (by decide) hgr2
        have hb2 : Below w.heap.size w w2 := (below_up (W := wr.drew) hbl.drew _).grown hgr2 (by simp; omega) (fun q hq => by have := World.ownsRow.lt hS.out q hq; omega)
        have z0 : w2.cell? ⟨gO, 5, none⟩ = some (.slice Ak j ck) := hO2.out.cell 5
        have z1 : w2.frozen? ⟨gO, 5, none⟩ = false := hO2.out.thaw 5
        have z2 : w2.cell? ⟨b, o + j, none⟩ = some (.int .i64 (gI ac j)) := (hb2.cell (p := ⟨b, o + j, none⟩) hb).trans hd0.out
        have HT2 : Hid ((fun w' => w'.cell? ⟨gO, 5, none⟩ = some (.slice Ak j ck) ∧ w'.cell? ⟨w.heap.size, 5, none⟩ = some (.slice (some ⟨b, o, none⟩) ac.length d) ∧ w'.cell? ⟨b, o + j, none⟩ = some (.int .i64 (gI ac j)) ∧ w'.cell? ⟨gO, 4, none⟩ = some (.slice A1 (fixF nd).length c1)) w2) := ⟨z0, by rw [← HBE.out]; exact hB2.out.cell 5, z2, hO2.out.cell 4⟩
        refine hK.out _ _ HT2.out ?_
        clear hK K
        try simp only [Act.put, List.setIfInBounds_toArray, List.set_cons_zero, List.set_cons_succ]
        refine wpL_word (i := 16) (v := ?_) rfl (by kernel_rfl) (fun _ _ _ h => h) (by kernel_rfl) _ _ _ _ (by kernel_rfl) (by kernel_rfl) (Or.inl ⟨by rfl, ?_⟩) (fun _ => HT2.out) ?_
        rotate_left
        · intro w' _
          go_simp
          try with_reducible rfl
        try simp only [Act.put, List.setIfInBounds_toArray, List.set_cons_zero, List.set_cons_succ]
        refine wpL_late (n := 17) (by kernel_rfl) rfl (by kernel_rfl) (fun K hK => ?_)
        go_simp
        refine hK.out _ _ ?_
        clear hK K
        try simp only [Act.put, List.setIfInBounds_toArray, List.set_cons_zero, List.set_cons_succ]
        refine wpL_done (by kernel_rfl) ?_ _
        refine NoPanic.normal ?_
        have hO3 : Hid (Blk (w2.setCell ⟨gO, 5, none⟩ (.slice A2 (j + 1) c2)) gO 29 #[.int .i64 (1 + modF sh 3), .int .i64 (modF wi 4), .int .i64 (1 + modF ra 6), .int .i64 (1 + modF ta 8), .slice A1 (fixF nd).length c1, .slice A2 (j + 1) c2, .slice none 0 0]) := blk_set hO2.out 5 _
        have hB3 : Hid (Blk (w2.setCell ⟨gO, 5, none⟩ (.slice A2 (j + 1) c2)) w.heap.size 29 #[.int .i64 sh, .int .i64 wi, .int .i64 ra, .int .i64 ta, .slice A nd.length c, .slice B ac.length d, .slice C sy.length f]) := blk_far hB2.out (by simp; omega) _
        have hR3 : Hid (Blk (w2.setCell ⟨gO, 5, none⟩ (.slice A2 (j + 1) c2)) (w.heap.size + 1) 29 #[.int .i64 0, .int .i64 0, .int .i64 0, .int .i64 0, .slice none 0 0, .slice none 0 0, .slice none 0 0]) := blk_far hR2.out (by simp; omega) _
        have hN3 := Lib.hid (own_set1 hN2 hO2.out (by decide) 5 (.slice A2 (j + 1) c2))
        have hS3 : Hid ((w2.setCell ⟨gO, 5, none⟩ (.slice A2 (j + 1) c2)).ownsRow (w.heap.size + 2) 3 1 (.slice A2 (j + 1) c2) (j + 1) (ints ((ac.take (j + 1)).map fun a => modF a (fixF nd).length))) := by
          rw [hpre.out]
          exact own_set1 hown2.out hO2.out (by decide) 5 _
        have hb3 : Below w.heap.size w (w2.setCell ⟨gO, 5, none⟩ (.slice A2 (j + 1) c2)) := hb2.setCell (p := ⟨gO, 5, none⟩) (by show w.heap.size ≤ gO; omega) _
        clear hB2 hR2 hN2 hb2 hO2 hown2 hgr2 z0 z1 z2 HT HT2 VA
        go_wp2_with fail
        go_roundg g
        case measure => omega
        case rel => exact ⟨j + 1, A2, c2, by have := HJ.out; omega, by go_num, hO3, hB3, hR3, hN3, hS3, hb3⟩
      · have hj5 : Hid (j = min ac.length 5) := by show _ = _; omega
        by_cases hx1 : j < ac.length
        case' pos =>
          have t1 : decide ((j : Int) < 5) = false := by simp; omega
          have t2 : decide ((j : Int) < (ac.length : Int)) = true := by simp; omega
          clear hlt hjg
          go_upto_region 6 with fail
        case' neg =>
          have t2 : decide ((j : Int) < (ac.length : Int)) = false := by simp; omega
          clear hlt hjg
          go_upto_region 6 with fail
        all_goals
          have e5 : wr.cell? ⟨gO, 5, none⟩ = some (.slice Ak j ck) := hO.out.cell 5
          have e4 : wr.cell? ⟨gO, 4, none⟩ = some (.slice A1 (fixF nd).length c1) := hO.out.cell 4
          have y5 : wr.frozen? ⟨gO, 5, none⟩ = false := hO.out.thaw 5
          go_upto_if 66 with fail
          go_cut [5] (fun sa wx => ∃ (k : Nat) (A3 : Option Addr) (c3 : Nat), Hid (k = (fixA (fixF nd).length ac).length) ∧ Hid (Blk wx gO 29 #[.int .i64 (1 + modF sh 3), .int .i64 (modF wi 4), .int .i64 (1 + modF ra 6), .int .i64 (1 + modF ta 8), .slice A1 (fixF nd).length c1, .slice A3 k c3, .slice none 0 0]) ∧ Hid (Blk wx w.heap.size 29 #[.int .i64 sh, .int .i64 wi, .int .i64 ra, .int .i64 ta, .slice A nd.length c, .slice B ac.length d, .slice C sy.length f]) ∧ Hid (Blk wx (w.heap.size + 1) 29 #[.int .i64 0, .int .i64 0, .int .i64 0, .int .i64 0, .slice none 0 0, .slice none 0 0, .slice none 0 0]) ∧ Hid (wx.ownsRow (w.heap.size + 2) 109 2 (.slice A1 (fixF nd).length c1) (fixF nd).length (nds (fixF nd))) ∧ Hid (wx.ownsRow (w.heap.size + 2) 3 1 (.slice A3 k c3) k (ints (fixA (fixF nd).length ac))) ∧ Below w.heap.size w wx)
          case first =>
            by_cases h0 : ac.length = 0
            · have hj0 : j = 0 := by have := hj5.out; omega
              have q0 : ((j : Int) == 0) = true := beq_iff_eq.2 (by omega)
              have hfx : Hid (fixA (fixF nd).length ac = [((fixF nd).length : Int) - 1]) := by show _ = _; unfold fixA; rw [if_pos h0]
              clear h0 hj0
              go_wp2_with fail
              go_meet
              exact ⟨1, some ⟨wr.heap.size, 0, none⟩, 1, (by rw [hfx.out]; rfl), Blk.alloc (blk_set hO.out 5 _) _, Blk.alloc (blk_far hB.out (by simp; omega) _) _, Blk.alloc (blk_far hR.out (by simp; omega) _) _, World.ownsRow.alloc (own_set1 hN.out hO.out (by decide) 5 _) _, (by rw [hfx.out]; exact own_oneI (blk_at (by simp)) (by omega)), below_up (hbl.setCell (p := ⟨gO, 5, none⟩) (by show w.heap.size ≤ gO; omega) _) _⟩
            · have q0 : ((j : Int) == 0) = false := beq_eq_false_iff_ne.2 (by have := hj5.out; omega)
              have hfx : Hid (fixA (fixF nd).length ac = (ac.take j).map fun a => modF a (fixF nd).length) := by
                show _ = _
                unfold fixA
                rw [if_neg h0, hj5.out]
                have e : ac.take (min ac.length 5) = ac.take 5 := by
                  by_cases h5 : ac.length ≤ 5
                  · rw [Nat.min_eq_left h5, List.take_length, List.take_of_length_le h5]
                  · rw [Nat.min_eq_right (by omega)]
                rw [e]
              have hlen : Hid (j = (fixA (fixF nd).length ac).length) := by
                show _ = _
                rw [hfx.out, List.length_map, List.length_take]
                have := hj5.out
                omega
              clear h0
              go_wp2_with fail
              go_meet
              exact ⟨j, Ak, ck, hlen, hO, hB, hR, hN, (by rw [hfx.out]; exact hS), hbl⟩
          case rest =>
            obtain ⟨k, A3, c3, hk, kO2, kB2, kR2, rN2, rA2, bl2⟩ := hcut
            rename World => wA
            clear y5 e5 e4 f5 hO hB hR hN hS hbl
            have hk5 : Hid (k ≤ 5) := by show _ ≤ _; rw [hk.out]; exact fixA_len.2
            obtain ⟨j0, hj0, hy0, hy1, hy2⟩ := info_parts sym_info
            go_wp2_with fail
            go_loopg [5] (min sy.length 3) (fun g s5 w' => ∃ (j : Nat) (Ak : Option Addr) (ck : Nat), j + g = min sy.length 3 ∧ s5 = .int .i64 j ∧ Lq sh wi ra ta A B C c d f nd ac sy w gO k j A1 A3 Ak c1 c3 ck w')
            case atStart => exact ⟨0, none, 0, by omega, rfl, kO2, kB2, kR2, rN2, rA2, World.ownsRow_nil _ _ _ _, bl2⟩
            case round =>
              obtain ⟨j, Ak, ck, hjg, rfl, hq⟩ := hrel
              have HQ := Lib.hid hq
              obtain ⟨hO, hB, hR, hN, hA, hS, hbl⟩ := hq
              have f6 : wr.cell? ⟨w.heap.size, 6, none⟩ = some (.slice C sy.length f) := hB.out.cell 6
              have hgr := hO.out.lt
              have hwr := hR.out.lt
              by_cases hlt : j < sy.length ∧ j < 3
              · obtain ⟨g, rfl⟩ : ∃ g, gk = g + 1 := ⟨gk - 1, by omega⟩
                obtain ⟨hlt1, hlt2⟩ := hlt
                have HJ := Lib.hid hjg
                have t1 : decide ((j : Int) < 3) = true := by simp; omega
                have t2 : decide ((j : Int) < (sy.length : Int)) = true := by simp; omega
                have hsw : Smb wr w.heap.size C sy := Rd.below hs.out hbl.out
                obtain ⟨b, o, hCe, hb, hcc⟩ := Smb.at (i := j) hsw hlt1
                rw [hCe] at f6
                clear hCe hjg
                obtain ⟨d0, d1, d2, d3⟩ := hcc j hlt1
                have hpre : Hid (smbs ((sy.take (j + 1)).map oneS) = smbs ((sy.take j).map oneS) ++ [.int .i64 (1 + modF (sP sy j) 1099511627776), .int .i64 (1 + modF (sQ sy j) 1099511627776), .int .i64 (if sW sy j < 0 then 9223372036854775807 else sW sy j), .float .f64 (if rightB (sB sy j) = true then sB sy j else 4602678819172646912)]) := by
                  show _ = _
                  rw [takeS_snoc hlt1, List.map_append, List.map_cons, List.map_nil, smbs_snoc]
                  rfl
                clear hcc hsw
                generalize sP sy j = xp at *
                generalize sQ sy j = xq at *
                generalize sW sy j = xw at *
                generalize sB sy j = xb at *
                have hnX : Hid ((Value.slice Ak j ck).ownBlock ≠ some (wr.heap.size + 1)) := by show _ ≠ _; intro e; have := World.ownsRow.lt hS.out _ e; omega
                go_upto_region 13 with fail
                rw [one64, one64]
                have kX : Hid (Blk ((wr.alloc (.cells #[.int .i64 xp, .int .i64 xq, .int .i64 xw, .float .f64 xb] 71)).alloc (.cells #[.int .i64 (1 + modF xp 1099511627776), .int .i64 (1 + modF xq 1099511627776), .int .i64 xw, .float .f64 xb] 71)) (wr.heap.size + 1) 71 #[.int .i64 (1 + modF xp 1099511627776), .int .i64 (1 + modF xq 1099511627776), .int .i64 xw, .float .f64 xb]) := blk_at (by simp)
                have HX : Hid (Lq sh wi ra ta A B C c d f nd ac sy w gO k j A1 A3 Ak c1 c3 ck ((wr.alloc (.cells #[.int .i64 xp, .int .i64 xq, .int .i64 xw, .float .f64 xb] 71)).alloc (.cells #[.int .i64 (1 + modF xp 1099511627776), .int .i64 (1 + modF xq 1099511627776), .int .i64 xw, .float .f64 xb] 71))) := (HQ.out.alloc _).alloc _
                have hX1 : w.heap.size + 2 ≤ wr.heap.size + 1 := by omega
                have hX2 : gO ≠ wr.heap.size + 1 := by omega
                clear hO hB hR hN hA hS hbl HQ d0 d1 d2 d3 f6 hgr hwr
                generalize ((wr.alloc (.cells #[.int .i64 xp, .int .i64 xq, .int .i64 xw, .float .f64 xb] 71)).alloc (.cells #[.int .i64 (1 + modF xp 1099511627776), .int .i64 (1 + modF xq 1099511627776), .int .i64 xw, .float .f64 xb] 71)) = w1 at kX HX ⊢
                generalize wr.heap.size + 1 = gX at kX hnX hX1 hX2 ⊢
                have x2 : w1.cell? ⟨gX, 2, none⟩ = some (.int .i64 xw) := kX.out.cell 2
                go_upto_if 108 with fail
                go_cut [7] (fun s7 wx => s7 = .pointer (some ⟨gX, 0, none⟩) ∧ Hid (Blk wx gX 71 #[.int .i64 (1 + modF xp 1099511627776), .int .i64 (1 + modF xq 1099511627776), .int .i64 (if xw < 0 then 9223372036854775807 else xw), .float .f64 xb]) ∧ Hid (Lq sh wi ra ta A B C c d f nd ac sy w gO k j A1 A3 Ak c1 c3 ck wx))
                case first =>
                  have y2 : w1.frozen? ⟨gX, 2, none⟩ = false := kX.out.thaw 2
                  by_cases hneg : xw < 0
                  · have t3 : decide (xw < 0) = true := by simp; exact hneg
                    go_wp2_with fail
                    go_meet
                    refine ⟨rfl, ?_, HX.out.set kX.out hnX.out hX1 hX2 2 _⟩
                    rw [if_pos hneg]
                    exact blk_set kX.out 2 _
                  · have t3 : decide (xw < 0) = false := by simp; omega
                    go_wp2_with fail
                    go_meet
                    refine ⟨rfl, ?_, HX⟩
                    rw [if_neg (by omega)]
                    exact kX
                case rest =>
                  obtain ⟨rfl, kX2, HX2⟩ := hcut
                  rename World => w2
                  clear x2 kX HX
                  generalize (if xw < 0 then 9223372036854775807 else xw) = xm at kX2 hpre
                  have x3 : w2.cell? ⟨gX, 3, none⟩ = some (.float .f64 xb) := kX2.out.cell 3
                  go_upto_if 113 with (first | (go_at_call 22; refine (rright_any _ _).mono ?_; rintro e w' ⟨rfl, rfl⟩))
                  go_cut [7] (fun s7 wx => s7 = .pointer (some ⟨gX, 0, none⟩) ∧ Hid (Blk wx gX 71 #[.int .i64 (1 + modF xp 1099511627776), .int .i64 (1 + modF xq 1099511627776), .int .i64 xm, .float .f64 (if rightB xb = true then xb else 4602678819172646912)]) ∧ Hid (Lq sh wi ra ta A B C c d f nd ac sy w gO k j A1 A3 Ak c1 c3 ck wx))
                  case first =>
                    have y3 : w2.frozen? ⟨gX, 3, none⟩ = false := kX2.out.thaw 3
                    generalize hrt : rightB xb = rb at ⊢
                    cases rb
                    · simp only [Bool.not_false]
                      go_wp2_with fail
                      go_meet
                      refine ⟨rfl, ?_, HX2.out.set kX2.out hnX.out hX1 hX2 3 _⟩
                      rw [if_neg (by rw [hrt]; decide)]
                      exact blk_set kX2.out 3 _
                    · simp only [Bool.not_true]
                      go_wp2_with fail
                      go_meet
                      refine ⟨rfl, ?_, HX2⟩
                      rw [if_pos hrt]
                      exact kX2
                  case rest =>
                    obtain ⟨rfl, kX3, HX3⟩ := hcut
                    rename World => w3
                    clear x3 kX2 HX2
                    obtain ⟨hO3, hB3, hR3, hN3, hA3, hS3, hb3⟩ := HX3.out
                    generalize (if rightB xb = true then xb else 4602678819172646912) = xc at kX3 hpre
                    generalize 1 + modF xp 1099511627776 = xa at kX3 hpre
                    generalize 1 + modF xq 1099511627776 = xe at kX3 hpre
                    have s0 : w3.cell? ⟨gX, 0, none⟩ = some (.int .i64 xa) := kX3.out.cell 0
                    have s1 : w3.cell? ⟨gX, 1, none⟩ = some (.int .i64 xe) := kX3.out.cell 1
                    have s2 : w3.cell? ⟨gX, 2, none⟩ = some (.int .i64 xm) := kX3.out.cell 2
                    have s3 : w3.cell? ⟨gX, 3, none⟩ = some (.float .f64 xc) := kX3.out.cell 3
                    have v6 : w3.cell? ⟨gO, 6, none⟩ = some (.slice Ak j ck) := hO3.out.cell 6
                    have hba : w.heap.size + 2 ≤ w3.heap.size := by have := hO3.out.lt; omega
                    have h63 : j + 1 ≤ maxLen := by unfold maxLen; omega
                    have hby : (j + 1) * 32 ≤ 140737488355328 := by omega
                    go_wp2_with (at_builtin; refine wpList_app1G hS3 rfl _ _ _ rfl j0 (.agg #[.int .i64 0, .int .i64 0, .int .i64 0, .float .f64 0]) 32 Try.underlying27 hj0 hy0 hy1 hy2 rfl (by decide) rfl rfl rfl [.int .i64 xa, .int .i64 xe, .int .i64 xm, .float .f64 xc] rfl rfl (by simp [Value.oneCell']) h63 hby hba ?_; intro A2 c2 w4 hown4 hgr4; have hO4 := Lib.hid (Blk_grown (hO3.out.alloc _) hgr4 (Ne.symm (own_blk_ne hS3.out hO3.out (by decide)))); have z0 : w4.cell? ⟨gO, 6, none⟩ = some (.slice Ak j ck) := hO4.out.cell 6; have z1 : w4.frozen? ⟨gO, 6, none⟩ = false := hO4.out.thaw 6)
                    have hB4 := Blk_grown (hB3.out.alloc _) hgr4 (Ne.symm (own_blk_ne hS3.out hB3.out (by decide)))
                    have hR4 := Blk_grown (hR3.out.alloc _) hgr4 (Ne.symm (own_blk_ne hS3.out hR3.out (by decide)))
                    have hN4 := own_own (World.ownsRow.alloc hN3.out _) (World.ownsRow.alloc hS3.out _) (by decide) hgr4
                    have hA4 := own_own (World.ownsRow.alloc hA3.out _) (World.ownsRow.alloc hS3.out _) (by decide) hgr4
                    have hb4 : Below w.heap.size w w4 := (below_up hb3.out _).grown hgr4 (by have := hb3.out.size; simp; omega) (fun q hq => by have := World.ownsRow.lt hS3.out q hq; omega)
                    have hS4 : Hid ((w4.setCell ⟨gO, 6, none⟩ (.slice A2 (j + 1) c2)).ownsRow (w.heap.size + 2) 71 4 (.slice A2 (j + 1) c2) (j + 1) (smbs ((sy.take (j + 1)).map oneS))) := by
                      rw [hpre.out]
                      exact own_set1 hown4.out hO4.out (by decide) 6 _
                    have hend : Lq sh wi ra ta A B C c d f nd ac sy w gO k (j + 1) A1 A3 A2 c1 c3 c2 (w4.setCell ⟨gO, 6, none⟩ (.slice A2 (j + 1) c2)) :=
                      ⟨blk_set hO4.out 6 _, blk_far hB4 (by simp; omega) _, blk_far hR4 (by simp; omega) _, own_set1 hN4 hO4.out (by decide) 6 (.slice A2 (j + 1) c2), own_set1 hA4 hO4.out (by decide) 6 (.slice A2 (j + 1) c2), hS4, hb4.setCell (p := ⟨gO, 6, none⟩) (by show w.heap.size ≤ gO; omega) _⟩
                    have HE := Lib.hid hend
                    clear hend hB4 hR4 hN4 hA4 hb4 hO4 hown4 hgr4 z0 z1 hS4
                    go_wp2_with fail
                    go_roundg g
                    case measure => omega
                    case rel => exact ⟨j + 1, A2, c2, by have := HJ.out; omega, by go_num, HE.out⟩
              · have hj3 : Hid (j = min sy.length 3) := by show _ = _; omega
                by_cases hx2 : j < sy.length
                case' pos =>
                  have t1 : decide ((j : Int) < 3) = false := by simp; omega
                  have t2 : decide ((j : Int) < (sy.length : Int)) = true := by simp; omega
                  clear hlt hjg
                  go_upto_region 18 with fail
                case' neg =>
                  have t2 : decide ((j : Int) < (sy.length : Int)) = false := by simp; omega
                  clear hlt hjg
                  go_upto_region 18 with fail
                all_goals
                  have e6 : wr.cell? ⟨gO, 6, none⟩ = some (.slice Ak j ck) := hO.out.cell 6
                  have y6 : wr.frozen? ⟨gO, 6, none⟩ = false := hO.out.thaw 6
                  go_upto_if 124 with fail
                  go_cut [3] (fun sa wx => ∃ (m : Nat) (A6 : Option Addr) (c6 : Nat), sa = .pointer (some ⟨gO, 0, none⟩) ∧ Hid (m = (fixS sy).length) ∧ Hid (Blk wx gO 29 #[.int .i64 (1 + modF sh 3), .int .i64 (modF wi 4), .int .i64 (1 + modF ra 6), .int .i64 (1 + modF ta 8), .slice A1 (fixF nd).length c1, .slice A3 k c3, .slice A6 m c6]) ∧ Hid (Blk wx (w.heap.size + 1) 29 #[.int .i64 0, .int .i64 0, .int .i64 0, .int .i64 0, .slice none 0 0, .slice none 0 0, .slice none 0 0]) ∧ Hid (wx.ownsRow (w.heap.size + 2) 109 2 (.slice A1 (fixF nd).length c1) (fixF nd).length (nds (fixF nd))) ∧ Hid (wx.ownsRow (w.heap.size + 2) 3 1 (.slice A3 k c3) k (ints (fixA (fixF nd).length ac))) ∧ Hid (wx.ownsRow (w.heap.size + 2) 71 4 (.slice A6 m c6) m (smbs (fixS sy))) ∧ Below w.heap.size w wx)
                  case first =>
                    by_cases h0 : sy.length = 0
                    · have hj0' : j = 0 := by have := hj3.out; omega
                      have q0 : ((j : Int) == 0) = true := beq_iff_eq.2 (by omega)
                      have hfx : Hid (fixS sy = [(10, 100, 1000, 4602678819172646912)]) := by show _ = _; unfold fixS; rw [if_pos h0]
                      clear h0 hj0'
                      go_wp2_with fail
                      go_meet
                      exact ⟨1, some ⟨wr.heap.size, 0, none⟩, 1, rfl, (by rw [hfx.out]; rfl), Blk.alloc (blk_set hO.out 6 _) _, Blk.alloc (blk_far hR.out (by simp; omega) _) _, World.ownsRow.alloc (own_set1 hN.out hO.out (by decide) 6 _) _, World.ownsRow.alloc (own_set1 hA.out hO.out (by decide) 6 _) _, (by rw [hfx.out]; exact own_oneS (blk_at (by simp)) (by omega)), below_up (hbl.out.setCell (p := ⟨gO, 6, none⟩) (by show w.heap.size ≤ gO; omega) _) _⟩
                    · have q0 : ((j : Int) == 0) = false := beq_eq_false_iff_ne.2 (by have := hj3.out; omega)
                      have hfx : Hid (fixS sy = (sy.take j).map oneS) := by
                        show _ = _
                        unfold fixS
                        rw [if_neg h0, hj3.out]
                        have e : sy.take (min sy.length 3) = sy.take 3 := by
                          by_cases h5 : sy.length ≤ 3
                          · rw [Nat.min_eq_left h5, List.take_length, List.take_of_length_le h5]
                          · rw [Nat.min_eq_right (by omega)]
                        rw [e]
                      have hlen : Hid (j = (fixS sy).length) := by
                        show _ = _
                        rw [hfx.out, List.length_map, List.length_take]
                        have := hj3.out
                        omega
                      clear h0
                      go_wp2_with fail
                      go_meet
                      exact ⟨j, Ak, ck, rfl, hlen, hO, hR, hN, hA, (by rw [hfx.out]; exact hS), hbl.out⟩
                  case rest =>
                    obtain ⟨m, A6, c6, rfl, hm, gO6, gR6, gN6, gA6, gS6, gb6⟩ := hcut
                    rename World => wE
                    clear e6 y6 f6 hO hB hR hN hA hS hbl HQ
                    have e0 := gO6.out.cell 0
                    have e1 := gO6.out.cell 1
                    have e2 := gO6.out.cell 2
                    have e3 := gO6.out.cell 3
                    have e4 := gO6.out.cell 4
                    have e5 := gO6.out.cell 5
                    have e6 := gO6.out.cell 6
                    obtain ⟨r0, r1, r2, r3, r4, r5, r6, y0, y1, y2, y3, y4, y5, y6⟩ := z_of gR6.out
                    simp only [List.getElem?_toArray, List.getElem?_cons_zero, List.getElem?_cons_succ] at e0 e1 e2 e3 e4 e5 e6
                    obtain ⟨x0, x1, x2, x3, x4, x5, x6⟩ := st7_cells (a := .int .i64 (1 + modF sh 3)) (b := .int .i64 (modF wi 4)) (c := .int .i64 (1 + modF ra 6)) (d := .int .i64 (1 + modF ta 8)) (e := .slice A1 (fixF nd).length c1) (f := .slice A3 k c3) (h := .slice A6 m c6) gR6.out
                    have bF : Below w.heap.size w (st7 wE (w.heap.size + 1) (.int .i64 (1 + modF sh 3)) (.int .i64 (modF wi 4)) (.int .i64 (1 + modF ra 6)) (.int .i64 (1 + modF ta 8)) (.slice A1 (fixF nd).length c1) (.slice A3 k c3) (.slice A6 m c6)) := st7_below gb6 (by omega)
                    have NF := Lib.hid (Rd.of_own (own_st7 (qa := .int .i64 (1 + modF sh 3)) (qb := .int .i64 (modF wi 4)) (qc := .int .i64 (1 + modF ra 6)) (qd := .int .i64 (1 + modF ta 8)) (qe := .slice A1 (fixF nd).length c1) (qf := .slice A3 k c3) (qh := .slice A6 m c6) gN6.out gR6.out (by decide)))
                    have UF := Lib.hid (Rd.of_own (own_st7 (qa := .int .i64 (1 + modF sh 3)) (qb := .int .i64 (modF wi 4)) (qc := .int .i64 (1 + modF ra 6)) (qd := .int .i64 (1 + modF ta 8)) (qe := .slice A1 (fixF nd).length c1) (qf := .slice A3 k c3) (qh := .slice A6 m c6) gA6.out gR6.out (by decide)))
                    have SF := Lib.hid (Rd.of_own (own_st7 (qa := .int .i64 (1 + modF sh 3)) (qb := .int .i64 (modF wi 4)) (qc := .int .i64 (1 + modF ra 6)) (qd := .int .i64 (1 + modF ta 8)) (qe := .slice A1 (fixF nd).length c1) (qf := .slice A3 k c3) (qh := .slice A6 m c6) gS6.out gR6.out (by decide)))
                    have hend := Lib.hid (madeCf_mk (sh := 1 + modF sh 3) (wi := modF wi 4) (ra := 1 + modF ra 6) (ta := 1 + modF ta 8) (c := c1) (d := c3) (f := c6) rfl hk.out hm.out NF.out UF.out SF.out bF)
                    clear bF gO6 gR6 gN6 gA6 gS6 gb6 NF UF SF
                    go_wp2_with fail
                    unfold st7 at x0 x1 x2 x3 x4 x5 x6 hend
                    exact bodyPost_ret (v := .agg #[.int .i64 (1 + modF sh 3), .int .i64 (modF wi 4), .int .i64 (1 + modF ra 6), .int .i64 (1 + modF ta 8), .slice A1 (fixF nd).length c1, .slice A3 k c3, .slice A6 m c6]) (by simp [results, Try.results14, go_sem, x0, x1, x2, x3, x4, x5, x6]) rfl hend.out
end Go.Proofs.Ytkmkaidhpbjbnaa.Rul7

/- A Config in a variable; the contract of the law's fixed example of layer 5. No condition. -/
namespace Go.Proofs.Ytkmkaidhpbjbnaa.Tl5
set_option maxRecDepth 100000
open Go.ChangeShapes Go.WideShapes Go.ChangeAt Go.RowKit Mem Tre Ref3 Law3 Fix3 Opn Bnd Flo Cfg CrdB CrdC Rr4 Fr4 Rul1 Rul3 St7 Rul6 Fcf Fown Rul7
set_option linter.unusedVariables false
set_option linter.unusedSimpArgs false
attribute [local go_sem] run_store_float

/-- a variable that holds a Config -/
structure CfV (W : World) (g : Nat) (te : TypeId) (A B C : Option Addr) (sh wi ra ta : Int) (n m k c d f : Nat) (nd : List (Int × Int)) (ac : List Int) (sy : List (Int × Int × Int × Nat)) : Prop where
  blk : Blk W g te #[.int .i64 sh, .int .i64 wi, .int .i64 ra, .int .i64 ta, .slice A n c, .slice B m d, .slice C k f]
  nds : Nds W W.heap.size A nd
  ris : Ris W W.heap.size B ac
  smb : Smb W W.heap.size C sy
theorem CfV.below {W : World} {g : Nat} {te : TypeId} {A B C : Option Addr} {sh wi ra ta : Int} {n m k c d f : Nat} {nd : List (Int × Int)} {ac : List Int} {sy : List (Int × Int × Int × Nat)} {W' : World} (h : CfV W g te A B C sh wi ra ta n m k c d f nd ac sy) (hb : Below W.heap.size W W') : CfV W' g te A B C sh wi ra ta n m k c d f nd ac sy :=
  ⟨Blk.below' h.blk hb, Rd.below' h.nds hb hb.size, Rd.below' h.ris hb hb.size, Rd.below' h.smb hb hb.size⟩
theorem CfV.alloc {W : World} {g : Nat} {te : TypeId} {A B C : Option Addr} {sh wi ra ta : Int} {n m k c d f : Nat} {nd : List (Int × Int)} {ac : List Int} {sy : List (Int × Int × Int × Nat)} (h : CfV W g te A B C sh wi ra ta n m k c d f nd ac sy) (o : Obj) : CfV (W.alloc o) g te A B C sh wi ra ta n m k c d f nd ac sy :=
  h.below ((Below.refl _ _).alloc (Nat.le_refl _) _)
def C7 (W : World) (g : Nat) (v0 v1 v2 v3 v4 v5 v6 : Value) : Prop :=
  W.cell? ⟨g, 0, none⟩ = some v0 ∧ W.cell? ⟨g, 1, none⟩ = some v1 ∧ W.cell? ⟨g, 2, none⟩ = some v2 ∧ W.cell? ⟨g, 3, none⟩ = some v3 ∧ W.cell? ⟨g, 4, none⟩ = some v4 ∧ W.cell? ⟨g, 5, none⟩ = some v5 ∧ W.cell? ⟨g, 6, none⟩ = some v6
theorem c7_of {W : World} {g : Nat} {te : TypeId} {v0 v1 v2 v3 v4 v5 v6 : Value} (hk : Blk W g te #[v0, v1, v2, v3, v4, v5, v6]) :
    W.cell? ⟨g, 0, none⟩ = some v0 ∧ W.cell? ⟨g, 1, none⟩ = some v1 ∧ W.cell? ⟨g, 2, none⟩ = some v2 ∧ W.cell? ⟨g, 3, none⟩ = some v3 ∧ W.cell? ⟨g, 4, none⟩ = some v4 ∧ W.cell? ⟨g, 5, none⟩ = some v5 ∧ W.cell? ⟨g, 6, none⟩ = some v6 :=
  ⟨hk.cell 0, hk.cell 1, hk.cell 2, hk.cell 3, hk.cell 4, hk.cell 5, hk.cell 6⟩

theorem wfn_fix (nd : List (Int × Int)) : WfN (fixF nd) := okt_wf (okt_fixF nd) (by have := fixF_len nd; omega)
theorem wfi_fix {n : Nat} {ac : List Int} (h : 1 ≤ n) (h' : n ≤ 1000) : WfI (fixA n ac) := by
  intro i hi
  have h2 := fixA_in (n := n) (ac := ac) h h'
  unfold accB at h2
  have := inR_of (of_decide_eq_true h2 i hi)
  exact ⟨by omega, by omega⟩
theorem wfs_fix {sy : List (Int × Int × Int × Nat)} (hw : WfS sy) : WfS (fixS sy) := by
  intro i hi
  unfold fixS at hi ⊢
  split at hi
  · rename_i h0
    rw [if_pos h0]
    have : i = 0 := by simp at hi; omega
    subst this
    exact ⟨⟨by decide, by decide⟩, ⟨by decide, by decide⟩, ⟨by decide, by decide⟩, by decide⟩
  · rename_i h0
    rw [if_neg h0]
    have hl : i < (sy.take 3).length := by simpa using hi
    have hl2 : i < sy.length := by rw [List.length_take] at hl; omega
    have e : ((sy.take 3).map oneS).getD i (0, 0, 0, 0) = oneS ((sy.take 3)[i]) := getD_map hl
    have e2 : (sy.take 3)[i] = sy[i] := by simp
    have e3 : sy.getD i (0, 0, 0, 0) = sy[i] := by simp [hl2]
    obtain ⟨_, _, h2, h3⟩ := hw i hl2
    unfold sW at h2
    unfold sB at h3
    rw [e3] at h2 h3
    unfold sP sQ sW sB
    rw [e, e2]
    have k1 := modF_bd (x := sy[i].1) (m := 1099511627776) (by decide) (by decide)
    have k2 := modF_bd (x := sy[i].2.1) (m := 1099511627776) (by decide) (by decide)
    unfold oneS
    refine ⟨⟨by show _ ≤ 1 + _; omega, by show 1 + _ ≤ _; omega⟩, ⟨by show _ ≤ 1 + _; omega, by show 1 + _ ≤ _; omega⟩, ?_, ?_⟩
    · show inI (if _ then _ else _)
      split
      · exact ⟨by decide, by decide⟩
      · exact h2
    · show (if _ then _ else _) < _
      split
      · exact h3
      · decide

end Go.Proofs.Ytkmkaidhpbjbnaa.Tl5

/- What the reference's Fix of a Config makes, as one word. Condition: the Config lies in memory, its numbers are of 64 bits. -/
namespace Go.Proofs.Ytkmkaidhpbjbnaa.Gdc
set_option maxRecDepth 100000
open Go.RowKit Mem Tre Ref3 Law3 Fix3 Bnd Flo Cfg CrdB CrdC St7 Fcf Fown Rul7 Tl5
set_option linter.unusedVariables false
structure GoodC (sh wi ra ta : Int) (nd : List (Int × Int)) (ac : List Int) (sy : List (Int × Int × Int × Nat)) : Prop where
  cfg : cfgF sh wi ra ta nd ac sy = 0
  wn : WfN nd
  wa : WfI ac
  ws : WfS sy
  n1 : 1 ≤ nd.length
  n2 : nd.length ≤ 10
  a1 : 1 ≤ ac.length
  a2 : ac.length ≤ 5
  s1 : 1 ≤ sy.length
  s2 : sy.length ≤ 3
  h1 : 1 ≤ sh
  h2 : sh ≤ 3
  w1 : 0 ≤ wi
  w2 : wi ≤ 3
  r1 : 1 ≤ ra
  r2 : ra ≤ 6
  t1 : 1 ≤ ta
  t2 : ta ≤ 8
theorem good_fix (sh wi ra ta : Int) (nd : List (Int × Int)) (ac : List Int) (sy : List (Int × Int × Int × Nat)) (hw : WfS sy) :
    GoodC (1 + modF sh 3) (modF wi 4) (1 + modF ra 6) (1 + modF ta 8) (fixF nd) (fixA (fixF nd).length ac) (fixS sy) := by
  have hn := fixF_len nd
  have ha := fixA_len (n := (fixF nd).length) (ac := ac)
  have hs := fixS_len (sy := sy)
  have h1 := modF_bd (x := sh) (m := 3) (by decide) (by decide)
  have h2 := modF_bd (x := wi) (m := 4) (by decide) (by decide)
  have h3 := modF_bd (x := ra) (m := 6) (by decide) (by decide)
  have h4 := modF_bd (x := ta) (m := 8) (by decide) (by decide)
  exact ⟨cfg_fix sh wi ra ta nd ac sy, wfn_fix nd, wfi_fix hn.1 (by omega), wfs_fix hw, hn.1, hn.2, ha.1, ha.2, hs.1, hs.2, by omega, by omega, by omega, by omega, by omega, by omega, by omega, by omega⟩
end Go.Proofs.Ytkmkaidhpbjbnaa.Gdc

/- Contract of the law's fixed example of layer 9. No condition. -/
namespace Go.Proofs.Ytkmkaidhpbjbnaa.Mdt
set_option maxRecDepth 100000
open Go.ChangeShapes Go.WideShapes Go.ChangeAt Go.RowKit Mem Tre Ref3 Law3 Fix3 Bnd Flo Cfg CrdB CrdC Rr4 Cfr St7 Rul6 Fcf Fown Rul7 Tl5 Gdc Bkp Bks Bkf Bcl Dlk Stk Apt Bko Bku Bka Bkc Bkq Bkj Wpl Mdp Mdz Mds Mdk Mdj Mdl Mdy Mdd Mdq Mde Mdx
open Mdg hiding Mm_new q7_of
open Mdo hiding gB
set_option linter.unusedVariables false
set_option linter.unusedSimpArgs false
def ndE : List (Int × Int) := [(-1, 1000)]
def acE : List Int := [0]
def syE : List (Int × Int × Int × Nat) := [(10, 100, 1000, 4602678819172646912)]
theorem eN : fixF [] = ndE := by decide +kernel
theorem eA : fixA (fixF []).length [] = acE := by decide +kernel
theorem eS : fixS [] = syE := by decide +kernel
def P0 : Pm := bgnP 1 0 1 1 ndE acE syE
def P1 : Pm := { P0 with off := true }
def P2 : Pm := { P1 with off := false, ep := 1 }
def oE : Od := ⟨0, 0, false, 10, 2, 0, 0⟩
def P3 : Pm := { P2 with bs := P2.bs.set (shaP P2 oE) (Bks.addF P2.sh P2.wi (Mdo.gB P2.bs (shaP P2 oE)) oE P2.ep), cu := Cpl.resU P2.cl P2.cu (gI P2.ac oE.a.toNat) (worF P2 oE).2 }
theorem cfE : cfgF 1 0 1 1 ndE acE syE = 0 := by
  have h := (good_fix 0 0 0 0 [] [] [] (fun i hi => by simp at hi)).cfg
  rw [eN, show fixA ndE.length [] = acE from by rw [← eN]; exact eA, eS, show 1 + modF 0 3 = 1 from by decide +kernel, show modF 0 4 = 0 from by decide +kernel, show 1 + modF 0 6 = 1 from by decide +kernel, show 1 + modF 0 8 = 1 from by decide +kernel] at h
  exact h
theorem wnE : WfN ndE := by rw [← eN]; exact wfn_fix []
theorem waE : WfI acE := by
  intro i hi
  have : i = 0 := by simp [acE] at hi; omega
  subst this
  exact ⟨by decide, by decide⟩
theorem wsE : WfS syE := by rw [← eS]; exact wfs_fix (fun i hi => by simp at hi)
theorem vE : Vp 0 P0 := Vp_begin cfE (by rw [← eN]; exact okt_fixF []) (by decide) (by decide) wsE waE
theorem dE1 : doF P0 ⟨⟨4, 0, 0, false, 0, 0, 0, 0, 0, 0, 0, 0⟩, false, 0, 0⟩ = (P1, (0, 0, [])) := by rw [do_4 rfl (by decide +kernel) rfl]; rfl
theorem dE2 : doF P1 ⟨⟨0, 0, 0, false, 10, 2, 0, 0, 0, 0, 0, 0⟩, false, 0, 0⟩ = (P1, (2, 0, [])) := by rw [do_0 rfl (by decide +kernel) rfl]; exact ord_off rfl
theorem dE3 : doF P1 ⟨⟨5, 0, 0, false, 0, 0, 0, 0, 0, 0, 0, 0⟩, false, 0, 0⟩ = (P2, (0, 1, [])) := by rw [do_5 rfl (by decide +kernel) rfl]; rfl
theorem iE : (Mdo.gB P2.bs (shaP P2 oE)).sh + P2.sh * (Mdo.gB P2.bs (shaP P2 oE)).ca = 0 := by decide +kernel
theorem dE4 : doF P2 ⟨⟨0, 0, 0, false, 10, 2, 0, 0, 0, 0, 0, 0⟩, false, 0, 0⟩ = (P3, (0, 0, [(0, 0)])) := by
  rw [do_0 rfl (by decide +kernel) rfl]
  show ordF P2 oE = _
  rw [ord_new (p := P2) (o := oE) rfl (by decide +kernel) (by decide +kernel) (by decide +kernel), iE]
  rfl
theorem uE : P3.cu = [20] := by decide +kernel
theorem cE : P3.cl.length = 1 := by decide +kernel
set_option maxHeartbeats 8000000 in
theorem told9_any (w : World) : Calls Try.prog 5 #[] w (MadeB true w) := by
  have q1 : 1 + modF 0 3 = 1 := by decide +kernel
  have q2 : modF 0 4 = 0 := by decide +kernel
  have q3 : 1 + modF 0 6 = 1 := by decide +kernel
  have q4 : 1 + modF 0 8 = 1 := by decide +kernel
  have FX := fun W => fix5_any 0 0 0 0 none none none 0 0 0 [] [] [] W Rd.nil Rd.nil Rd.nil (fun i hi => by simp at hi) (fun i hi => by simp at hi) (fun i hi => by simp at hi) (by decide) (by decide) (by decide)
  rw [eA, eN, eS, q1, q2, q3, q4] at FX
  clear q1 q2 q3 q4
  have TX := fun W A B C c d f h1 h2 h3 => to5_any 1 0 1 1 A B C c d f ndE acE syE W h1 h2 h3 wnE (by decide) (by decide) (by decide)
  unfold MadeCf at FX TX
  rw [show ndE.length = 1 from rfl, show acE.length = 1 from rfl, show syE.length = 1 from rfl] at FX TX
  go_enter Try.func5, Try.ntmps5
  go_wp2_with fail
  refine (FX _).mono ?_
  rintro e w1 ⟨A1, B1, C1, c1, d1, f1, rfl, hn1, hu1, hs1, hb1⟩
  have b1 := Lib.hid hb1
  clear hb1 FX
  go_wp2_with fail
  refine (TX _ _ _ _ _ _ _ hn1 hu1 hs1).mono ?_
  rintro e w2 ⟨A2, B2, C2, c2, d2, f2, rfl, hn2, hu2, hs2, hb2⟩
  have b2 := Lib.hid (CrdB.below_step b1.out hb2)
  clear b1 hn1 hu1 hs1 hb2 TX
  have U2 : Below w2.heap.size w2 (w2.alloc (.cells #[.int .i64 1, .int .i64 0, .int .i64 1, .int .i64 1, .slice A2 1 c2, .slice B2 1 d2, .slice C2 1 f2] 39)) := (Below.refl _ _).alloc (Nat.le_refl _) _
  have v2 : Hid (Blk (w2.alloc (.cells #[.int .i64 1, .int .i64 0, .int .i64 1, .int .i64 1, .slice A2 1 c2, .slice B2 1 d2, .slice C2 1 f2] 39)) w2.heap.size 39 #[.int .i64 1, .int .i64 0, .int .i64 1, .int .i64 1, .slice A2 1 c2, .slice B2 1 d2, .slice C2 1 f2]) := Blk.fresh _ _ _
  have b3 : Hid (Below w.heap.size w (w2.alloc (.cells #[.int .i64 1, .int .i64 0, .int .i64 1, .int .i64 1, .slice A2 1 c2, .slice B2 1 d2, .slice C2 1 f2] 39))) := CrdB.below_step b2.out U2
  have N3 : Hid (Nds (w2.alloc (.cells #[.int .i64 1, .int .i64 0, .int .i64 1, .int .i64 1, .slice A2 1 c2, .slice B2 1 d2, .slice C2 1 f2] 39)) (w2.alloc (.cells #[.int .i64 1, .int .i64 0, .int .i64 1, .int .i64 1, .slice A2 1 c2, .slice B2 1 d2, .slice C2 1 f2] 39)).heap.size A2 ndE) := Rd.below' hn2 U2 U2.size
  have R3 : Hid (Ris (w2.alloc (.cells #[.int .i64 1, .int .i64 0, .int .i64 1, .int .i64 1, .slice A2 1 c2, .slice B2 1 d2, .slice C2 1 f2] 39)) (w2.alloc (.cells #[.int .i64 1, .int .i64 0, .int .i64 1, .int .i64 1, .slice A2 1 c2, .slice B2 1 d2, .slice C2 1 f2] 39)).heap.size B2 acE) := Rd.below' hu2 U2 U2.size
  have S3 : Hid (Smb (w2.alloc (.cells #[.int .i64 1, .int .i64 0, .int .i64 1, .int .i64 1, .slice A2 1 c2, .slice B2 1 d2, .slice C2 1 f2] 39)) (w2.alloc (.cells #[.int .i64 1, .int .i64 0, .int .i64 1, .int .i64 1, .slice A2 1 c2, .slice B2 1 d2, .slice C2 1 f2] 39)).heap.size C2 syE) := Rd.below' hs2 U2 U2.size
  clear hn2 hu2 hs2 U2 b2
  go_upto_region 2 with fail
  generalize w2.alloc (.cells #[.int .i64 1, .int .i64 0, .int .i64 1, .int .i64 1, .slice A2 1 c2, .slice B2 1 d2, .slice C2 1 f2] 39) = w3 at b3 v2 N3 R3 S3 ⊢
  generalize w2.heap.size = gK at v2 ⊢
  obtain ⟨e0, e1, e2, e3, e4, e5, e6⟩ := c7_of v2.out
  go_wp2_with fail
  refine (mbegin_any 1 0 1 1 A2 B2 C2 1 1 1 c2 d2 f2 ndE acE syE _ rfl rfl rfl N3 R3 S3 wnE (by decide) (by decide) (by decide)).mono ?_
  rintro e w4 ⟨hb4, _, hmk⟩
  obtain ⟨g, q, rfl, hM4, hP4⟩ := hmk cfE
  have B4 : Hid (Below w.heap.size w w4) := CrdB.below_step b3.out hb4
  have HBS : Hid (w.heap.size ≤ w3.heap.size) := b3.out.size
  have M4 : Hid (Mm w3.heap.size w4 g q) := hM4
  have P4 : Hid (plO q = P0) := hP4
  clear e0 e1 e2 e3 e4 e5 e6 hb4 hmk hM4 hP4 N3 R3 S3 v2
  generalize hbs : w3.heap.size = base at M4 HBS
  clear hbs b3
  go_upto_region 5 with fail
  go_wp2_with fail
  refine (Rul3.order_any 0 0 false 10 2 0 0 _).mono ?_
  rintro e w5 ⟨rfl, hb5⟩
  have U5 : Below w5.heap.size w5 (w5.alloc (.cells #[.int .i64 0, .int .i64 0, .int .i64 0, .bool false, .int .i64 10, .int .i64 2, .int .i64 0, .int .i64 0, .int .i64 0, .int .i64 0, .int .i64 0, .int .i64 0, .bool false, .int .i64 0, .int .i64 0] 52)) := (Below.refl _ _).alloc (Nat.le_refl _) _
  have U5' := CrdB.below_step hb5 U5
  have O5 : Hid (Blk (w5.alloc (.cells #[.int .i64 0, .int .i64 0, .int .i64 0, .bool false, .int .i64 10, .int .i64 2, .int .i64 0, .int .i64 0, .int .i64 0, .int .i64 0, .int .i64 0, .int .i64 0, .bool false, .int .i64 0, .int .i64 0] 52)) w5.heap.size 52 #[.int .i64 0, .int .i64 0, .int .i64 0, .bool false, .int .i64 10, .int .i64 2, .int .i64 0, .int .i64 0, .int .i64 0, .int .i64 0, .int .i64 0, .int .i64 0, .bool false, .int .i64 0, .int .i64 0]) := Blk.fresh _ _ _
  have B5 : Hid (Below w.heap.size w (w5.alloc (.cells #[.int .i64 0, .int .i64 0, .int .i64 0, .bool false, .int .i64 10, .int .i64 2, .int .i64 0, .int .i64 0, .int .i64 0, .int .i64 0, .int .i64 0, .int .i64 0, .bool false, .int .i64 0, .int .i64 0] 52))) := CrdB.below_step B4.out U5'
  have M5 := Lib.hid (Mm_below M4.out U5')
  clear hb5 U5 U5' B4 M4
  go_upto_region 6 with fail
  generalize w5.alloc (.cells #[.int .i64 0, .int .i64 0, .int .i64 0, .bool false, .int .i64 10, .int .i64 2, .int .i64 0, .int .i64 0, .int .i64 0, .int .i64 0, .int .i64 0, .int .i64 0, .bool false, .int .i64 0, .int .i64 0] 52) = w6 at O5 B5 M5 ⊢
  generalize w5.heap.size = gO at O5 ⊢
  have V5 : Hid (Vp 0 (plO q)) := by rw [P4.out]; exact vE
  have D5 := do_e base g 0 q 4 0 0 0 0 0 0 0 0 0 0 0 0 false false w w6 M5 V5 (by decide) B5.out HBS.out ⟨by decide, by decide⟩ ⟨by decide, by decide⟩ ⟨by decide, by decide⟩ (by decide) (by decide) ⟨by decide, by decide⟩ (by decide) (by decide) (by rw [P4.out]; exact dE1) (P := P1) (cd := 0) (id := 0) (outs := [])
  go_wp2_with fail
  refine D5.mono ?_
  rintro e w7 ⟨q7, A7, n7, c7, rfl, hn7, hO7, _, hM7, hP7, hV7, hB7, hA7, hK7⟩
  have O7 := Lib.hid (blk_do O5.out M5.out (by decide) (by decide) hK7)
  have M7 := Lib.hid hM7
  have P7 := Lib.hid hP7
  have V7 := Lib.hid hV7
  have B7 := Lib.hid hB7
  clear hn7 hO7 hM7 hP7 hV7 hB7 hA7 hK7 O5 M5 P4 V5 B5 D5
  go_upto_region 7 with fail
  obtain ⟨o0, o1, o2, o3, o4, o5, o6, o7, o8, o9, o10, o11, o12, o13, o14⟩ := q15_of O7.out
  have D7 := do_e base g 1 q7 0 0 0 10 2 0 0 0 0 0 0 0 0 false false w w7 M7 V7 (by decide) B7.out HBS.out ⟨by decide, by decide⟩ ⟨by decide, by decide⟩ ⟨by decide, by decide⟩ (by decide) (by decide) ⟨by decide, by decide⟩ (by decide) (by decide) (by rw [P7.out]; exact dE2) (P := P1) (cd := 2) (id := 0) (outs := [])
  go_wp2_with fail
  refine D7.mono ?_
  rintro e w8 ⟨q8, A8, n8, c8, rfl, hn8, hO8, _, hM8, hP8, hV8, hB8, hA8, hK8⟩
  have hn8' : n8 = 0 := hn8
  subst hn8'
  have O8 := blk_do O7.out M7.out (by decide) (by decide) hK8
  have U8 : Below w8.heap.size w8 (w8.alloc (.cells #[.int .i64 2, .int .i64 0] 43)) := (Below.refl _ _).alloc (Nat.le_refl _) _
  have X8 : Hid (Blk (w8.alloc (.cells #[.int .i64 2, .int .i64 0] 43)) w8.heap.size 43 #[.int .i64 2, .int .i64 0]) := Blk.fresh _ _ _
  have O9 := Lib.hid (Blk.below' O8 U8)
  have M9 := Lib.hid (Mm_below hM8 U8)
  have P9 := Lib.hid hP8
  have V9 := Lib.hid hV8
  have B9 : Hid (Below w.heap.size w (w8.alloc (.cells #[.int .i64 2, .int .i64 0] 43))) := CrdB.below_step hB8 U8
  clear o0 o1 o2 o3 o4 o5 o6 o7 o8 o9 o10 o11 o12 o13 o14 hn8 hO8 hM8 hP8 hV8 hB8 hA8 hK8 O8 U8 O7 M7 P7 V7 B7 D7
  go_upto_region 8 with fail
  generalize w8.alloc (.cells #[.int .i64 2, .int .i64 0] 43) = w9 at X8 O9 M9 B9 ⊢
  generalize w8.heap.size = gX at X8 ⊢
  have D9 := do_e base g 2 q8 5 0 0 0 0 0 0 0 0 0 0 0 0 false false w w9 M9 V9 (by decide) B9.out HBS.out ⟨by decide, by decide⟩ ⟨by decide, by decide⟩ ⟨by decide, by decide⟩ (by decide) (by decide) ⟨by decide, by decide⟩ (by decide) (by decide) (by rw [P9.out]; exact dE3) (P := P2) (cd := 0) (id := 1) (outs := [])
  go_wp2_with fail
  refine D9.mono ?_
  rintro e w10 ⟨q10, A10, n10, c10, rfl, hn10, hO10, _, hM10, hP10, hV10, hB10, hA10, hK10⟩
  have O10 := blk_do O9.out M9.out (by decide) (by decide) hK10
  have X10 := blk_do X8.out M9.out (by decide) (by decide) hK10
  have U10 : Below w10.heap.size w10 (w10.alloc (.cells #[.int .i64 0, .int .i64 1] 43)) := (Below.refl _ _).alloc (Nat.le_refl _) _
  have Y11 : Hid (Blk (w10.alloc (.cells #[.int .i64 0, .int .i64 1] 43)) w10.heap.size 43 #[.int .i64 0, .int .i64 1]) := Blk.fresh _ _ _
  have O11 := Lib.hid (Blk.below' O10 U10)
  have X11 := Lib.hid (Blk.below' X10 U10)
  have M11 := Lib.hid (Mm_below hM10 U10)
  have P11 := Lib.hid hP10
  have V11 := Lib.hid hV10
  have B11 : Hid (Below w.heap.size w (w10.alloc (.cells #[.int .i64 0, .int .i64 1] 43))) := CrdB.below_step hB10 U10
  clear hn10 hO10 hM10 hP10 hV10 hB10 hA10 hK10 O10 X10 U10 O9 X8 M9 P9 V9 B9 D9
  go_upto_region 9 with fail
  generalize w10.alloc (.cells #[.int .i64 0, .int .i64 1] 43) = w11 at Y11 O11 X11 M11 B11 ⊢
  generalize w10.heap.size = gY at Y11 ⊢
  obtain ⟨o0, o1, o2, o3, o4, o5, o6, o7, o8, o9, o10, o11, o12, o13, o14⟩ := q15_of O11.out
  have D11 := do_e base g 3 q10 0 0 0 10 2 0 0 0 0 0 0 0 0 false false w w11 M11 V11 (by decide) B11.out HBS.out ⟨by decide, by decide⟩ ⟨by decide, by decide⟩ ⟨by decide, by decide⟩ (by decide) (by decide) ⟨by decide, by decide⟩ (by decide) (by decide) (by rw [P11.out]; exact dE4) (P := P3) (cd := 0) (id := 0) (outs := [(0, 0)])
  go_wp2_with fail
  refine D11.mono ?_
  rintro e w12 ⟨q12, A12, n12, c12, rfl, hn12, hO12, _, hM12, hP12, hV12, hB12, hA12, hK12⟩
  have hn12' : n12 = 1 := hn12
  subst hn12'
  have X12 := blk_do X11.out M11.out (by decide) (by decide) hK12
  have Y12 := blk_do Y11.out M11.out (by decide) (by decide) hK12
  have U12 : Below w12.heap.size w12 (w12.alloc (.cells #[.int .i64 0, .int .i64 0] 43)) := (Below.refl _ _).alloc (Nat.le_refl _) _
  have Z13 : Hid (Blk (w12.alloc (.cells #[.int .i64 0, .int .i64 0] 43)) w12.heap.size 43 #[.int .i64 0, .int .i64 0]) := Blk.fresh _ _ _
  have X13 := Lib.hid (Blk.below' X12 U12)
  have Y13 := Lib.hid (Blk.below' Y12 U12)
  have M13 := Lib.hid (Mm_below hM12 U12)
  have P13 := Lib.hid hP12
  have B13 : Hid (Below w.heap.size w (w12.alloc (.cells #[.int .i64 0, .int .i64 0] 43))) := CrdB.below_step hB12 U12
  have W13 : Hid (Nds (w12.alloc (.cells #[.int .i64 0, .int .i64 0] 43)) (w12.alloc (.cells #[.int .i64 0, .int .i64 0] 43)).heap.size A12 [(0, 0)]) := Rd.below' hO12 U12 U12.size
  clear o0 o1 o2 o3 o4 o5 o6 o7 o8 o9 o10 o11 o12 o13 o14 hn12 hO12 hM12 hP12 hV12 hB12 hA12 hK12 X12 Y12 U12 O11 X11 Y11 M11 P11 V11 B11 D11
  go_upto_region 10 with fail
  generalize w12.alloc (.cells #[.int .i64 0, .int .i64 0] 43) = w13 at Z13 X13 Y13 M13 B13 W13 ⊢
  generalize w12.heap.size = gZ at Z13 ⊢
  have C13 := credit_any base g q12 w13 M13 (by show (plO q12).cl.length ≤ _; rw [P13.out, cE]; decide) (by show (plO q12).cu.length ≤ _; rw [P13.out, uE]; decide)
  rw [show q12.cu = [20] from by show (plO q12).cu = _; rw [P13.out, uE]] at C13
  go_wp2_with fail
  refine C13.mono ?_
  rintro e w14 ⟨A14, c14, A15, c15, rfl, _, hu14, hb14, _, _⟩
  have X14 := Lib.hid (Blk.below' X13.out hb14)
  have Y14 := Lib.hid (Blk.below' Y13.out hb14)
  have Z14 := Lib.hid (Blk.below' Z13.out hb14)
  have B14 := Lib.hid (CrdB.below_step B13.out hb14)
  have W14 : Nds w14 w14.heap.size A12 [(0, 0)] := Rd.below' W13.out hb14 hb14.size
  simp only [cE, List.length_cons, List.length_nil]
  have hfd : ∀ (X Y : Option Addr) (n m c d : Nat) (W : World), (Instr.field 62 (.agg #[.slice X n c, .slice Y m d]) 1).run Try.prog W = .ok (.slice Y m d) W := fun _ _ _ _ _ _ _ => by kernel_rfl
  clear C13 M13 P13 X13 Y13 Z13 B13 W13 hb14
  obtain ⟨by', oy, hA12, hly, hcy⟩ := Rd.at W14 (by simp [nds, ndV])
  subst hA12
  have y0 := hcy 0 (.int .i64 0) (by simp [nds, ndV])
  simp only [Nat.add_zero] at y0
  obtain ⟨bu, ou, hA15, hlu, hcu⟩ := Rd.at hu14 (by simp [ints])
  subst hA15
  have u0' := hcu 0 (.int .i64 20) (by simp [ints])
  simp only [Nat.add_zero] at u0'
  clear hcy hcu W14 hu14
  obtain ⟨x0, x1, _, _⟩ := q2b X14.out
  obtain ⟨z0, z1, _, _⟩ := q2b Y14.out
  obtain ⟨v0, v1, _, _⟩ := q2b Z14.out
  go_upto_region 11 with fail
  go_wp2_with fail
  go_ret
  exact madeB_mk rfl B14.out
end Go.Proofs.Ytkmkaidhpbjbnaa.Mdt

/- The contract of a Model's Book. Condition: the Model lies in memory. -/
namespace Go.Proofs.Ytkmkaidhpbjbnaa.Mdv
set_option maxRecDepth 100000
open Go.ChangeShapes Go.WideShapes Go.ChangeAt Go.RowKit Mem Tre Ref3 Law3 Fix3 Cfg Crd CrdB CrdC Rr4 Bkp Bks Bcl Dlk Stk Apt Bko Bku Bka Bkc Mdp Mdz Mds Mdn Mdw
open Mdo hiding gB
set_option linter.unusedVariables false
set_option linter.unusedSimpArgs false
theorem Bo_zero (base : Nat) (w : World) : Bo base w none none 0 0 [] bk0 :=
  ⟨⟨rfl, .inl ⟨rfl, rfl⟩⟩, ⟨rfl, .inl ⟨rfl, rfl⟩⟩, rfl, fun k hk => absurd hk (Nat.not_lt_zero _), by intro i j hij hj; exact absurd hj (by simp)⟩
theorem book_nil (i : Int) (w : World) :
    Calls Try.prog 11 #[.pointer none, .int .i64 i] w (MadeBo bk0 w) := by
  have U0 : Hid (Below w.heap.size w (w.alloc (.cells #[.int .i64 0, .int .i64 0, .slice none 0 0, .slice none 0 0] 58))) := (Below.refl _ _).alloc (Nat.le_refl _) _
  have Z0 : Hid (Blk (w.alloc (.cells #[.int .i64 0, .int .i64 0, .slice none 0 0, .slice none 0 0] 58)) w.heap.size 58 #[.int .i64 0, .int .i64 0, .slice none 0 0, .slice none 0 0]) := Blk.fresh _ _ _
  go_enter Try.func11, Try.ntmps11
  go_upto_region 1 with fail
  generalize hgZ : w.heap.size = gZ at Z0 ⊢
  have HGZ := Lib.hid hgZ
  clear hgZ
  generalize (w.alloc (.cells #[.int .i64 0, .int .i64 0, .slice none 0 0, .slice none 0 0] 58)) = w0 at Z0 U0 ⊢
  obtain ⟨z0, z1, z2, z3, y0, y1, y2, y3⟩ := z4_of Z0.out
  have F3 : Blk (st4 w0 gZ (.int .i64 0) (.int .i64 0) (.slice none 0 0) (.slice none 0 0)) gZ 58 #[.int .i64 0, .int .i64 0, .slice none 0 0, .slice none 0 0] := st4_blk Z0.out
  have hfin : MadeBo bk0 w (.returned (.agg #[.int .i64 0, .int .i64 0, .slice none 0 0, .slice none 0 0])) (st4 w0 gZ (.int .i64 0) (.int .i64 0) (.slice none 0 0) (.slice none 0 0)) :=
    ⟨none, none, 0, 0, [], rfl, Bo_zero _ _, st4_below U0.out (by rw [HGZ.out]; exact Nat.le_refl _)⟩
  have HF := Lib.hid hfin
  clear hfin
  go_wp2_with fail
  obtain ⟨e0, e1, e2, e3⟩ := q4_of F3
  clear F3
  unfold st4 at e0 e1 e2 e3 HF
  exact bodyPost_ret (v := .agg #[.int .i64 0, .int .i64 0, .slice none 0 0, .slice none 0 0]) (by simp [results, Try.results11, go_sem, e0, e1, e2, e3]) rfl HF.out
end Go.Proofs.Ytkmkaidhpbjbnaa.Mdv

/- The contracts of the reference's Check. Condition: the Config lies in memory, its numbers are of 64 bits. -/
namespace Go.Proofs.Ytkmkaidhpbjbnaa.Rul2
set_option maxRecDepth 100000
open Go.ChangeShapes Go.WideShapes Go.ChangeAt Go.RowKit Mem Tre Ref3 Law3 Fix3 Opn Bnd Flo Cfg Rul1
set_option linter.unusedVariables false
attribute [local go_sem] run_store_float

theorem siz_f {sh wi ra ta : Int} (h : sh < 1 ∨ 4 < sh ∨ wi < 0 ∨ 16 < wi ∨ ra < 1 ∨ 1000 < ra ∨ ta < 1 ∨ 64 < ta) : sizB sh wi ra ta = false := by
  unfold sizB btwB
  simp only [Bool.and_eq_false_iff, decide_eq_false_iff_not]
  omega
theorem siz_t {sh wi ra ta : Int} (h : ¬ (sh < 1 ∨ 4 < sh ∨ wi < 0 ∨ 16 < wi ∨ ra < 1 ∨ 1000 < ra ∨ ta < 1 ∨ 64 < ta)) : sizB sh wi ra ta = true := by
  unfold sizB btwB
  simp only [Bool.and_eq_true, decide_eq_true_eq]
  omega
theorem sym_f {p q wo : Int} {b : Nat} (h : p < 1 ∨ 1099511627776 < p ∨ q < 1 ∨ 1099511627776 < q ∨ wo < 0 ∨ rightB b = false) : symB p q wo b = false := by
  unfold symB btwB
  simp only [Bool.and_eq_false_iff, decide_eq_false_iff_not]
  rcases h with h | h | h | h | h | h
  · omega
  · omega
  · omega
  · omega
  · omega
  · exact .inr h
theorem sym_t {p q wo : Int} {b : Nat} (h : ¬ (p < 1 ∨ 1099511627776 < p ∨ q < 1 ∨ 1099511627776 < q ∨ wo < 0)) (hb : rightB b = true) : symB p q wo b = true := by
  unfold symB btwB
  simp only [Bool.and_eq_true, decide_eq_true_eq]
  exact ⟨by omega, hb⟩

set_option maxHeartbeats 4000000 in
theorem rcheck5_any (sh wi ra ta : Int) (A B C : Option Addr) (c d f : Nat) (nd : List (Int × Int)) (ac : List Int) (sy : List (Int × Int × Int × Nat)) (w : World)
    (hl : Hid (Nds w w.heap.size A nd)) (hu : Hid (Ris w w.heap.size B ac)) (hs : Hid (Smb w w.heap.size C sy)) (hw : Hid (WfN nd)) (hmax : (nd.length : Int) ≤ 1000000) (hmay : (ac.length : Int) ≤ 1000000) (hmaz : (sy.length : Int) ≤ 1000000) :
    Calls Try.prog 8 #[.agg #[.int .i64 sh, .int .i64 wi, .int .i64 ra, .int .i64 ta, .slice A nd.length c, .slice B ac.length d, .slice C sy.length f]] w (MadeX (cfgF sh wi ra ta nd ac sy) w) := by
  have b0 : Below w.heap.size w (w.alloc (.cells #[.int .i64 sh, .int .i64 wi, .int .i64 ra, .int .i64 ta, .slice A nd.length c, .slice B ac.length d, .slice C sy.length f] 29)) := (Below.refl _ _).alloc (Nat.le_refl _) _
  have l0 : Hid (Nds (w.alloc (.cells #[.int .i64 sh, .int .i64 wi, .int .i64 ra, .int .i64 ta, .slice A nd.length c, .slice B ac.length d, .slice C sy.length f] 29)) (w.alloc (.cells #[.int .i64 sh, .int .i64 wi, .int .i64 ra, .int .i64 ta, .slice A nd.length c, .slice B ac.length d, .slice C sy.length f] 29)).heap.size A nd) := Rd.below' hl.out b0 b0.size
  have ua0 : Hid (Ris (w.alloc (.cells #[.int .i64 sh, .int .i64 wi, .int .i64 ra, .int .i64 ta, .slice A nd.length c, .slice B ac.length d, .slice C sy.length f] 29)) (w.alloc (.cells #[.int .i64 sh, .int .i64 wi, .int .i64 ra, .int .i64 ta, .slice A nd.length c, .slice B ac.length d, .slice C sy.length f] 29)).heap.size B ac) := Rd.below' hu.out b0 b0.size
  have s0 : Hid (Smb (w.alloc (.cells #[.int .i64 sh, .int .i64 wi, .int .i64 ra, .int .i64 ta, .slice A nd.length c, .slice B ac.length d, .slice C sy.length f] 29)) (w.alloc (.cells #[.int .i64 sh, .int .i64 wi, .int .i64 ra, .int .i64 ta, .slice A nd.length c, .slice B ac.length d, .slice C sy.length f] 29)).heap.size C sy) := Rd.below' hs.out b0 b0.size
  have k0 : Hid (Blk (w.alloc (.cells #[.int .i64 sh, .int .i64 wi, .int .i64 ra, .int .i64 ta, .slice A nd.length c, .slice B ac.length d, .slice C sy.length f] 29)) w.heap.size 29 #[.int .i64 sh, .int .i64 wi, .int .i64 ra, .int .i64 ta, .slice A nd.length c, .slice B ac.length d, .slice C sy.length f]) := Blk.fresh _ _ _
  by_cases hh0 : sh < 1
  · have E : Hid (cfgF sh wi ra ta nd ac sy = 1) := cfgF_1 (siz_f (by omega))
    go_enter Try.func8, Try.ntmps8
    go_wp2_with fail
    go_ret
    exact madeX_mk E.out b0
  by_cases hh1 : 4 < sh
  · have E : Hid (cfgF sh wi ra ta nd ac sy = 1) := cfgF_1 (siz_f (by omega))
    go_enter Try.func8, Try.ntmps8
    go_wp2_with fail
    go_ret
    exact madeX_mk E.out b0
  by_cases hh2 : wi < 0
  · have E : Hid (cfgF sh wi ra ta nd ac sy = 1) := cfgF_1 (siz_f (by omega))
    go_enter Try.func8, Try.ntmps8
    go_wp2_with fail
    go_ret
    exact madeX_mk E.out b0
  by_cases hh3 : 16 < wi
  · have E : Hid (cfgF sh wi ra ta nd ac sy = 1) := cfgF_1 (siz_f (by omega))
    go_enter Try.func8, Try.ntmps8
    go_wp2_with fail
    go_ret
    exact madeX_mk E.out b0
  by_cases hh4 : ra < 1
  · have E : Hid (cfgF sh wi ra ta nd ac sy = 1) := cfgF_1 (siz_f (by omega))
    go_enter Try.func8, Try.ntmps8
    go_wp2_with fail
    go_ret
    exact madeX_mk E.out b0
  by_cases hh5 : 1000 < ra
  · have E : Hid (cfgF sh wi ra ta nd ac sy = 1) := cfgF_1 (siz_f (by omega))
    go_enter Try.func8, Try.ntmps8
    go_wp2_with fail
    go_ret
    exact madeX_mk E.out b0
  by_cases hh6 : ta < 1
  · have E : Hid (cfgF sh wi ra ta nd ac sy = 1) := cfgF_1 (siz_f (by omega))
    go_enter Try.func8, Try.ntmps8
    go_wp2_with fail
    go_ret
    exact madeX_mk E.out b0
  by_cases hh7 : 64 < ta
  · have E : Hid (cfgF sh wi ra ta nd ac sy = 1) := cfgF_1 (siz_f (by omega))
    go_enter Try.func8, Try.ntmps8
    go_wp2_with fail
    go_ret
    exact madeX_mk E.out b0
  have HSZ : Hid (sizB sh wi ra ta = true) := siz_t (by omega)
  go_enter Try.func8, Try.ntmps8
  go_wp2_with fail
  generalize (w.alloc (.cells #[.int .i64 sh, .int .i64 wi, .int .i64 ra, .int .i64 ta, .slice A nd.length c, .slice B ac.length d, .slice C sy.length f] 29)) = w1 at b0 l0 ua0 s0 k0 ⊢
  refine (rcheck_any A c nd w1 l0 hw (by omega)).mono ?_
  rintro e w2 ⟨rfl, hb2⟩
  have b2 := below_step b0 hb2
  have k2 := Lib.hid (Blk.below' k0.out hb2)
  have ua2 : Hid (Ris w2 w2.heap.size B ac) := Rd.below' ua0.out hb2 hb2.size
  have s2 : Hid (Smb w2 w2.heap.size C sy) := Rd.below' s0.out hb2 hb2.size
  have g4 : w2.cell? ⟨w.heap.size, 4, none⟩ = some (.slice A nd.length c) := k2.out.cell 4
  have g5 : w2.cell? ⟨w.heap.size, 5, none⟩ = some (.slice B ac.length d) := k2.out.cell 5
  have g6 : w2.cell? ⟨w.heap.size, 6, none⟩ = some (.slice C sy.length f) := k2.out.cell 6
  clear b0 k0 l0 ua0 s0 hb2
  by_cases hc : (chk nd).1 = 0
  case neg =>
    have c1 : ((chk nd).1 != 0) = true := by simp [hc]
    have c2 : ((chk nd).1 == 0) = false := by simp [hc]
    have E : Hid (cfgF sh wi ra ta nd ac sy = (chk nd).1) := cfgF_2 HSZ.out hc
    clear hc
    go_wp2_with fail
    go_ret
    exact madeX_mk E.out b2
  have c1 : ((chk nd).1 != 0) = false := by simp [hc]
  have c2 : ((chk nd).1 == 0) = true := by simp [hc]
  have HC := Lib.hid hc
  clear hc
  by_cases ha0 : (ac.length : Int) < 1
  · have E : Hid (cfgF sh wi ra ta nd ac sy = 3) := cfgF_3 HSZ.out HC.out (.inl (by omega))
    go_wp2_with fail
    go_ret
    exact madeX_mk E.out b2
  by_cases ha1 : 32 < (ac.length : Int)
  · have E : Hid (cfgF sh wi ra ta nd ac sy = 3) := cfgF_3 HSZ.out HC.out (.inr (by omega))
    go_wp2_with fail
    go_ret
    exact madeX_mk E.out b2
  have HA : Hid (¬ (ac.length = 0 ∨ 32 < ac.length)) := by show ¬ _; omega
  have q3 : decide (32 < (ac.length : Int)) = false := by simp; omega
  go_wp2_with fail
  go_loopg [5] ac.length (fun g s5 w' => ∃ (k nq : Nat), k + g = ac.length ∧ s5 = .int .i64 k ∧ Hid (∀ i, i < k → inR nd.length (gI ac i) = true) ∧ w' = w2.drewN nq)
  case atStart => exact ⟨0, 0, by omega, rfl, fun i hi => absurd hi (Nat.not_lt_zero i), rfl⟩
  case round =>
    obtain ⟨k, nq, hk, rfl, hall, rfl⟩ := hrel
    by_cases hlt : (k : Int) < (ac.length : Int)
    · obtain ⟨g, rfl⟩ : ∃ g, gk = g + 1 := ⟨gk - 1, by omega⟩
      obtain ⟨b, o, rfl, hb, hcc⟩ := Ris.at (i := k) ua2.out (by omega)
      have d0 := hcc k (by omega)
      clear hcc
      by_cases hi0 : gI ac k < 0
      · have E : Hid (cfgF sh wi ra ta nd ac sy = 18) := cfgF_4 HSZ.out HC.out HA.out (accB_f (i := k) (by omega) (inR_f (by omega)))
        have z1 : decide (gI ac k < 0) = true := by simp; omega
        go_wp2_with fail
        go_quiet (fail)
        go_wp2_with fail
        go_ret
        exact madeX_mk E.out (Below.drewN' (Below.drewN' b2 _) _)
      have z1 : decide (gI ac k < 0) = false := by simp; omega
      by_cases hi1 : (nd.length : Int) ≤ gI ac k
      · have E : Hid (cfgF sh wi ra ta nd ac sy = 18) := cfgF_4 HSZ.out HC.out HA.out (accB_f (i := k) (by omega) (inR_f (by omega)))
        have z2 : decide ((nd.length : Int) ≤ gI ac k) = true := by simp; omega
        go_wp2_with fail
        go_quiet (fail)
        go_wp2_with fail
        go_ret
        exact madeX_mk E.out (Below.drewN' (Below.drewN' b2 _) _)
      have z2 : decide ((nd.length : Int) ≤ gI ac k) = false := by simp; omega
      have hall' : Hid (∀ i, i < k + 1 → inR nd.length (gI ac i) = true) := fun i hi => by
        by_cases e : i = k
        · subst e; exact inR_t (by omega) (by omega)
        · exact hall.out i (by omega)
      go_wp2_with fail
      go_quiet (fail)
      go_wp2_with fail
      go_roundg g
      case measure => omega
      case rel => exact ⟨k + 1, _, by omega, by go_num, hall', rfl⟩
    · have HB : Hid (accB nd.length ac = true) := accB_t fun i hi => hall.out i (by omega)
      have bq : Below w.heap.size w (w2.drewN nq) := Below.drewN' b2 nq
      have sq : Hid (Smb (w2.drewN nq) (w2.drewN nq).heap.size C sy) := s2.out
      have kq : Hid (Blk (w2.drewN nq) w.heap.size 29 #[.int .i64 sh, .int .i64 wi, .int .i64 ra, .int .i64 ta, .slice A nd.length c, .slice B ac.length d, .slice C sy.length f]) := k2.out
      have g4' : (w2.drewN nq).cell? ⟨w.heap.size, 4, none⟩ = some (.slice A nd.length c) := g4
      have g5' : (w2.drewN nq).cell? ⟨w.heap.size, 5, none⟩ = some (.slice B ac.length d) := g5
      have g6' : (w2.drewN nq).cell? ⟨w.heap.size, 6, none⟩ = some (.slice C sy.length f) := g6
      clear hk g4 g5 g6 b2 s2 k2
      generalize w2.drewN nq = w3 at bq sq kq g4' g5' g6' ⊢
      by_cases ha0 : (sy.length : Int) < 1
      · have E : Hid (cfgF sh wi ra ta nd ac sy = 4) := cfgF_5 HSZ.out HC.out HA.out HB.out (.inl (by omega))
        go_wp2_with fail
        go_ret
        exact madeX_mk E.out bq
      by_cases ha2 : 16 < (sy.length : Int)
      · have E : Hid (cfgF sh wi ra ta nd ac sy = 4) := cfgF_5 HSZ.out HC.out HA.out HB.out (.inr (by omega))
        go_wp2_with fail
        go_ret
        exact madeX_mk E.out bq
      have HD : Hid (¬ (sy.length = 0 ∨ 16 < sy.length)) := by show ¬ _; omega
      have q4 : decide (16 < (sy.length : Int)) = false := by simp; omega
      go_wp2_with fail
      go_loopg [6] sy.length (fun g s6 w' => ∃ (j : Nat), j + g = sy.length ∧ s6 = .int .i64 j ∧ Hid (∀ i, i < j → symB (sP sy i) (sQ sy i) (sW sy i) (sB sy i) = true) ∧ Below w3.heap.size w3 w')
      case atStart => exact ⟨0, by omega, rfl, fun i hi => absurd hi (Nat.not_lt_zero i), Below.refl _ _⟩
      case round =>
        obtain ⟨j, hj, rfl, hall2, hbel⟩ := hrel
        have bE := below_step bq hbel
        have g7 : wr.cell? ⟨w.heap.size, 6, none⟩ = some (.slice C sy.length f) := (Blk.below' kq.out hbel).cell 6
        by_cases hlt2 : (j : Int) < (sy.length : Int)
        · obtain ⟨g, rfl⟩ : ∃ g, gk = g + 1 := ⟨gk - 1, by omega⟩
          obtain ⟨b, o, rfl, hb, hcc⟩ := Smb.at (i := j) sq.out (by omega)
          obtain ⟨r0, r1, r2, r3⟩ := hcc j (by omega)
          have d0 := (hbel.cell (p := ⟨b, o + j * 4, none⟩) hb).trans r0
          have d1 := (hbel.cell (p := ⟨b, o + j * 4 + 1, none⟩) hb).trans r1
          have d2 := (hbel.cell (p := ⟨b, o + j * 4 + 2, none⟩) hb).trans r2
          have d3 := (hbel.cell (p := ⟨b, o + j * 4 + 3, none⟩) hb).trans r3
          clear hcc r0 r1 r2 r3
          by_cases hy0 : sP sy j < 1
          ·
              have E : Hid (cfgF sh wi ra ta nd ac sy = 1) := cfgF_6 HSZ.out HC.out HA.out HB.out HD.out (tabB_f (i := j) (by omega) (sym_f (by omega)))
              go_wp2_with fail
              go_ret
              exact madeX_mk E.out (bE.alloc bE.size _)
          by_cases hy1 : 1099511627776 < sP sy j
          ·
              have E : Hid (cfgF sh wi ra ta nd ac sy = 1) := cfgF_6 HSZ.out HC.out HA.out HB.out HD.out (tabB_f (i := j) (by omega) (sym_f (by omega)))
              go_wp2_with fail
              go_ret
              exact madeX_mk E.out (bE.alloc bE.size _)
          by_cases hy2 : sQ sy j < 1
          ·
              have E : Hid (cfgF sh wi ra ta nd ac sy = 1) := cfgF_6 HSZ.out HC.out HA.out HB.out HD.out (tabB_f (i := j) (by omega) (sym_f (by omega)))
              go_wp2_with fail
              go_ret
              exact madeX_mk E.out (bE.alloc bE.size _)
          by_cases hy3 : 1099511627776 < sQ sy j
          ·
              have E : Hid (cfgF sh wi ra ta nd ac sy = 1) := cfgF_6 HSZ.out HC.out HA.out HB.out HD.out (tabB_f (i := j) (by omega) (sym_f (by omega)))
              go_wp2_with fail
              go_ret
              exact madeX_mk E.out (bE.alloc bE.size _)
          by_cases hy4 : sW sy j < 0
          ·
              have E : Hid (cfgF sh wi ra ta nd ac sy = 1) := cfgF_6 HSZ.out HC.out HA.out HB.out HD.out (tabB_f (i := j) (by omega) (sym_f (by omega)))
              go_wp2_with fail
              go_ret
              exact madeX_mk E.out (bE.alloc bE.size _)
          cases hin : rightB (sB sy j)
          · have E : Hid (cfgF sh wi ra ta nd ac sy = 1) := cfgF_6 HSZ.out HC.out HA.out HB.out HD.out (tabB_f (i := j) (by omega) (sym_f (.inr (.inr (.inr (.inr (.inr hin)))))))
            go_wp2_with (go_at_call 22; refine (Bnd.rright_any _ _).mono ?_; rintro e w4 ⟨rfl, rfl⟩)
            go_ret
            exact madeX_mk E.out (bE.alloc bE.size _)
          · have hall' : Hid (∀ i, i < j + 1 → symB (sP sy i) (sQ sy i) (sW sy i) (sB sy i) = true) := fun i hi => by
              by_cases e : i = j
              · subst e; exact sym_t (by omega) hin
              · exact hall2.out i (by omega)
            go_wp2_with (go_at_call 22; refine (Bnd.rright_any _ _).mono ?_; rintro e w4 ⟨rfl, rfl⟩)
            go_roundg g
            case measure => omega
            case rel => exact ⟨j + 1, by omega, by go_num, hall', hbel.alloc hbel.size _⟩
        · have E : Hid (cfgF sh wi ra ta nd ac sy = 0) := cfgF_7 HSZ.out HC.out HA.out HB.out HD.out (tabB_t fun i hi => hall2.out i (by omega))
          go_wp2_with fail
          go_ret
          exact madeX_mk E.out bE
end Go.Proofs.Ytkmkaidhpbjbnaa.Rul2

/- The contract of the law's Ref: a Config by bits as the reference has it. Condition: the Config lies in memory. -/
namespace Go.Proofs.Ytkmkaidhpbjbnaa.Rul5
set_option maxRecDepth 100000
open Go.ChangeShapes Go.WideShapes Go.ChangeAt Go.RowKit Mem Tre Ref3 Law3 Fix3 Opn Bnd Flo Cfg CrdB CrdC Rr4 Fr4 St7 Lat
set_option linter.unusedVariables false
set_option linter.unusedSimpArgs false
attribute [local go_sem] run_store_float

set_option maxHeartbeats 4000000 in
theorem ref_any (sh wi ra ta : Int) (A B C : Option Addr) (c d f n m k : Nat) (nd : List (Int × Int)) (ac : List Int) (sy : List (Int × Int × Int × Nat)) (w : World) (hn : Hid (n = nd.length)) (hm : Hid (m = ac.length)) (hk : Hid (k = sy.length))
    (hl : Hid (Nds w w.heap.size A nd)) (hu : Hid (Ris w w.heap.size B ac)) (hs : Hid (Btb w w.heap.size C sy)) (hmaz : (k : Int) ≤ 4398046511104) :
    Calls Try.prog 4 #[.agg #[.int .i64 sh, .int .i64 wi, .int .i64 ra, .int .i64 ta, .slice A n c, .slice B m d, .slice C k f]] w (MadeCf sh wi ra ta nd ac sy w) := by
  obtain ⟨i0, hi, hz0, hz1, hz2⟩ := info_parts sym_info
  have h18 := run18
  have k1 : Hid (Blk (((w.alloc (.cells #[.int .i64 sh, .int .i64 wi, .int .i64 ra, .int .i64 ta, .slice A n c, .slice B m d, .slice C k f] 26)).alloc (.cells #[.int .i64 0, .int .i64 0, .int .i64 0, .int .i64 0, .slice none 0 0, .slice none 0 0, .slice none 0 0] 29)).alloc (.cells #[.int .i64 sh, .int .i64 wi, .int .i64 ra, .int .i64 ta, .slice A n c, .slice B m d, .slice none 0 0] 29)) w.heap.size 26 #[.int .i64 sh, .int .i64 wi, .int .i64 ra, .int .i64 ta, .slice A n c, .slice B m d, .slice C k f]) := ((Blk.fresh w _ _).alloc _).alloc _
  have k2 : Hid (Blk (((w.alloc (.cells #[.int .i64 sh, .int .i64 wi, .int .i64 ra, .int .i64 ta, .slice A n c, .slice B m d, .slice C k f] 26)).alloc (.cells #[.int .i64 0, .int .i64 0, .int .i64 0, .int .i64 0, .slice none 0 0, .slice none 0 0, .slice none 0 0] 29)).alloc (.cells #[.int .i64 sh, .int .i64 wi, .int .i64 ra, .int .i64 ta, .slice A n c, .slice B m d, .slice none 0 0] 29)) (w.heap.size + 1) 29 #[.int .i64 0, .int .i64 0, .int .i64 0, .int .i64 0, .slice none 0 0, .slice none 0 0, .slice none 0 0]) := by
    have := Blk.fresh (w.alloc (.cells #[.int .i64 sh, .int .i64 wi, .int .i64 ra, .int .i64 ta, .slice A n c, .slice B m d, .slice C k f] 26)) 29 #[.int .i64 0, .int .i64 0, .int .i64 0, .int .i64 0, .slice none 0 0, .slice none 0 0, .slice none 0 0]
    simp only [World.size_alloc] at this
    exact this.alloc _
  have kO : Hid (Blk (((w.alloc (.cells #[.int .i64 sh, .int .i64 wi, .int .i64 ra, .int .i64 ta, .slice A n c, .slice B m d, .slice C k f] 26)).alloc (.cells #[.int .i64 0, .int .i64 0, .int .i64 0, .int .i64 0, .slice none 0 0, .slice none 0 0, .slice none 0 0] 29)).alloc (.cells #[.int .i64 sh, .int .i64 wi, .int .i64 ra, .int .i64 ta, .slice A n c, .slice B m d, .slice none 0 0] 29)) (w.heap.size + 1 + 1) 29 #[.int .i64 sh, .int .i64 wi, .int .i64 ra, .int .i64 ta, .slice A n c, .slice B m d, .slice none 0 0]) := by
    have := Blk.fresh ((w.alloc (.cells #[.int .i64 sh, .int .i64 wi, .int .i64 ra, .int .i64 ta, .slice A n c, .slice B m d, .slice C k f] 26)).alloc (.cells #[.int .i64 0, .int .i64 0, .int .i64 0, .int .i64 0, .slice none 0 0, .slice none 0 0, .slice none 0 0] 29)) 29 #[.int .i64 sh, .int .i64 wi, .int .i64 ra, .int .i64 ta, .slice A n c, .slice B m d, .slice none 0 0]
    simp only [World.size_alloc] at this
    exact this
  have b0 : Below w.heap.size w (((w.alloc (.cells #[.int .i64 sh, .int .i64 wi, .int .i64 ra, .int .i64 ta, .slice A n c, .slice B m d, .slice C k f] 26)).alloc (.cells #[.int .i64 0, .int .i64 0, .int .i64 0, .int .i64 0, .slice none 0 0, .slice none 0 0, .slice none 0 0] 29)).alloc (.cells #[.int .i64 sh, .int .i64 wi, .int .i64 ra, .int .i64 ta, .slice A n c, .slice B m d, .slice none 0 0] 29)) := (((Below.refl _ _).alloc (Nat.le_refl _) _).alloc (by simp) _).alloc (by simp; omega) _
  go_enter Try.func4, Try.ntmps4
  go_upto_region 2 with fail
  generalize (((w.alloc (.cells #[.int .i64 sh, .int .i64 wi, .int .i64 ra, .int .i64 ta, .slice A n c, .slice B m d, .slice C k f] 26)).alloc (.cells #[.int .i64 0, .int .i64 0, .int .i64 0, .int .i64 0, .slice none 0 0, .slice none 0 0, .slice none 0 0] 29)).alloc (.cells #[.int .i64 sh, .int .i64 wi, .int .i64 ra, .int .i64 ta, .slice A n c, .slice B m d, .slice none 0 0] 29)) = W0 at k1 k2 kO b0 ⊢
  have g1 : w.heap.size < w.heap.size + 1 := by omega
  have g2 : w.heap.size + 1 < w.heap.size + 1 + 1 := by omega
  generalize w.heap.size + 1 + 1 = gO at g2 kO ⊢
  generalize w.heap.size + 1 = gR at g1 g2 k2 ⊢
  go_wp2_with fail
  go_loopg [4] k (fun g s4 w' => ∃ (j : Nat) (Ak : Option Addr) (ck : Nat), j + g = k ∧ s4 = .int .i64 j ∧ Hid (Blk w' gO 29 #[.int .i64 sh, .int .i64 wi, .int .i64 ra, .int .i64 ta, .slice A n c, .slice B m d, .slice Ak j ck]) ∧ Hid (w'.ownsRow (gO + 1) 71 4 (.slice Ak j ck) j (smbs (sy.take j))) ∧ Below gO W0 w')
  case atStart => exact ⟨0, none, 0, by omega, rfl, kO, World.ownsRow_nil _ _ _ _, Below.refl _ _⟩
  case round =>
    obtain ⟨j, Ak, ck, hj, rfl, hO, hown, hbl⟩ := hrel
    have q1 := Lib.hid (Blk.below k1.out hbl (by omega))
    have f6 : wr.cell? ⟨w.heap.size, 6, none⟩ = some (.slice C k f) := q1.out.cell 6
    have e6 : wr.cell? ⟨gO, 6, none⟩ = some (.slice Ak j ck) := hO.out.cell 6
    have hgr := hO.out.lt
    by_cases hlt : (j : Int) < (k : Int)
    · obtain ⟨g, rfl⟩ : ∃ g, gk = g + 1 := ⟨gk - 1, by omega⟩
      have hsw : Btb wr w.heap.size C sy := Rd.below hs.out (b0.trans (hbl.mono (by omega)))
      obtain ⟨b, o, rfl, hb, hcc⟩ := Btb.at (i := j) hsw (by have := hk.out; omega)
      obtain ⟨d0, d1, d2, d3⟩ := hcc j (by have := hk.out; omega)
      have hpre : Hid (smbs (sy.take (j + 1)) = smbs (sy.take j) ++ [.int .i64 (sP sy j), .int .i64 (sQ sy j), .int .i64 (sW sy j), .float .f64 (sB sy j)]) := by show _ = _; rw [takeS_snoc (by have := hk.out; omega), smbs_snoc]
      clear hcc hsw
      generalize sP sy j = xp at *
      generalize sQ sy j = xq at *
      generalize sW sy j = xw at *
      generalize sB sy j = xb at *
      have kS : Hid (Blk (wr.alloc (.cells #[.int .i64 xp, .int .i64 xq, .int .i64 xw, .int .u64 (xb : Int)] 67)) wr.heap.size 67 #[.int .i64 xp, .int .i64 xq, .int .i64 xw, .int .u64 (xb : Int)]) := Blk.fresh _ _ _
      have hO1 : Hid (Blk (wr.alloc (.cells #[.int .i64 xp, .int .i64 xq, .int .i64 xw, .int .u64 (xb : Int)] 67)) gO 29 #[.int .i64 sh, .int .i64 wi, .int .i64 ra, .int .i64 ta, .slice A n c, .slice B m d, .slice Ak j ck]) := hO.out.alloc _
      have hw1 : Hid ((wr.alloc (.cells #[.int .i64 xp, .int .i64 xq, .int .i64 xw, .int .u64 (xb : Int)] 67)).ownsRow (gO + 1) 71 4 (.slice Ak j ck) j (smbs (sy.take j))) := World.ownsRow.alloc hown.out _
      have hb1 : Below gO W0 (wr.alloc (.cells #[.int .i64 xp, .int .i64 xq, .int .i64 xw, .int .u64 (xb : Int)] 67)) := hbl.alloc (by omega) _
      have hgS : some wr.heap.size ≠ (Value.slice Ak j ck).ownBlock := by intro e; have := World.ownsRow.lt hown.out _ e.symm; omega
      have HGS := Lib.hid hgS
      clear hgS
      go_upto_region 6 with fail
      generalize wr.alloc (.cells #[.int .i64 xp, .int .i64 xq, .int .i64 xw, .int .u64 (xb : Int)] 67) = w1 at kS hO1 hw1 hb1 ⊢
      generalize wr.heap.size = gS at kS hgr HGS ⊢
      have s0 : w1.cell? ⟨gS, 0, none⟩ = some (.int .i64 xp) := kS.out.cell 0
      have s1 : w1.cell? ⟨gS, 1, none⟩ = some (.int .i64 xq) := kS.out.cell 1
      have s2 : w1.cell? ⟨gS, 2, none⟩ = some (.int .i64 xw) := kS.out.cell 2
      have s3 : w1.cell? ⟨gS, 3, none⟩ = some (.int .u64 (xb : Int)) := kS.out.cell 3
      have v6 : w1.cell? ⟨gO, 6, none⟩ = some (.slice Ak j ck) := hO1.out.cell 6
      have hgO := hO1.out.lt
      have hgS' := kS.out.lt
      have va : ∀ X, (fun w' => w'.cell? ⟨gO, 6, none⟩ = some (.slice Ak j ck) ∧ w'.cell? ⟨gS, 0, none⟩ = some (.int .i64 xp) ∧ w'.cell? ⟨gS, 1, none⟩ = some (.int .i64 xq) ∧ w'.cell? ⟨gS, 2, none⟩ = some (.int .i64 xw) ∧ w'.cell? ⟨gS, 3, none⟩ = some (.int .u64 (xb : Int))) (w1.drew.alloc X) := fun X => ⟨(World.cell?_alloc_lt w1.drew X ⟨gO, 6, none⟩ hgO).trans v6, (World.cell?_alloc_lt w1.drew X ⟨gS, 0, none⟩ hgS').trans s0, (World.cell?_alloc_lt w1.drew X ⟨gS, 1, none⟩ hgS').trans s1, (World.cell?_alloc_lt w1.drew X ⟨gS, 2, none⟩ hgS').trans s2, (World.cell?_alloc_lt w1.drew X ⟨gS, 3, none⟩ hgS').trans s3⟩
      have VA := Lib.hid va
      clear va
      refine wp_region_noPanic ?_
      refine wp_region_L (T := (fun w' => w'.cell? ⟨gO, 6, none⟩ = some (.slice Ak j ck) ∧ w'.cell? ⟨gS, 0, none⟩ = some (.int .i64 xp) ∧ w'.cell? ⟨gS, 1, none⟩ = some (.int .i64 xq) ∧ w'.cell? ⟨gS, 2, none⟩ = some (.int .i64 xw) ∧ w'.cell? ⟨gS, 3, none⟩ = some (.int .u64 (xb : Int)))) (st := [15]) (by kernel_rfl) ?_
      have hT : (fun w' => w'.cell? ⟨gO, 6, none⟩ = some (.slice Ak j ck) ∧ w'.cell? ⟨gS, 0, none⟩ = some (.int .i64 xp) ∧ w'.cell? ⟨gS, 1, none⟩ = some (.int .i64 xq) ∧ w'.cell? ⟨gS, 2, none⟩ = some (.int .i64 xw) ∧ w'.cell? ⟨gS, 3, none⟩ = some (.int .u64 (xb : Int))) w1.drew := ⟨v6, s0, s1, s2, s3⟩
      have HT := Lib.hid hT
      clear hT
      refine wpL_word (i := 0) (v := ?_) rfl (by kernel_rfl) (fun _ _ _ h => h) (by kernel_rfl) _ _ _ _ (by kernel_rfl) (by kernel_rfl) (Or.inl ⟨by rfl, ?_⟩) (fun _ => HT.out) ?_
      rotate_left
      · intro w' _
        go_simp
        try with_reducible rfl
      try simp only [Act.put, List.setIfInBounds_toArray, List.set_cons_zero, List.set_cons_succ]
      refine wpL_load (i := 1) (v := ?_) rfl (by kernel_rfl) (fun _ _ _ h => h) (by kernel_rfl) (by kernel_rfl) _ _ _ _ (by kernel_rfl) (by kernel_rfl) (Or.inl ⟨by rfl, ?_⟩) (by kernel_rfl) HT.out ?_
      rotate_left
      · intro w' hS
        try dsimp only at hS
        obtain ⟨x4, x5, x6, x7, x8⟩ := hS
        go_simp
        try with_reducible rfl
      try simp only [Act.put, List.setIfInBounds_toArray, List.set_cons_zero, List.set_cons_succ]
      refine wpL_word (i := 2) (v := ?_) rfl (by kernel_rfl) (fun _ _ _ h => h) (by kernel_rfl) _ _ _ _ (by kernel_rfl) (by kernel_rfl) (Or.inl ⟨by rfl, ?_⟩) (fun _ => HT.out) ?_
      rotate_left
      · intro w' _
        go_simp
        try with_reducible rfl
      try simp only [Act.put, List.setIfInBounds_toArray, List.set_cons_zero, List.set_cons_succ]
      refine wpL_load (i := 3) (v := ?_) rfl (by kernel_rfl) (fun _ _ _ h => h) (by kernel_rfl) (by kernel_rfl) _ _ _ _ (by kernel_rfl) (by kernel_rfl) (Or.inl ⟨by rfl, ?_⟩) (by kernel_rfl) HT.out ?_
      rotate_left
      · intro w' hS
        try dsimp only at hS
        obtain ⟨x4, x5, x6, x7, x8⟩ := hS
        go_simp
        try with_reducible rfl
      try simp only [Act.put, List.setIfInBounds_toArray, List.set_cons_zero, List.set_cons_succ]
      refine wpL_word (i := 4) (v := ?_) rfl (by kernel_rfl) (fun _ _ _ h => h) (by kernel_rfl) _ _ _ _ (by kernel_rfl) (by kernel_rfl) (Or.inl ⟨by rfl, ?_⟩) (fun _ => HT.out) ?_
      rotate_left
      · intro w' _
        go_simp
        try with_reducible rfl
      try simp only [Act.put, List.setIfInBounds_toArray, List.set_cons_zero, List.set_cons_succ]
      refine wpL_load (i := 5) (v := ?_) rfl (by kernel_rfl) (fun _ _ _ h => h) (by kernel_rfl) (by kernel_rfl) _ _ _ _ (by kernel_rfl) (by kernel_rfl) (Or.inl ⟨by rfl, ?_⟩) (by kernel_rfl) HT.out ?_
      rotate_left
      · intro w' hS
        try dsimp only at hS
        obtain ⟨x4, x5, x6, x7, x8⟩ := hS
        go_simp
        try with_reducible rfl
      try simp only [Act.put, List.setIfInBounds_toArray, List.set_cons_zero, List.set_cons_succ]
      refine wpL_word (i := 6) (v := ?_) rfl (by kernel_rfl) (fun _ _ _ h => h) (by kernel_rfl) _ _ _ _ (by kernel_rfl) (by kernel_rfl) (Or.inl ⟨by rfl, ?_⟩) (fun _ => HT.out) ?_
      rotate_left
      · intro w' _
        go_simp
        try with_reducible rfl
      try simp only [Act.put, List.setIfInBounds_toArray, List.set_cons_zero, List.set_cons_succ]
      refine wpL_load (i := 7) (v := ?_) rfl (by kernel_rfl) (fun _ _ _ h => h) (by kernel_rfl) (by kernel_rfl) _ _ _ _ (by kernel_rfl) (by kernel_rfl) (Or.inl ⟨by rfl, ?_⟩) (by kernel_rfl) HT.out ?_
      rotate_left
      · intro w' hS
        try dsimp only at hS
        obtain ⟨x4, x5, x6, x7, x8⟩ := hS
        go_simp
        try with_reducible rfl
      try simp only [Act.put, List.setIfInBounds_toArray, List.set_cons_zero, List.set_cons_succ]
      refine wpL_word (i := 8) (v := ?_) rfl (by kernel_rfl) (fun _ _ _ h => h) (by kernel_rfl) _ _ _ _ (by kernel_rfl) (by kernel_rfl) (Or.inl ⟨by rfl, ?_⟩) (fun _ => HT.out) ?_
      rotate_left
      · intro w' _
        go_simp
        try with_reducible rfl
      try simp only [Act.put, List.setIfInBounds_toArray, List.set_cons_zero, List.set_cons_succ]
      refine wpL_load (i := 9) (v := ?_) rfl (by kernel_rfl) (fun _ _ _ h => h) (by kernel_rfl) (by kernel_rfl) _ _ _ _ (by kernel_rfl) (by kernel_rfl) (Or.inl ⟨by rfl, ?_⟩) (by kernel_rfl) HT.out ?_
      rotate_left
      · intro w' hS
        try dsimp only at hS
        obtain ⟨x4, x5, x6, x7, x8⟩ := hS
        go_simp
        try with_reducible rfl
      try simp only [Act.put, List.setIfInBounds_toArray, List.set_cons_zero, List.set_cons_succ]
      refine wpL_word (i := 10) (v := ?_) rfl (by kernel_rfl) (fun _ _ _ h => h) (by kernel_rfl) _ _ _ _ (by kernel_rfl) (by kernel_rfl) (Or.inl ⟨by rfl, ?_⟩) (fun _ => HT.out) ?_
      rotate_left
      · intro w' _
        go_simp
        try with_reducible rfl
      try simp only [Act.put, List.setIfInBounds_toArray, List.set_cons_zero, List.set_cons_succ]
      refine wpL_word (i := 11) (v := ?_) rfl (by kernel_rfl) (fun _ _ _ h => h) (by kernel_rfl) _ _ _ _ (by kernel_rfl) (by kernel_rfl) (Or.inl ⟨by rfl, ?_⟩) (fun _ => HT.out) ?_
      rotate_left
      · intro w' _
        go_simp
        try with_reducible rfl
      try simp only [Act.put, List.setIfInBounds_toArray, List.set_cons_zero, List.set_cons_succ]
      refine wpL_next (n := 12) (by kernel_rfl) rfl (fun K hK => ?_)
      go_simp
      refine hK.out _ _ (VA.out _) ?_
      clear hK K
      try simp only [Act.put, List.setIfInBounds_toArray, List.set_cons_zero, List.set_cons_succ]
      refine wpL_next (n := 13) (by kernel_rfl) rfl (fun K hK => ?_)
      refine step_app1G (own_drew hw1) rfl _ _ _ rfl i0 (.agg #[.int .i64 0, .int .i64 0, .int .i64 0, .float .f64 0]) 32 Try.underlying27 hi hz0 hz1 hz2 rfl (by decide) rfl rfl rfl [.int .i64 xp, .int .i64 xq, .int .i64 xw, .float .f64 xb] rfl rfl (by simp [Value.oneCell']) (by unfold maxLen; omega) (by omega) hgO ?_
      intro A1 c1 w2 hown1 hgr1
      have hO2 := Lib.hid (Blk_grown (Blk.alloc (w := w1.drew) hO1.out _) hgr1 (own_row_ne hw1.out (by omega)))
      have kS2 := Lib.hid (Blk_grown (Blk.alloc (w := w1.drew) kS.out _) hgr1 HGS.out)
      have z0 : w2.cell? ⟨gO, 6, none⟩ = some (.slice Ak j ck) := hO2.out.cell 6
      have z1 : w2.frozen? ⟨gO, 6, none⟩ = false := hO2.out.thaw 6
      have HT2 : Hid ((fun w' => w'.cell? ⟨gO, 6, none⟩ = some (.slice Ak j ck) ∧ w'.cell? ⟨gS, 0, none⟩ = some (.int .i64 xp) ∧ w'.cell? ⟨gS, 1, none⟩ = some (.int .i64 xq) ∧ w'.cell? ⟨gS, 2, none⟩ = some (.int .i64 xw) ∧ w'.cell? ⟨gS, 3, none⟩ = some (.int .u64 (xb : Int))) w2) := ⟨hO2.out.cell 6, kS2.out.cell 0, kS2.out.cell 1, kS2.out.cell 2, kS2.out.cell 3⟩
      refine hK.out _ _ HT2.out ?_
      clear hK K
      try simp only [Act.put, List.setIfInBounds_toArray, List.set_cons_zero, List.set_cons_succ]
      refine wpL_word (i := 14) (v := ?_) rfl (by kernel_rfl) (fun _ _ _ h => h) (by kernel_rfl) _ _ _ _ (by kernel_rfl) (by kernel_rfl) (Or.inl ⟨by rfl, ?_⟩) (fun _ => HT2.out) ?_
      rotate_left
      · intro w' _
        go_simp
        try with_reducible rfl
      try simp only [Act.put, List.setIfInBounds_toArray, List.set_cons_zero, List.set_cons_succ]
      refine wpL_late (n := 15) (by kernel_rfl) rfl (by kernel_rfl) (fun K hK => ?_)
      go_simp
      refine hK.out _ _ ?_
      clear hK K
      try simp only [Act.put, List.setIfInBounds_toArray, List.set_cons_zero, List.set_cons_succ]
      refine wpL_done (by kernel_rfl) ?_ _
      refine NoPanic.normal ?_
      all_goals
        have hown2 : Hid ((w2.setCell ⟨gO, 6, none⟩ (.slice A1 (j + 1) c1)).ownsRow (gO + 1) 71 4 (.slice A1 (j + 1) c1) (j + 1) (smbs (sy.take (j + 1)))) := by
          rw [hpre.out]
          exact ownsRow_setCell_below hown1.out (by simp) _
        have hO3 : Hid (Blk (w2.setCell ⟨gO, 6, none⟩ (.slice A1 (j + 1) c1)) gO 29 #[.int .i64 sh, .int .i64 wi, .int .i64 ra, .int .i64 ta, .slice A n c, .slice B m d, .slice A1 (j + 1) c1]) := blk_set hO2.out 6 _
        have hbl2 : Below gO W0 (w2.setCell ⟨gO, 6, none⟩ (.slice A1 (j + 1) c1)) := by
          refine (((hb1.drew).alloc (by simp; omega) _).grown hgr1 (by simp; omega) ?_).setCell (Nat.le_refl _) _
          intro q hq
          have := World.ownsRow.lt hw1.out q hq
          omega
        clear hO2 kS2 hown1 hgr1 z0 z1 HT HT2 VA
        go_wp2_with fail
        go_roundg g
        case measure => omega
        case rel => exact ⟨j + 1, A1, c1, by omega, by go_num, hO3, hown2, hbl2⟩
    · have hjk : Hid (j = k) := by show _ = _; omega
      have hq2 := Lib.hid (Blk.below k2.out hbl (by omega))
      have e0 := hO.out.cell 0
      have e1 := hO.out.cell 1
      have e2 := hO.out.cell 2
      have e3 := hO.out.cell 3
      have e4 := hO.out.cell 4
      have e5 := hO.out.cell 5
      have r0 := hq2.out.cell 0
      have r1 := hq2.out.cell 1
      have r2 := hq2.out.cell 2
      have r3 := hq2.out.cell 3
      have r4 := hq2.out.cell 4
      have r5 := hq2.out.cell 5
      have r6 := hq2.out.cell 6
      have y0 := hq2.out.thaw 0
      have y1 := hq2.out.thaw 1
      have y2 := hq2.out.thaw 2
      have y3 := hq2.out.thaw 3
      have y4 := hq2.out.thaw 4
      have y5 := hq2.out.thaw 5
      have y6 := hq2.out.thaw 6
      simp only [List.getElem?_toArray, List.getElem?_cons_zero, List.getElem?_cons_succ] at e0 e1 e2 e3 e4 e5 r0 r1 r2 r3 r4 r5 r6
      obtain ⟨c0, c1, c2, c3, c4, c5, c6⟩ := st7_cells (a := .int .i64 sh) (b := .int .i64 wi) (c := .int .i64 ra) (d := .int .i64 ta) (e := .slice A n c) (f := .slice B m d) (h := .slice Ak j ck) hq2.out
      have bF : Below w.heap.size w (st7 wr gR (.int .i64 sh) (.int .i64 wi) (.int .i64 ra) (.int .i64 ta) (.slice A n c) (.slice B m d) (.slice Ak j ck)) := st7_below (b0.trans (hbl.mono (by omega))) (by omega)
      have NF := Lib.hid (Rd.below' hl.out bF bF.size)
      have UF := Lib.hid (Rd.below' hu.out bF bF.size)
      have SF : Hid (Smb (st7 wr gR (.int .i64 sh) (.int .i64 wi) (.int .i64 ra) (.int .i64 ta) (.slice A n c) (.slice B m d) (.slice Ak j ck)) (st7 wr gR (.int .i64 sh) (.int .i64 wi) (.int .i64 ra) (.int .i64 ta) (.slice A n c) (.slice B m d) (.slice Ak j ck)).heap.size Ak sy) := by
        have h := Rd.of_own (st7_own (a := .int .i64 sh) (b := .int .i64 wi) (c := .int .i64 ra) (d := .int .i64 ta) (e' := .slice A n c) (f := .slice B m d) (h := .slice Ak j ck) hown.out (g := gR) (by omega))
        have e : sy.take j = sy := by rw [hjk.out, hk.out, List.take_length]
        rw [e] at h
        exact h
      have hend := Lib.hid (madeCf_mk (sh := sh) (wi := wi) (ra := ra) (ta := ta) (c := c) (d := d) (f := ck) hn.out hm.out (hjk.out.trans hk.out) NF.out UF.out SF.out bF)
      clear bF hown hO hbl b0
      go_wp2_with fail
      unfold st7 at c0 c1 c2 c3 c4 c5 c6 hend
      exact bodyPost_ret (v := .agg #[.int .i64 sh, .int .i64 wi, .int .i64 ra, .int .i64 ta, .slice A n c, .slice B m d, .slice Ak j ck]) (by simp [results, Try.results4, go_sem, c0, c1, c2, c3, c4, c5, c6]) rfl hend.out
end Go.Proofs.Ytkmkaidhpbjbnaa.Rul5

/- Opening arguments: a struct of seven cells by value, a slice of four numbers each; a Config by bits, an order. Over any program. No condition. -/
namespace Go.Proofs.Ytkmkaidhpbjbnaa.Opc
set_option maxRecDepth 100000
open Go.ChangeShapes Go.WideShapes Go.RowKit Mem Opn Cfg Go.Joins Go.Deep
section
variable {H : Type} {enc : TypeId × Value → H} {P : Program} {w : World} {base : Nat} {spare : Nat → Bool} {held : Bool}
end
section
variable {H : Type} {enc : TypeId × Value → H} {P : Program} {w : World}
theorem u64_bd {a : Int} (h : (Lit.int .u64 a).wf = true) : 0 ≤ a ∧ a < 18446744073709551616 := by
  simp [Lit.wf] at h
  have e : IntKind.u64.max = 18446744073709551615 := rfl
  have e0 : IntKind.u64.min = 0 := rfl
  have h2 : a ≤ IntKind.u64.max := by first | exact h.2 | exact h
  have h1 : IntKind.u64.min ≤ a := by first | exact h.1 | exact h
  omega
theorem open_fours {t e : TypeId} {f0 f1 f2 f3 : Field} {v : Value} {fuel : Nat} {x : DataW H × List MemPlace} {base : Nat} {held : Bool}
    (ht : P.underlying t = some (.slice e)) (he : P.underlying e = some (.struct #[f0, f1, f2, f3])) (ce : P.cellsOf e = 4) (o0 : f0.offset = 0) (o1 : f1.offset = 1) (o2 : f2.offset = 2) (o3 : f3.offset = 3)
    (c0 : P.cellsOf f0.type = 1) (c1 : P.cellsOf f1.type = 1) (c2 : P.cellsOf f2.type = 1) (c3 : P.cellsOf f3.type = 1) (u0 : P.underlying f0.type = some (.int .i64)) (u1 : P.underlying f1.type = some (.int .i64)) (u2 : P.underlying f2.type = some (.int .i64)) (u3 : P.underlying f3.type = some (.int .u64))
    (hf : DataW.trod enc P w base (fun _ => true) held fuel t [v] = some x) :
    ∃ A c l, v = .slice A l.length c ∧ l.length ≤ c ∧ c ≤ maxLen ∧ Btb w w.heap.size A l ∧ WfS l := by
  rcases Go.Deep.open_slice ht hf with ⟨hc, _⟩ | ⟨a, len, cap, m, n, D, Pl, hc, hb, hl, hm, hmm, _, hx⟩
  · injection hc with hc
    exact ⟨none, 0, [], hc, by simp, by unfold maxLen; omega, .inl rfl, fun i hi => by simp at hi⟩
  · injection hc with hc
    subst hc
    have hm2 : m = cap := by rw [hmm]; simp
    subst hm2
    have key : ∀ i, i < m → ∃ q : Int × Int × Int × Nat, w.cell? (a.add (i * 4)) = some (.int .i64 q.1) ∧ w.cell? (a.add (i * 4 + 1)) = some (.int .i64 q.2.1) ∧ w.cell? (a.add (i * 4 + 2)) = some (.int .i64 q.2.2.1) ∧ w.cell? (a.add (i * 4 + 3)) = some (.int .u64 (q.2.2.2 : Int)) ∧ inI q.1 ∧ inI q.2.1 ∧ inI q.2.2.1 ∧ q.2.2.2 < 18446744073709551616 := by
      intro i hi
      obtain ⟨cs', h1, h2⟩ := hx i hi
      rw [ce] at h1
      obtain ⟨_, hlen, hcell⟩ := World.cells?_some h1
      obtain ⟨xs, k, hk, hxy, _, hxl, hfs⟩ := DataW.trod_struct he h2
      match xs, hxl, cs', hlen with
      | [y0, y1, y2, y3], _, [v0, v1, v2, v3], _ =>
        have g0 := hfs 0 f0 rfl
        have g1 := hfs 1 f1 rfl
        have g2 := hfs 2 f2 rfl
        have g3 := hfs 3 f3 rfl
        simp [o0, o1, o2, o3, c0, c1, c2, c3] at g0 g1 g2 g3
        have e0 := hcell 0 (by omega)
        have e1 := hcell 1 (by omega)
        have e2 := hcell 2 (by omega)
        have e3 := hcell 3 (by omega)
        rw [Go.Deep.add_add] at e0 e1 e2 e3
        obtain ⟨x, hx, _, wx⟩ := DataW.trod_int u0 g0
        obtain ⟨y, hy, _, wy⟩ := DataW.trod_int u1 g1
        obtain ⟨z, hz, _, wz⟩ := DataW.trod_int u2 g2
        obtain ⟨u, hu, _, wu⟩ := DataW.trod_int u3 g3
        simp at hx hy hz hu
        subst hx hy hz hu
        obtain ⟨z0, z1⟩ := u64_bd wu
        have eu : ((u.toNat : Nat) : Int) = u := by omega
        exact ⟨(x, y, z, u.toNat), by simpa using e0, by simpa using e1, by simpa using e2, by rw [eu]; simpa using e3, wf_in wx, wf_in wy, wf_in wz, by show u.toNat < _; omega⟩
    obtain ⟨fx, hfx⟩ := Go.Deep.choose_lt key
    have hlen : ((List.range len).map fx).length = len := by simp
    have tk : ∀ i, i < len → sP ((List.range len).map fx) i = (fx i).1 ∧ sQ ((List.range len).map fx) i = (fx i).2.1 ∧ sW ((List.range len).map fx) i = (fx i).2.2.1 ∧ sB ((List.range len).map fx) i = (fx i).2.2.2 := fun i hi => by simp [sP, sQ, sW, sB, hi]
    refine ⟨some a, m, (List.range len).map fx, by rw [hlen], by rw [hlen]; exact hl, hm, ?_, ?_⟩
    · by_cases h0 : len = 0
      · subst h0; exact .inl (by simp [btbs])
      · obtain ⟨ab, ao, asp⟩ := a
        have hs : asp = none := by
          have := (hfx 0 (by omega)).1
          rw [Nat.zero_mul] at this
          exact spot_none this
        subst hs
        refine .inr ⟨ab, ao, rfl, ?_, ?_⟩
        · have := blk_lt (hfx 0 (by omega)).1
          simpa [Addr.add] using this
        · intro i v hv
          have hil : i < len * 4 := by
            have := (List.getElem?_eq_some_iff.1 hv).1
            rwa [btbs_len, hlen] at this
          have hg := btbs_get ((List.range len).map fx) (i / 4) (by rw [hlen]; omega)
          obtain ⟨q0, q1, q2, q3, _⟩ := hfx (i / 4) (by omega)
          obtain ⟨r0, r1, r2, r3⟩ := tk (i / 4) (by omega)
          rw [r0, r1, r2, r3] at hg
          rw [add_lit'] at q0 q1 q2 q3
          rcases (by omega : i % 4 = 0 ∨ i % 4 = 1 ∨ i % 4 = 2 ∨ i % 4 = 3) with k | k | k | k
          · have e : i / 4 * 4 = i := by omega
            rw [e] at hg q0
            rw [hg.1] at hv
            injection hv with hv
            rw [q0, hv]
          · have e : i / 4 * 4 + 1 = i := by omega
            rw [e] at hg q1
            rw [hg.2.1] at hv
            injection hv with hv
            rw [q1, hv]
          · have e : i / 4 * 4 + 2 = i := by omega
            rw [e] at hg q2
            rw [hg.2.2.1] at hv
            injection hv with hv
            rw [q2, hv]
          · have e : i / 4 * 4 + 3 = i := by omega
            rw [e] at hg q3
            rw [hg.2.2.2] at hv
            injection hv with hv
            rw [q3, hv]
    · intro i hil
      rw [hlen] at hil
      obtain ⟨_, _, _, _, s0, s1, s2, s3⟩ := hfx i (by omega)
      obtain ⟨r0, r1, r2, r3⟩ := tk i hil
      rw [r0, r1, r2, r3]
      exact ⟨s0, s1, s2, s3⟩
theorem one_int {t : TypeId} {v : Value} {n : Nat} {y : DataW H × List MemPlace} {base : Nat} {spare : Nat → Bool} {held : Bool} (hu : P.underlying t = some (.int .i64)) (h : DataW.trod enc P w base spare held n t [v] = some y) : ∃ x : Int, v = .int .i64 x ∧ inI x := by
  obtain ⟨x, hx, _, wx⟩ := DataW.trod_int hu h
  simp at hx
  exact ⟨x, hx, wf_in wx⟩
end
end Go.Proofs.Ytkmkaidhpbjbnaa.Opc

/- Opening a Config by bits, with how long its list of symbols can be. Condition: what it reads is no more than what one piece of memory takes. -/
namespace Go.Proofs.Ytkmkaidhpbjbnaa.Ocs
set_option maxRecDepth 100000
open Go.ChangeShapes Go.WideShapes Go.RowKit Mem Opn Cfg Opc Go.Joins Go.Deep
set_option linter.unusedVariables false
section
variable {H : Type} {enc : TypeId × Value → H} {P : Program} {w : World} {base : Nat} {spare : Nat → Bool} {held : Bool}
theorem open_agg7d {r : Reach} {b0 : Nat} {t : TypeId} {f0 f1 f2 f3 f4 f5 f6 : Field} {v : Value} {d : DataW H} {p : List MemPlace} (hs : P.underlying t = some (.struct #[f0, f1, f2, f3, f4, f5, f6])) (hone : oneCellFields P #[f0, f1, f2, f3, f4, f5, f6] = true) (hC : P.cellsOf t = 7)
    (hv : Value.okWide P w r b0 t v) (h : DataW.Trod enc P w base spare held t v d p) :
    ∃ (v0 v1 v2 v3 v4 v5 v6 : Value) (y0 y1 y2 y3 y4 y5 y6 : DataW H × List MemPlace) (n : Nat), v = .agg #[v0, v1, v2, v3, v4, v5, v6] ∧ d = .agg [y0.1, y1.1, y2.1, y3.1, y4.1, y5.1, y6.1] ∧
      DataW.trod enc P w base spare held n f0.type [v0] = some y0 ∧ DataW.trod enc P w base spare held n f1.type [v1] = some y1 ∧ DataW.trod enc P w base spare held n f2.type [v2] = some y2 ∧ DataW.trod enc P w base spare held n f3.type [v3] = some y3 ∧ DataW.trod enc P w base spare held n f4.type [v4] = some y4 ∧ DataW.trod enc P w base spare held n f5.type [v5] = some y5 ∧ DataW.trod enc P w base spare held n f6.type [v6] = some y6 := by
  obtain ⟨cs, rfl, hsz⟩ := okWide_struct hs hv
  obtain ⟨l⟩ := cs
  match l, hsz.trans hC with
  | [c0, c1, c2, c3, c4, c5, c6], _ =>
    obtain ⟨fuel, hf⟩ := h
    obtain ⟨xs, n, _, hx, _, hlen, hg⟩ := DataW.trod_struct hs hf
    obtain ⟨o0, k0⟩ := hone_of hone 0 f0 rfl
    obtain ⟨o1, k1⟩ := hone_of hone 1 f1 rfl
    obtain ⟨o2, k2⟩ := hone_of hone 2 f2 rfl
    obtain ⟨o3, k3⟩ := hone_of hone 3 f3 rfl
    obtain ⟨o4, k4⟩ := hone_of hone 4 f4 rfl
    obtain ⟨o5, k5⟩ := hone_of hone 5 f5 rfl
    obtain ⟨o6, k6⟩ := hone_of hone 6 f6 rfl
    match xs, hlen with
    | [y0, y1, y2, y3, y4, y5, y6], _ =>
      injection hx with hx1 hx2
      exact ⟨c0, c1, c2, c3, c4, c5, c6, y0, y1, y2, y3, y4, y5, y6, n, rfl, hx1, by simpa [Value.cells, o0, k0] using hg 0 f0 rfl, by simpa [Value.cells, o1, k1] using hg 1 f1 rfl, by simpa [Value.cells, o2, k2] using hg 2 f2 rfl, by simpa [Value.cells, o3, k3] using hg 3 f3 rfl, by simpa [Value.cells, o4, k4] using hg 4 f4 rfl, by simpa [Value.cells, o5, k5] using hg 5 f5 rfl, by simpa [Value.cells, o6, k6] using hg 6 f6 rfl⟩
theorem slice_weight {t e : TypeId} {fuel : Nat} {A : Option Addr} {n c : Nat} {x : DataW H × List MemPlace} (ht : P.underlying t = some (.slice e)) (h : DataW.trod enc P w base (fun _ => true) held fuel t [.slice A n c] = some x) (hz : ∀ k ∈ x.1.weights P t, k ≤ reachBytes) : n * P.bytesOf e ≤ reachBytes := by
  rcases Go.Deep.open_slice ht h with ⟨hc, _⟩ | ⟨a, len, cap, m, k, D, Pl, hc, hb, hl, hm, hmm, hx, _⟩
  · injection hc with hc
    simp only [Value.slice.injEq] at hc
    rw [hc.2.1]
    simp
  · injection hc with hc
    simp only [Value.slice.injEq] at hc
    rw [hx] at hz
    have h2 := hz ((((List.range len).map D).length + ((List.range (m - len)).map fun j => D (len + j)).length) * P.bytesOf e) (by simp [DataW.weights, ht])
    rw [hc.2.1]
    refine Nat.le_trans (Nat.mul_le_mul_right _ ?_) h2
    simp
end
theorem open_conf_s {H : Type} {enc : TypeId × Value → H} {w : World} {r : Reach} {b0 base : Nat} {held : Bool} {v : Value} {d : DataW H} {p : List MemPlace}
    (hv : Value.okWide Try.prog w r b0 26 v) (h : DataW.Trod enc Try.prog w base (fun _ => true) held 26 v d p) (hz : ∀ k ∈ d.weights Try.prog 26, k ≤ reachBytes) :
    ∃ (sh wi ra ta : Int) (A B C : Option Addr) (c d f : Nat) (nd : List (Int × Int)) (ac : List Int) (sy : List (Int × Int × Int × Nat)), v = .agg #[.int .i64 sh, .int .i64 wi, .int .i64 ra, .int .i64 ta, .slice A nd.length c, .slice B ac.length d, .slice C sy.length f] ∧
      inI sh ∧ inI wi ∧ inI ra ∧ inI ta ∧ (nd.length : Int) ≤ 4611686018427387904 ∧ (ac.length : Int) ≤ 4611686018427387904 ∧ (sy.length : Int) ≤ 4398046511104 ∧ Nds w w.heap.size A nd ∧ WfN nd ∧ Ris w w.heap.size B ac ∧ WfI ac ∧ Btb w w.heap.size C sy ∧ WfS sy := by
  obtain ⟨v0, v1, v2, v3, v4, v5, v6, y0, y1, y2, y3, y4, y5, y6, n, rfl, rfl, g0, g1, g2, g3, g4, g5, g6⟩ := open_agg7d Try.underlying26 (by kernel_rfl) (by kernel_rfl) hv h
  have hw : ∀ (j : Nat) (t' : TypeId) (y : DataW H), [3, 3, 3, 3, 22, 23, 24][j]? = some t' → [y0.1, y1.1, y2.1, y3.1, y4.1, y5.1, y6.1][j]? = some y → ∀ k ∈ y.weights Try.prog t', k ≤ reachBytes := by
    intro j t' y h1 h2 k hk
    refine hz k ?_
    simp only [DataW.weights, Try.underlying26]
    exact DataW.weights_mem_each (j := j) h1 h2 k hk
  obtain ⟨sh, rfl, i0⟩ := one_int Try.underlying3 g0
  obtain ⟨wi, rfl, i1⟩ := one_int Try.underlying3 g1
  obtain ⟨ra, rfl, i2⟩ := one_int Try.underlying3 g2
  obtain ⟨ta, rfl, i3⟩ := one_int Try.underlying3 g3
  obtain ⟨A, c, nd, rfl, h1, h2, hn, hwn⟩ := open_nodesc Try.underlying22 Try.underlying109 (by kernel_rfl) rfl rfl (by kernel_rfl) (by kernel_rfl) Try.underlying3 Try.underlying2 g4
  obtain ⟨B, d, ac, rfl, h3, h4, ha, hwa⟩ := open_i64c Try.underlying23 Try.underlying3 (by kernel_rfl) g5
  obtain ⟨C, f, sy, rfl, h5, h6, hs, hws⟩ := open_fours Try.underlying24 Try.underlying67 (by kernel_rfl) rfl rfl rfl rfl (by kernel_rfl) (by kernel_rfl) (by kernel_rfl) (by kernel_rfl) Try.underlying2 Try.underlying2 Try.underlying2 Try.underlying65 g6
  have w4 := slice_weight Try.underlying22 g4 (hw 4 _ _ rfl rfl)
  have w5 := slice_weight Try.underlying23 g5 (hw 5 _ _ rfl rfl)
  have w6 := slice_weight Try.underlying24 g6 (hw 6 _ _ rfl rfl)
  rw [show Try.prog.bytesOf 109 = 16 from by kernel_rfl] at w4
  rw [show Try.prog.bytesOf 3 = 8 from by kernel_rfl] at w5
  rw [show Try.prog.bytesOf 67 = 32 from by kernel_rfl] at w6
  unfold reachBytes at w4 w5 w6
  exact ⟨sh, wi, ra, ta, A, B, C, c, d, f, nd, ac, sy, rfl, i0, i1, i2, i3, by omega, by omega, by omega, hn, hwn, ha, hwa, hs, hws⟩
end Go.Proofs.Ytkmkaidhpbjbnaa.Ocs

/- For every Config the law ModelBegins returns true, and changes nothing: it is told whether there may be a Model; of one that isn't there nothing is told. No condition. -/
namespace Go.Proofs.Ytkmkaidhpbjbnaa.modelBegins
set_option maxRecDepth 100000
open Go.ChangeShapes Go.WideShapes Go.ChangeAt Go.RowKit Mem Tre Ref3 Law3 Fix3 Opn Bnd Flo Cfg CrdB CrdC Rr4 Cfr Rul2 Rul5 St7 Rul6 Fcf Fown Rul7 Tl5 Gdc Ocs Bkp Bks Bkf Bcl Dlk Stk Apt Bko Bku Bka Bkc Bkq Bkj Wpl Mdp Mdz Mds Mdn Mdd Mdq Mde Mdx Mdv Mdt Go.Joins Go.Deep
open Mdg hiding Mm_new q7_of
open Mdo hiding gB
set_option linter.unusedVariables false
set_option linter.unusedSimpArgs false

theorem own : ownKnob Try.prog.godebug = none := by kernel_rfl
theorem laidOut : laidOutB Try.prog = true := by kernel_rfl

set_option maxHeartbeats 8000000 in
theorem inner (sh wi ra ta : Int) (A B C : Option Addr) (N M K c d f : Nat) (nd : List (Int × Int)) (ac : List Int) (sy : List (Int × Int × Int × Nat)) (w : World)
    (hN : Hid (N = nd.length)) (hM : Hid (M = ac.length)) (hK : Hid (K = sy.length)) (k1 : (nd.length : Int) ≤ 4611686018427387904) (k2 : (ac.length : Int) ≤ 4611686018427387904) (k3 : (sy.length : Int) ≤ 4398046511104)
    (hl : Hid (Nds w w.heap.size A nd)) (hu : Hid (Ris w w.heap.size B ac)) (hs : Hid (Btb w w.heap.size C sy)) (hw : Hid (WfN nd)) :
    Calls Try.prog 3 #[.agg #[.int .i64 sh, .int .i64 wi, .int .i64 ra, .int .i64 ta, .slice A N c, .slice B M d, .slice C K f]] w (MadeB true w) := by
  have K3 : (K : Int) ≤ 4398046511104 := by rw [hK.out]; exact k3
  have K1 : (N : Int) ≤ 4611686018427387904 := by rw [hN.out]; exact k1
  have K2 : (M : Int) ≤ 4611686018427387904 := by rw [hM.out]; exact k2
  clear k1 k2 k3
  have b0 : Below w.heap.size w (w.alloc (.cells #[.int .i64 sh, .int .i64 wi, .int .i64 ra, .int .i64 ta, .slice A N c, .slice B M d, .slice C K f] 26)) := (Below.refl _ _).alloc (Nat.le_refl _) _
  have RX := ref_any sh wi ra ta A B C c d f N M K nd ac sy (w.alloc (.cells #[.int .i64 sh, .int .i64 wi, .int .i64 ra, .int .i64 ta, .slice A N c, .slice B M d, .slice C K f] 26)) hN hM hK (Lib.hid (Rd.below' hl.out b0 b0.size)) (Lib.hid (Rd.below' hu.out b0 b0.size)) (Lib.hid (Rd.below' hs.out b0 b0.size)) K3
  unfold MadeCf at RX
  rw [← hN.out, ← hM.out, ← hK.out] at RX
  have B0 := Lib.hid b0
  clear b0
  go_enter Try.func3, Try.ntmps3
  go_wp2_with fail
  refine RX.mono ?_
  rintro e w2 ⟨A2, B2, C2, c2, d2, f2, rfl, n2, u2, s2, hb2⟩
  have b2 := CrdB.below_step B0.out hb2
  have U3 : Below w2.heap.size w2 (w2.alloc (.cells #[.int .i64 sh, .int .i64 wi, .int .i64 ra, .int .i64 ta, .slice A2 N c2, .slice B2 M d2, .slice C2 K f2] 29)) := (Below.refl _ _).alloc (Nat.le_refl _) _
  have V3 : Hid (Blk (w2.alloc (.cells #[.int .i64 sh, .int .i64 wi, .int .i64 ra, .int .i64 ta, .slice A2 N c2, .slice B2 M d2, .slice C2 K f2] 29)) w2.heap.size 29 #[.int .i64 sh, .int .i64 wi, .int .i64 ra, .int .i64 ta, .slice A2 N c2, .slice B2 M d2, .slice C2 K f2]) := Blk.fresh _ _ _
  have B3 : Hid (Below w.heap.size w (w2.alloc (.cells #[.int .i64 sh, .int .i64 wi, .int .i64 ra, .int .i64 ta, .slice A2 N c2, .slice B2 M d2, .slice C2 K f2] 29))) := CrdB.below_step b2 U3
  have N3 : Hid (Nds (w2.alloc (.cells #[.int .i64 sh, .int .i64 wi, .int .i64 ra, .int .i64 ta, .slice A2 N c2, .slice B2 M d2, .slice C2 K f2] 29)) (w2.alloc (.cells #[.int .i64 sh, .int .i64 wi, .int .i64 ra, .int .i64 ta, .slice A2 N c2, .slice B2 M d2, .slice C2 K f2] 29)).heap.size A2 nd) := Rd.below' n2 U3 U3.size
  have R3 : Hid (Ris (w2.alloc (.cells #[.int .i64 sh, .int .i64 wi, .int .i64 ra, .int .i64 ta, .slice A2 N c2, .slice B2 M d2, .slice C2 K f2] 29)) (w2.alloc (.cells #[.int .i64 sh, .int .i64 wi, .int .i64 ra, .int .i64 ta, .slice A2 N c2, .slice B2 M d2, .slice C2 K f2] 29)).heap.size B2 ac) := Rd.below' u2 U3 U3.size
  have S3 : Hid (Smb (w2.alloc (.cells #[.int .i64 sh, .int .i64 wi, .int .i64 ra, .int .i64 ta, .slice A2 N c2, .slice B2 M d2, .slice C2 K f2] 29)) (w2.alloc (.cells #[.int .i64 sh, .int .i64 wi, .int .i64 ra, .int .i64 ta, .slice A2 N c2, .slice B2 M d2, .slice C2 K f2] 29)).heap.size C2 sy) := Rd.below' s2 U3 U3.size
  clear RX B0 hb2 b2 U3 n2 u2 s2
  go_upto_region 2 with fail
  generalize w2.alloc (.cells #[.int .i64 sh, .int .i64 wi, .int .i64 ra, .int .i64 ta, .slice A2 N c2, .slice B2 M d2, .slice C2 K f2] 29) = w3 at V3 B3 N3 R3 S3 ⊢
  generalize w2.heap.size = gC at V3 ⊢
  obtain ⟨e0, e1, e2, e3, e4, e5, e6⟩ := c7_of V3.out
  by_cases h1 : N ≤ 40
  case neg =>
    have t1 : decide ((40 : Int) < (N : Int)) = true := by simp; omega
    go_wp2_with fail
    refine (told9_any _).mono ?_
    rintro e w4 ⟨rfl, hb4⟩
    go_wp2_with fail
    go_ret
    exact madeB_mk rfl (CrdB.below_step B3.out hb4)
  have t1 : decide ((40 : Int) < (N : Int)) = false := by simp only [decide_eq_false_iff_not]; omega
  by_cases h2 : M ≤ 40
  case neg =>
    have t2 : decide ((40 : Int) < (M : Int)) = true := by simp; omega
    go_wp2_with fail
    refine (told9_any _).mono ?_
    rintro e w4 ⟨rfl, hb4⟩
    go_wp2_with fail
    go_ret
    exact madeB_mk rfl (CrdB.below_step B3.out hb4)
  have t2 : decide ((40 : Int) < (M : Int)) = false := by simp only [decide_eq_false_iff_not]; omega
  by_cases h3 : K ≤ 20
  case neg =>
    have t3 : decide ((20 : Int) < (K : Int)) = true := by simp; omega
    go_wp2_with fail
    refine (told9_any _).mono ?_
    rintro e w4 ⟨rfl, hb4⟩
    go_wp2_with fail
    go_ret
    exact madeB_mk rfl (CrdB.below_step B3.out hb4)
  have t3 : decide ((20 : Int) < (K : Int)) = false := by simp only [decide_eq_false_iff_not]; omega
  have TX := to5_any sh wi ra ta A2 B2 C2 c2 d2 f2 nd ac sy w3 N3 R3 S3 hw (by rw [← hN.out]; omega) (by rw [← hM.out]; omega) (by rw [← hK.out]; omega)
  unfold MadeCf at TX
  rw [← hN.out, ← hM.out, ← hK.out] at TX
  go_wp2_with fail
  refine TX.mono ?_
  rintro e w4 ⟨A4, B4, C4, c4, d4, f4, rfl, n4, u4, s4, hb4⟩
  have V4 := Lib.hid (Blk.below' V3.out hb4)
  have N4 : Hid (Nds w4 w4.heap.size A2 nd) := Rd.below' N3.out hb4 hb4.size
  have R4 : Hid (Ris w4 w4.heap.size B2 ac) := Rd.below' R3.out hb4 hb4.size
  have S4 : Hid (Smb w4 w4.heap.size C2 sy) := Rd.below' S3.out hb4 hb4.size
  have Q4 := Lib.hid (CrdB.below_step B3.out hb4)
  have NN := Lib.hid n4
  have UU := Lib.hid u4
  have SS := Lib.hid s4
  clear e0 e1 e2 e3 e4 e5 e6 TX n4 u4 s4 hb4 V3 N3 R3 S3 B3 t1 t2 t3
  go_wp2_with fail
  refine (mbegin_any sh wi ra ta A4 B4 C4 N M K c4 d4 f4 nd ac sy _ hN hM hK NN UU SS hw (by omega) (by omega) (by omega)).mono ?_
  rintro e w5 ⟨hb5, hno, hmk⟩
  obtain ⟨cc, hcc⟩ : ∃ k, k = cfgF sh wi ra ta nd ac sy := ⟨_, rfl⟩
  rw [← hcc] at hno hmk
  have hpt : ∃ pt, e = .returned (.tuple #[.pointer pt, .int .i64 cc]) ∧ (cc = 0 → ∃ g, pt = some ⟨g, 0, none⟩) ∧ (cc ≠ 0 → pt = none) := by
    by_cases h0 : cc = 0
    · obtain ⟨g, q, he, _, _⟩ := hmk h0
      exact ⟨some ⟨g, 0, none⟩, by rw [he, h0], fun _ => ⟨g, rfl⟩, fun h => absurd h0 h⟩
    · exact ⟨none, hno h0, fun h => absurd h h0, fun _ => rfl⟩
  clear hno hmk
  obtain ⟨pt, rfl, hp1, hp2⟩ := hpt
  have HCC := Lib.hid hcc
  clear hcc
  have V5 := Lib.hid (Blk.below' V4.out hb5)
  have N5 : Hid (Nds w5 w5.heap.size A2 nd) := Rd.below' N4.out hb5 hb5.size
  have R5 : Hid (Ris w5 w5.heap.size B2 ac) := Rd.below' R4.out hb5 hb5.size
  have S5 : Hid (Smb w5 w5.heap.size C2 sy) := Rd.below' S4.out hb5 hb5.size
  have Q5 := Lib.hid (CrdB.below_step Q4.out hb5)
  clear hb5 V4 N4 R4 S4 Q4 NN UU SS
  go_upto_region 5 with fail
  obtain ⟨e0, e1, e2, e3, e4, e5, e6⟩ := c7_of V5.out
  have KX := rcheck5_any sh wi ra ta A2 B2 C2 c2 d2 f2 nd ac sy w5 N5 R5 S5 hw (by rw [← hN.out]; omega) (by rw [← hM.out]; omega) (by rw [← hK.out]; omega)
  rw [← hN.out, ← hM.out, ← hK.out, ← HCC.out] at KX
  go_wp2_with fail
  refine KX.mono ?_
  rintro e w6 ⟨rfl, hb6⟩
  have Q6 := Lib.hid (CrdB.below_step Q5.out hb6)
  clear e0 e1 e2 e3 e4 e5 e6 KX hb6 V5 N5 R5 S5 Q5
  go_upto_region 7 with fail
  go_wp2_with fail
  refine (do_nil 0 0 0 0 0 0 0 0 0 0 0 0 0 false false _).mono ?_
  rintro e w7 ⟨rfl, hb7⟩
  have U8 : Below w7.heap.size w7 (w7.alloc (.cells #[.int .i64 1, .int .i64 0] 43)) := (Below.refl _ _).alloc (Nat.le_refl _) _
  have X8 : Hid (Blk (w7.alloc (.cells #[.int .i64 1, .int .i64 0] 43)) w7.heap.size 43 #[.int .i64 1, .int .i64 0]) := Blk.fresh _ _ _
  have Q8 : Hid (Below w.heap.size w (w7.alloc (.cells #[.int .i64 1, .int .i64 0] 43))) := CrdB.below_step (CrdB.below_step Q6.out hb7) U8
  clear hb7 U8 Q6
  go_upto_region 8 with fail
  generalize w7.alloc (.cells #[.int .i64 1, .int .i64 0] 43) = w8 at X8 Q8 ⊢
  generalize w7.heap.size = gA at X8 ⊢
  go_wp2_with fail
  refine (epoch_nil _).mono ?_
  rintro e w9 ⟨rfl, hw9⟩
  rw [hw9]
  clear hw9 w9
  go_upto_region 9 with fail
  go_wp2_with fail
  refine (told9_any _).mono ?_
  rintro e w10 ⟨rfl, hb10⟩
  have X10 := Lib.hid (Blk.below' X8.out hb10)
  have Q10 := Lib.hid (CrdB.below_step Q8.out hb10)
  clear hb10 X8 Q8
  obtain ⟨x0, x1, _, _⟩ := q2b X10.out
  have tc : (cc == cc) = true := by simp
  have hfd : ∀ (X Y : Option Addr) (n m c d : Nat) (W : World), (Instr.field 62 (.agg #[.slice X n c, .slice Y m d]) 1).run Try.prog W = .ok (.slice Y m d) W := fun _ _ _ _ _ _ _ => by kernel_rfl
  have hfb : ∀ (X Y : Option Addr) (a b : Int) (n m c d : Nat) (W : World), (Instr.field 58 (.agg #[.int .i64 a, .int .i64 b, .slice X n c, .slice Y m d]) 2).run Try.prog W = .ok (.slice X n c) W := fun _ _ _ _ _ _ _ _ _ => by kernel_rfl
  have bkn : ∀ A C c d, bkA A C c d bk0 = .agg #[.int .i64 0, .int .i64 0, .slice A 0 c, .slice C 0 d] := fun _ _ _ _ => rfl
  by_cases h0 : cc = 0
  · obtain ⟨g, rfl⟩ := hp1 h0
    have tz : (cc == 0) = true := by simp [h0]
    clear hp1 hp2
    go_wp2_with fail
    refine (book_nil 0 _).mono ?_
    rintro e w11 ⟨A11, C11, c11, d11, rl11, he, _, hb11⟩
    rw [bkn] at he
    subst he
    have Q11 := Lib.hid (CrdB.below_step Q10.out hb11)
    go_wp2_with fail
    refine (credit_nil _).mono ?_
    rintro e w12 ⟨A12, c12, A13, c13, rfl, _, _, hb12, _, _⟩
    have Q12 := Lib.hid (CrdB.below_step Q11.out hb12)
    simp only [List.length_nil]
    go_wp2_with fail
    go_ret
    exact madeB_mk rfl Q12.out
  · have hpn := hp2 h0
    subst hpn
    have tz : (cc == 0) = false := by simp [h0]
    clear hp1 hp2
    go_wp2_with fail
    refine (book_nil 0 _).mono ?_
    rintro e w11 ⟨A11, C11, c11, d11, rl11, he, _, hb11⟩
    rw [bkn] at he
    subst he
    have Q11 := Lib.hid (CrdB.below_step Q10.out hb11)
    go_wp2_with fail
    refine (credit_nil _).mono ?_
    rintro e w12 ⟨A12, c12, A13, c13, rfl, _, _, hb12, _, _⟩
    have Q12 := Lib.hid (CrdB.below_step Q11.out hb12)
    simp only [List.length_nil]
    go_wp2_with fail
    go_ret
    exact madeB_mk rfl Q12.out

set_option maxRecDepth 100000 in
theorem lifted (os : Os) (started : os.Started) (H : Type) (enc : TypeId × Value → H) :
    ReturnsInHanded {} Try.checked os 3 .any (Rows.modelBeginsSpec.pre6 enc Try.prog Try.f3 Rows.modelBeginsRow.domain false) (Rows.modelBeginsSpec.post enc Try.prog Try.f3 false true false false) := by
  refine returnsInHanded_of_change_sized (C := Try.checked) own started (by kernel_rfl) Try.func3
    (ChangeSpec.witness6 (enc := enc) (C := Try.checked) false ⟨#[], #[.agg #[.int .i64 0, .int .i64 0, .int .i64 0, .int .i64 0, .slice none 0 0, .slice none 0 0, .slice none 0 0]], []⟩ 8 (by kernel_rfl) (by kernel_rfl) (by kernel_rfl) (by kernel_rfl)) ?_
  intro W base args ds gs before hval0 hW hcnd hsz _
  have hval : ∀ (j : Nat) t v, Try.f3.params[j]? = some t → args[j]? = some v → Value.okWide Try.prog W .any base t v := hval0
  have hW' := hW
  obtain ⟨p, q, hA0, hV, rfl, hfz, hnd⟩ := hW
  have hA : DataW.TrodAll enc Try.prog W 0 (fun _ => true) true Try.f3.params.toList args.toList ds p := hA0
  rw [Try.params3] at hA hval
  obtain ⟨v0, d0, rfl, rfl, h0⟩ := trodAll_one hA
  have hz0 : ∀ k ∈ d0.weights Try.prog 26, k ≤ reachBytes := by
    intro k hk
    have := List.all_eq_true.1 hsz k (DataW.weights_mem_each (j := 0) rfl rfl k hk)
    simpa using this
  obtain ⟨sh, wi, ra, ta, A, B, C, c, d, f, nd, ac, sy, rfl, _, _, _, _, k1, k2, k3, hn, hw, ha, hwa, hs, hws⟩ := open_conf_s (hval 0 _ v0 rfl rfl) h0 hz0
  refine (inner sh wi ra ta A B C _ _ _ c d f nd ac sy W rfl rfl rfl k1 k2 k3 hn ha hs hw).mono fun e W' ⟨he, hb⟩ => ?_
  subst he
  exact ⟨_, rfl, law_post hW' rfl rfl rfl rfl (by kernel_rfl) Try.underlying4 (by rw [Try.params3]; simp only [List.mem_cons, List.not_mem_nil, or_false, forall_eq]; exact ⟨by kernel_rfl, of_decide_eq_true (by kernel_rfl)⟩) laidOut hb⟩

theorem over : Rows.modelBeginsRow.holds Try.pinned (OpenSpec.ofChange Rows.modelBeginsSpec) :=
  OpenClaim.holds_of_wide 3 Try.f3 rfl rfl rfl rfl rfl rfl rfl ⟨rfl, rfl, rfl, rfl, rfl⟩ rfl rfl rfl rfl rfl (by kernel_rfl) Try.func3 (by kernel_rfl)
    (of_decide_eq_true (by kernel_rfl)) (by unfold Func.isWrapper; first | (rw [if_pos (by decide +kernel)]; kernel_rfl) | (rw [if_neg (by decide +kernel)]; exact ⟨rfl, rfl⟩))
    (fun os started H enc _ => lifted os started H enc)

theorem proved : Rows.ModelBeginsSaid := over
#print axioms proved
end Go.Proofs.Ytkmkaidhpbjbnaa.modelBegins
