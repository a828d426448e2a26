/- Texts side by side. -/
import Derived.Test.YtmjkhejfhpgiiaaDoorSrqg
import Derived.Test.YtmjkhejfhpgiiaaDoorSrqk
import Derived.Test.YtmjkhejfhpgiiaaDoorSrql
set_option linter.unusedVariables false
set_option linter.unusedSimpArgs false
set_option maxRecDepth 100000
set_option maxHeartbeats 16000000
namespace Go.Proofs.YtmjkhejfhpgiiaaDoor
open Kap Go.ChangeShapes Go.WideShapes Go.ChangeAt Go.RowKit Go.Lib Mem Tre Wpl Scf
namespace Lst
open Crd CrdC Stk Apt Bko Wmr Wal Sc2 Srd
def nb (l : List UInt8) (k : Nat) : Nat := (l.getD k 0).toNat
theorem nb_lt (l : List UInt8) (k : Nat) : nb l k < 256 := (l.getD k 0).toNat_lt
def whF (l : List UInt8) (i : Nat) : Nat := nb l (12 + i * 4) / 16 % 3
theorem wh_lt (l : List UInt8) (i : Nat) : whF l i < 3 := Nat.mod_lt _ (by decide)
def mB (l : List UInt8) (i : Nat) : M := mF (nb l (12 + i * 4)) (nb l (12 + i * 4 + 1)) (nb l (12 + i * 4 + 2)) (nb l (12 + i * 4 + 3))
def up {α : Type} (f : Nat → α) (i : Nat) (x : α) : Nat → α := fun j => if j = i then x else f j
theorem up_at {α : Type} (f : Nat → α) (i : Nat) (x : α) : up f i x i = x := if_pos rfl
theorem up_ne {α : Type} (f : Nat → α) {i j : Nat} (x : α) (h : j ≠ i) : up f i x j = f j := if_neg h
def lsF (l : List UInt8) : Nat → Nat → List M
  | 0 => fun _ => []
  | n + 1 => up (lsF l n) (whF l n) (lsF l n (whF l n) ++ [mB l n])
theorem lsF_len (l : List UInt8) (n i : Nat) : (lsF l n i).length ≤ n := by
  induction n with
  | zero => exact Nat.le_refl _
  | succ n ih =>
    show (up (lsF l n) (whF l n) (lsF l n (whF l n) ++ [mB l n]) i).length ≤ n + 1
    by_cases h : i = whF l n
    · subst h; rw [up_at]; simp; omega
    · rw [up_ne _ _ h]; omega
def cnF (l : List UInt8) : Nat := min ((l.length - 12) / 4) 30
def piF (l : List UInt8) : List Int := (l.drop 12).map fun b => (b.toNat : Int)
theorem piF_len (l : List UInt8) : (piF l).length = l.length - 12 := by simp [piF]
theorem by_c {w : World} {B b o : Nat} {l : List UInt8} (h : By w B (some ⟨b, o, none⟩) l) {i : Nat} (hi : i < l.length) : w.cell? ⟨b, o + i, none⟩ = some (.int .u8 (nb l i)) := by
  rcases h with h | ⟨b', o', hA, hb, hc⟩
  · have := congrArg List.length h
    rw [bts_len] at this
    have : l.length = 0 := this
    omega
  · injection hA with hA
    injection hA with h1 h2
    subst h1 h2
    refine hc i _ ?_
    unfold bts nb
    rw [List.getElem?_map, List.getElem?_eq_getElem hi, List.getD_eq_getElem?_getD, List.getElem?_eq_getElem hi]
    rfl
theorem nb_drop (l : List UInt8) (k i : Nat) : nb (l.drop k) i = nb l (k + i) := by
  unfold nb
  rw [List.getD_eq_getElem?_getD, List.getD_eq_getElem?_getD, List.getElem?_drop]
theorem by_c12 {w : World} {B b o : Nat} {l : List UInt8} (h : By w B (some ⟨b, o, none⟩) (l.drop 12)) {i : Nat} (hi : i + 12 < l.length) : w.cell? ⟨b, o + i, none⟩ = some (.int .u8 (nb l (12 + i))) := by
  have := by_c h (i := i) (by rw [List.length_drop]; omega)
  rw [nb_drop] at this
  exact this
def pcF (l : List UInt8) : Nat → Array Value
  | 0 => madeCells #[.int .i64 0] (l.length - 12)
  | i + 1 => (pcF l i).setIfInBounds i (.int .i64 (nb l (12 + i)))
theorem pcF_get (l : List UInt8) (i k : Nat) : (pcF l i)[k]? = if k < l.length - 12 then some (.int .i64 (if k < i then (nb l (12 + k) : Int) else 0)) else none := by
  induction i with
  | zero =>
    have e : (madeCells (Value.int .i64 0).cells (l.length - 12)).toList = ints (zeros (l.length - 12)) := made_zeros _
    show (madeCells #[.int .i64 0] (l.length - 12))[k]? = _
    rw [← Array.getElem?_toList]
    have e' : (madeCells #[Value.int .i64 0] (l.length - 12)).toList = ints (zeros (l.length - 12)) := e
    rw [e']
    unfold ints zeros
    rw [List.getElem?_map, List.getElem?_replicate]
    by_cases h : k < l.length - 12
    · rw [if_pos h, if_pos h, if_neg (by omega)]; rfl
    · rw [if_neg h, if_neg h]; rfl
  | succ i ih =>
    show ((pcF l i).setIfInBounds i (.int .i64 (nb l (12 + i))))[k]? = _
    rw [Array.getElem?_setIfInBounds, ih]
    have hs : i < (pcF l i).size ↔ i < l.length - 12 := by
      have hq : ∀ j, (pcF l j).size = l.length - 12 := by
        intro j
        induction j with
        | zero =>
          show (madeCells #[.int .i64 0] (l.length - 12)).size = _
          have e : (madeCells (Value.int .i64 0).cells (l.length - 12)).toList = ints (zeros (l.length - 12)) := made_zeros _
          rw [← Array.length_toList]
          have e' : (madeCells #[Value.int .i64 0] (l.length - 12)).toList = ints (zeros (l.length - 12)) := e
          rw [e', ints_len, zeros_len]
        | succ j jh =>
          show ((pcF l j).setIfInBounds j _).size = _
          rw [Array.size_setIfInBounds, jh]
      rw [hq]
    by_cases h : i = k
    · subst h
      rw [if_pos rfl]
      by_cases h1 : i < l.length - 12
      · rw [if_pos (hs.2 h1), if_pos h1, if_pos (by omega)]
      · rw [if_neg (fun q => h1 (hs.1 q)), if_neg h1]
    · rw [if_neg h]
      by_cases h1 : k < l.length - 12
      · rw [if_pos h1, if_pos h1]
        by_cases h2 : k < i
        · rw [if_pos h2, if_pos (by omega)]
        · rw [if_neg h2, if_neg (by omega)]
      · rw [if_neg h1, if_neg h1]
theorem pcF_at (l : List UInt8) {i : Nat} (hi : i < l.length - 12) : (pcF l i)[i]? = some (.int .i64 0) := by rw [pcF_get, if_pos hi, if_neg (by omega)]
theorem pcF_all (l : List UInt8) : (pcF l (l.length - 12)).toList = ints (piF l) := by
  apply List.ext_getElem?
  intro k
  rw [Array.getElem?_toList, pcF_get]
  unfold ints piF
  rw [List.getElem?_map, List.getElem?_map, List.getElem?_drop]
  by_cases h : k < l.length - 12
  · rw [if_pos h, if_pos h]
    unfold nb
    rw [List.getD_eq_getElem?_getD, List.getElem?_eq_getElem (show 12 + k < l.length by omega)]
    rfl
  · rw [if_neg h, List.getElem?_eq_none (by omega)]
    rfl
def slV (A : Option Addr) (L : List M) (c : Nat) : Value := .slice A L.length c
structure Ls (base : Nat) (te tm : TypeId) (w : World) (gL : Nat) (A : Nat → Option Addr) (c : Nat → Nat) (L : Nat → List M) : Prop where
  b : Blk w gL te #[slV (A 0) (L 0) (c 0), slV (A 1) (L 1) (c 1), slV (A 2) (L 2) (c 2)]
  o : ∀ i, i < 3 → w.ownsRow base tm 12 (slV (A i) (L i) (c i)) (L i).length (mrow (L i))
  d : ∀ i j, i < 3 → j < 3 → i ≠ j → (slV (A i) (L i) (c i)).ownBlock = none ∨ (slV (A i) (L i) (c i)).ownBlock ≠ (slV (A j) (L j) (c j)).ownBlock
section
variable {base : Nat} {te tm ty : TypeId} {w w' : World} {gL g : Nat} {A : Nat → Option Addr} {c : Nat → Nat} {L : Nat → List M} {cs : Array Value}
theorem Ls.cell (h : Ls base te tm w gL A c L) {i : Nat} (hi : i < 3) : w.cell? ⟨gL, i, none⟩ = some (slV (A i) (L i) (c i)) := by
  match i, hi with
  | 0, _ => exact h.b.cell 0
  | 1, _ => exact h.b.cell 1
  | 2, _ => exact h.b.cell 2
theorem Ls.below (h : Ls base te tm w gL A c L) (hb : Below w.heap.size w w') : Ls base te tm w' gL A c L :=
  ⟨h.b.below' hb, fun i hi => (own_below (κ (h.o i hi)) hb).out, h.d⟩
theorem Ls.st (h : Ls base te tm w gL A c L) (k : Blk w g ty cs) (h1 : te ≠ ty) (h2 : tm ≠ ty) (i : Nat) (v : Value) : Ls base te tm (w.setCell ⟨g, i, none⟩ v) gL A c L :=
  ⟨far_st h.b (blk_ne h.b k h1) v, fun j hj => own_st (h.o j hj) k h2 i v, h.d⟩
theorem Ls.push (h : Ls base te tm w gL A c L) (ht : te ≠ tm) {i : Nat} (hi : i < 3) (m : M) {A' : Option Addr} {c' n' : Nat} (hn : n' = (L i).length + 1)
    (ho : w'.ownsRow base tm 12 (.slice A' n' c') n' (mrow (L i) ++ mvs m)) (hg : w.grownBy w' (slV (A i) (L i) (c i)).ownBlock)
    (hob : (Value.slice A' n' c').ownBlock = (slV (A i) (L i) (c i)).ownBlock ∨ (Value.slice A' n' c').ownBlock = some w.heap.size) :
    Ls base te tm (w'.setCell ⟨gL, i, none⟩ (.slice A' n' c')) gL (up A i A') (up c i c') (up L i (L i ++ [m])) := by
  have k1 : Blk w' gL te _ := blk_own_grown h.b (h.o i hi) ht hg
  have e : (Value.slice A' n' c') = slV A' (L i ++ [m]) c' := by unfold slV; rw [hn, List.length_append]; rfl
  have hl : (L i ++ [m]).length = n' := by rw [hn, List.length_append]; rfl
  refine ⟨?_, ?_, ?_⟩
  · have k2 := blk_st k1 i (.slice A' n' c')
    rw [e] at k2 ⊢
    match i, hi with
    | 0, _ => exact k2
    | 1, _ => exact k2
    | 2, _ => exact k2
  · intro j hj
    by_cases hij : j = i
    · subst hij
      rw [up_at, up_at, up_at, mrow_snoc, ← e, hl]
      exact own_st ho k1 (Ne.symm ht) j _
    · rw [up_ne _ _ hij, up_ne _ _ hij, up_ne _ _ hij]
      exact own_st (World.ownsRow.kept (h.o j hj) hg (h.d j i hj hi hij)) k1 (Ne.symm ht) i _
  · intro j k hj hk hjk
    by_cases h1 : j = i
    · subst h1
      have h2 : k ≠ j := Ne.symm hjk
      rw [up_at, up_at, up_at, up_ne _ _ h2, up_ne _ _ h2, up_ne _ _ h2, ← e]
      rcases hob with hob | hob
      · rw [hob]; exact h.d j k hj hk hjk
      · rw [hob]
        refine .inr fun q => ?_
        have := World.ownsRow.lt (h.o k hk) _ q.symm
        omega
    · rw [up_ne _ _ h1, up_ne _ _ h1, up_ne _ _ h1]
      by_cases h2 : k = i
      · subst h2
        rw [up_at, up_at, up_at, ← e]
        rcases hob with hob | hob
        · rw [hob]; exact h.d j k hj hk hjk
        · rw [hob]
          refine .inr fun q => ?_
          have := World.ownsRow.lt (h.o j hj) _ q
          omega
      · rw [up_ne _ _ h2, up_ne _ _ h2, up_ne _ _ h2]
        exact h.d j k hj hk hjk
theorem Ls.new (h : Blk w gL te #[.slice none 0 0, .slice none 0 0, .slice none 0 0]) : Ls base te tm w gL (fun _ => none) (fun _ => 0) (fun _ => []) :=
  ⟨h, fun i hi => World.ownsRow_nil _ _ _ _, fun i j _ _ _ => .inl rfl⟩
theorem Ls.st9 {u0 u1 u2 u3 u4 u5 u6 u7 u8 v0 v1 v2 v3 v4 v5 v6 v7 v8 : Value} (h : Ls base te tm w gL A c L) (k : Blk w g ty #[u0, u1, u2, u3, u4, u5, u6, u7, u8]) (h1 : te ≠ ty) (h2 : tm ≠ ty) : Ls base te tm (Srd.st9 w g v0 v1 v2 v3 v4 v5 v6 v7 v8) gL A c L :=
  have h_0 : Ls base te tm (w.setCell ⟨g, 0, none⟩ v0) gL A c L := h.st k h1 h2 0 v0
  have k_0 : Blk (w.setCell ⟨g, 0, none⟩ v0) g ty #[v0, u1, u2, u3, u4, u5, u6, u7, u8] := blk_st k 0 v0
  have h_1 : Ls base te tm ((w.setCell ⟨g, 0, none⟩ v0).setCell ⟨g, 1, none⟩ v1) gL A c L := h_0.st k_0 h1 h2 1 v1
  have k_1 : Blk ((w.setCell ⟨g, 0, none⟩ v0).setCell ⟨g, 1, none⟩ v1) g ty #[v0, v1, u2, u3, u4, u5, u6, u7, u8] := blk_st k_0 1 v1
  have h_2 : Ls base te tm (((w.setCell ⟨g, 0, none⟩ v0).setCell ⟨g, 1, none⟩ v1).setCell ⟨g, 2, none⟩ v2) gL A c L := h_1.st k_1 h1 h2 2 v2
  have k_2 : Blk (((w.setCell ⟨g, 0, none⟩ v0).setCell ⟨g, 1, none⟩ v1).setCell ⟨g, 2, none⟩ v2) g ty #[v0, v1, v2, u3, u4, u5, u6, u7, u8] := blk_st k_1 2 v2
  have h_3 : Ls base te tm ((((w.setCell ⟨g, 0, none⟩ v0).setCell ⟨g, 1, none⟩ v1).setCell ⟨g, 2, none⟩ v2).setCell ⟨g, 3, none⟩ v3) gL A c L := h_2.st k_2 h1 h2 3 v3
  have k_3 : Blk ((((w.setCell ⟨g, 0, none⟩ v0).setCell ⟨g, 1, none⟩ v1).setCell ⟨g, 2, none⟩ v2).setCell ⟨g, 3, none⟩ v3) g ty #[v0, v1, v2, v3, u4, u5, u6, u7, u8] := blk_st k_2 3 v3
  have h_4 : Ls base te tm (((((w.setCell ⟨g, 0, none⟩ v0).setCell ⟨g, 1, none⟩ v1).setCell ⟨g, 2, none⟩ v2).setCell ⟨g, 3, none⟩ v3).setCell ⟨g, 4, none⟩ v4) gL A c L := h_3.st k_3 h1 h2 4 v4
  have k_4 : Blk (((((w.setCell ⟨g, 0, none⟩ v0).setCell ⟨g, 1, none⟩ v1).setCell ⟨g, 2, none⟩ v2).setCell ⟨g, 3, none⟩ v3).setCell ⟨g, 4, none⟩ v4) g ty #[v0, v1, v2, v3, v4, u5, u6, u7, u8] := blk_st k_3 4 v4
  have h_5 : Ls base te tm ((((((w.setCell ⟨g, 0, none⟩ v0).setCell ⟨g, 1, none⟩ v1).setCell ⟨g, 2, none⟩ v2).setCell ⟨g, 3, none⟩ v3).setCell ⟨g, 4, none⟩ v4).setCell ⟨g, 5, none⟩ v5) gL A c L := h_4.st k_4 h1 h2 5 v5
  have k_5 : Blk ((((((w.setCell ⟨g, 0, none⟩ v0).setCell ⟨g, 1, none⟩ v1).setCell ⟨g, 2, none⟩ v2).setCell ⟨g, 3, none⟩ v3).setCell ⟨g, 4, none⟩ v4).setCell ⟨g, 5, none⟩ v5) g ty #[v0, v1, v2, v3, v4, v5, u6, u7, u8] := blk_st k_4 5 v5
  have h_6 : Ls base te tm (((((((w.setCell ⟨g, 0, none⟩ v0).setCell ⟨g, 1, none⟩ v1).setCell ⟨g, 2, none⟩ v2).setCell ⟨g, 3, none⟩ v3).setCell ⟨g, 4, none⟩ v4).setCell ⟨g, 5, none⟩ v5).setCell ⟨g, 6, none⟩ v6) gL A c L := h_5.st k_5 h1 h2 6 v6
  have k_6 : Blk (((((((w.setCell ⟨g, 0, none⟩ v0).setCell ⟨g, 1, none⟩ v1).setCell ⟨g, 2, none⟩ v2).setCell ⟨g, 3, none⟩ v3).setCell ⟨g, 4, none⟩ v4).setCell ⟨g, 5, none⟩ v5).setCell ⟨g, 6, none⟩ v6) g ty #[v0, v1, v2, v3, v4, v5, v6, u7, u8] := blk_st k_5 6 v6
  have h_7 : Ls base te tm ((((((((w.setCell ⟨g, 0, none⟩ v0).setCell ⟨g, 1, none⟩ v1).setCell ⟨g, 2, none⟩ v2).setCell ⟨g, 3, none⟩ v3).setCell ⟨g, 4, none⟩ v4).setCell ⟨g, 5, none⟩ v5).setCell ⟨g, 6, none⟩ v6).setCell ⟨g, 7, none⟩ v7) gL A c L := h_6.st k_6 h1 h2 7 v7
  have k_7 : Blk ((((((((w.setCell ⟨g, 0, none⟩ v0).setCell ⟨g, 1, none⟩ v1).setCell ⟨g, 2, none⟩ v2).setCell ⟨g, 3, none⟩ v3).setCell ⟨g, 4, none⟩ v4).setCell ⟨g, 5, none⟩ v5).setCell ⟨g, 6, none⟩ v6).setCell ⟨g, 7, none⟩ v7) g ty #[v0, v1, v2, v3, v4, v5, v6, v7, u8] := blk_st k_6 7 v7
  have h_8 : Ls base te tm (((((((((w.setCell ⟨g, 0, none⟩ v0).setCell ⟨g, 1, none⟩ v1).setCell ⟨g, 2, none⟩ v2).setCell ⟨g, 3, none⟩ v3).setCell ⟨g, 4, none⟩ v4).setCell ⟨g, 5, none⟩ v5).setCell ⟨g, 6, none⟩ v6).setCell ⟨g, 7, none⟩ v7).setCell ⟨g, 8, none⟩ v8) gL A c L := h_7.st k_7 h1 h2 8 v8
  have k_8 : Blk (((((((((w.setCell ⟨g, 0, none⟩ v0).setCell ⟨g, 1, none⟩ v1).setCell ⟨g, 2, none⟩ v2).setCell ⟨g, 3, none⟩ v3).setCell ⟨g, 4, none⟩ v4).setCell ⟨g, 5, none⟩ v5).setCell ⟨g, 6, none⟩ v6).setCell ⟨g, 7, none⟩ v7).setCell ⟨g, 8, none⟩ v8) g ty #[v0, v1, v2, v3, v4, v5, v6, v7, v8] := blk_st k_7 8 v8
  h_8
theorem Ls.off (h : Ls base te tm w gL A c L) {i : Nat} (hi : i < 3) (hg : w.grownBy w' (slV (A i) (L i) (c i)).ownBlock) (k : Blk w g ty cs) (hne : ty ≠ tm) : Blk w' g ty cs := blk_own_grown k (h.o i hi) hne hg
theorem Ls.bel {w0 : World} {B : Nat} (h : Ls base te tm w gL A c L) {i : Nat} (hi : i < 3) (hg : w.grownBy w' (slV (A i) (L i) (c i)).ownBlock) (hb : Below B w0 w) (hB : B ≤ base) (hB' : B ≤ w.heap.size) : Below B w0 w' := grown_below hb (h.o i hi) hg hB hB'
end
end Lst
namespace Rby
open Lst
theorem bt_nb (l : List UInt8) (k : Nat) : bt l k = (nb l k : Int) := rfl
theorem bt_no {l : List UInt8} {k : Nat} (h : l.length ≤ k) : bt l k = 0 := by
  unfold bt
  rw [List.getD_eq_getElem?_getD, List.getElem?_eq_none h]
  rfl
theorem rat_any (l : List UInt8) (A : Option Addr) (c k : Nat) (w : World) (hl : Hid (By w w.heap.size A l)) (hk : k ≤ 1000) (hm : l.length ≤ 1000) : Calls Tryd.prog 13 #[.slice A l.length c, .int .i64 k] w (fun e w' => e = .returned (.int .i64 (bt l k)) ∧ w' = w) := by
  by_cases hlt : k < l.length
  · obtain ⟨b, o, rfl, -⟩ : ∃ b o, A = some ⟨b, o, none⟩ ∧ True := by
      obtain ⟨b, o, h, _⟩ := Rd.at hl.out (by intro e; have h := congrArg List.length e; rw [bts_len] at h; have h' : l.length = 0 := h; omega)
      exact ⟨b, o, h, trivial⟩
    have e0 := by_c hl.out hlt
    have hx := nb_lt l k
    rw [bt_nb]
    generalize nb l k = x at e0 hx ⊢
    have t0 : decide ((k : Int) < (l.length : Int)) = true := decide_eq_true (by omega)
    go_enter Tryd.func13, Tryd.ntmps13
    go_wp2_with fail
    exact bodyPost_ret (v := .int .i64 x) (by simp [results, Tryd.results13, go_sem]) rfl ⟨rfl, rfl⟩
  · have t0 : decide ((k : Int) < (l.length : Int)) = false := decide_eq_false (by omega)
    rw [bt_no (by omega)]
    go_enter Tryd.func13, Tryd.ntmps13
    go_wp2_with fail
    exact bodyPost_ret (v := .int .i64 0) (by simp [results, Tryd.results13, go_sem]) rfl ⟨rfl, rfl⟩
end Rby
namespace Rcr
open Crd CrdC Stk Apt Bko Wmr Wal Sc2 Srd Lst Rr4
abbrev Sy8 : Array Value := #[.int .i64 100, .int .i64 50, .int .i64 3000, .float .f64 4591870180066957722, .int .i64 10, .int .i64 1000, .int .i64 10000, .float .f64 4602678819172646912]
structure Cr (l : List UInt8) (w W : World) (An : Option Addr) (cn gB gY gR : Nat) : Prop where
  n : W.ownsRow w.heap.size 61 2 (.slice An 4 cn) 4 (nds (cfN l))
  a : Blk W gB 3 #[.int .i64 2, .int .i64 3, .int .i64 2]
  s : Blk W gY 64 Sy8
  r : Blk W gR 38 #[.int .i64 0, .int .i64 0, .int .i64 0, .int .i64 0, .slice none 0 0, .slice none 0 0, .slice none 0 0, .slice none 0 0, .slice none 0 0]
  b : Below w.heap.size w W
section
variable {l : List UInt8} {w W W' : World} {An : Option Addr} {cn gB gY gR g base sz n : Nat} {te tm : TypeId} {cs : Array Value} {v : Value} {xs : List Value}
theorem Cr.below (h : Cr l w W An cn gB gY gR) (hb : Below W.heap.size W W') : Cr l w W' An cn gB gY gR :=
  ⟨(own_below (κ h.n) hb).out, h.a.below' hb, h.s.below' hb, h.r.below' hb, Rul1.below_step h.b hb⟩
theorem Cr.drew (h : Cr l w W An cn gB gY gR) : Cr l w W.drew An cn gB gY gR := ⟨(own_drew (κ h.n)).out, h.a, h.s, h.r, h.b.drew⟩
theorem Cr.st (h : Cr l w W An cn gB gY gR) (k : Blk W g te cs) (h1 : 61 ≠ te) (h2 : 3 ≠ te) (h3 : 64 ≠ te) (h4 : gR ≠ g) (hg : w.heap.size ≤ g) (i : Nat) (x : Value) : Cr l w (W.setCell ⟨g, i, none⟩ x) An cn gB gY gR :=
  ⟨own_st h.n k h1 i x, far_st h.a (blk_ne h.a k h2) x, far_st h.s (blk_ne h.s k h3) x, far_st h.r h4 x, h.b.setCell (p := ⟨g, i, none⟩) hg x⟩
theorem Cr.st9 {z0 z1 z2 z3 z4 z5 z6 z7 z8 v0 v1 v2 v3 v4 v5 v6 v7 v8 : Value} (h : Cr l w W An cn gB gY gR) (k : Blk W g te #[z0, z1, z2, z3, z4, z5, z6, z7, z8]) (h1 : 61 ≠ te) (h2 : 3 ≠ te) (h3 : 64 ≠ te) (h4 : gR ≠ g) (hg : w.heap.size ≤ g) : Cr l w (Srd.st9 W g v0 v1 v2 v3 v4 v5 v6 v7 v8) An cn gB gY gR :=
  have g0 := h.st k h1 h2 h3 h4 hg 0 v0
  have k0 := blk_st k 0 v0
  have g1 := g0.st k0 h1 h2 h3 h4 hg 1 v1
  have k1 := blk_st k0 1 v1
  have g2 := g1.st k1 h1 h2 h3 h4 hg 2 v2
  have k2 := blk_st k1 2 v2
  have g3 := g2.st k2 h1 h2 h3 h4 hg 3 v3
  have k3 := blk_st k2 3 v3
  have g4 := g3.st k3 h1 h2 h3 h4 hg 4 v4
  have k4 := blk_st k3 4 v4
  have g5 := g4.st k4 h1 h2 h3 h4 hg 5 v5
  have k5 := blk_st k4 5 v5
  have g6 := g5.st k5 h1 h2 h3 h4 hg 6 v6
  have k6 := blk_st k5 6 v6
  have g7 := g6.st k6 h1 h2 h3 h4 hg 7 v7
  have k7 := blk_st k6 7 v7
  have g8 := g7.st k7 h1 h2 h3 h4 hg 8 v8
  g8
theorem Cr.gr (h : Cr l w W An cn gB gY gR) (k : W.ownsRow base tm sz v n xs) (h1 : 61 ≠ tm) (h2 : 3 ≠ tm) (h3 : 64 ≠ tm) (h4 : 38 ≠ tm) (hg : W.grownBy W' v.ownBlock) (hB : w.heap.size ≤ base) : Cr l w W' An cn gB gY gR :=
  ⟨Apt.own_grown h.n k h1 hg, blk_own_grown h.a k h2 hg, blk_own_grown h.s k h3 hg, blk_own_grown h.r k h4 hg, grown_below h.b k hg hB h.b.size⟩
theorem Cr.grI (h : Cr l w W An cn gB gY gR) (k : W.ownsRow base tm sz v n xs) (h1 : 61 ≠ tm) (h2 : gB < base) (h3 : 64 ≠ tm) (h4 : 38 ≠ tm) (hg : W.grownBy W' v.ownBlock) (hB : w.heap.size ≤ base) : Cr l w W' An cn gB gY gR :=
  ⟨Apt.own_grown h.n k h1 hg, Blk_grown h.a hg (fun e => by have := World.ownsRow.lt k gB e.symm; omega), blk_own_grown h.s k h3 hg, blk_own_grown h.r k h4 hg, grown_below h.b k hg hB h.b.size⟩
theorem own_st9 {z0 z1 z2 z3 z4 z5 z6 z7 z8 v0 v1 v2 v3 v4 v5 v6 v7 v8 : Value} (h : W.ownsRow base tm sz v n xs) (k : Blk W g te #[z0, z1, z2, z3, z4, z5, z6, z7, z8]) (hne : tm ≠ te) : (Srd.st9 W g v0 v1 v2 v3 v4 v5 v6 v7 v8).ownsRow base tm sz v n xs :=
  have g0 := own_st h k hne 0 v0
  have k0 := blk_st k 0 v0
  have g1 := own_st g0 k0 hne 1 v1
  have k1 := blk_st k0 1 v1
  have g2 := own_st g1 k1 hne 2 v2
  have k2 := blk_st k1 2 v2
  have g3 := own_st g2 k2 hne 3 v3
  have k3 := blk_st k2 3 v3
  have g4 := own_st g3 k3 hne 4 v4
  have k4 := blk_st k3 4 v4
  have g5 := own_st g4 k4 hne 5 v5
  have k5 := blk_st k4 5 v5
  have g6 := own_st g5 k5 hne 6 v6
  have k6 := blk_st k5 6 v6
  have g7 := own_st g6 k6 hne 7 v7
  have k7 := blk_st k6 7 v7
  have g8 := own_st g7 k7 hne 8 v8
  g8
theorem Cr.fin {v0 v1 v2 v3 v4 v5 v6 v7 v8 : Value} (h : Cr l w W An cn gB gY gR) (hg : w.heap.size ≤ gR) : (Srd.st9 W gR v0 v1 v2 v3 v4 v5 v6 v7 v8).ownsRow w.heap.size 61 2 (.slice An 4 cn) 4 (nds (cfN l)) ∧ Blk (Srd.st9 W gR v0 v1 v2 v3 v4 v5 v6 v7 v8) gB 3 #[.int .i64 2, .int .i64 3, .int .i64 2] ∧ Blk (Srd.st9 W gR v0 v1 v2 v3 v4 v5 v6 v7 v8) gY 64 Sy8 ∧ Below w.heap.size w (Srd.st9 W gR v0 v1 v2 v3 v4 v5 v6 v7 v8) :=
  ⟨own_st9 h.n h.r (by decide), st9_far h.a (blk_ne h.a h.r (by decide)), st9_far h.s (blk_ne h.s h.r (by decide)), st9_below h.b hg⟩
theorem Ls_gr {te2 : TypeId} {gL : Nat} {A : Nat → Option Addr} {c : Nat → Nat} {L : Nat → List M} {b2 s2 n2 : Nat} {v2 : Value} {x2 : List Value} (h : Ls base te tm W gL A c L) (k : W.ownsRow b2 te2 s2 v2 n2 x2) (h1 : te ≠ te2) (h2 : tm ≠ te2) (hg : W.grownBy W' v2.ownBlock) : Ls base te tm W' gL A c L :=
  ⟨blk_own_grown h.b k h1 hg, fun i hi => Apt.own_grown (h.o i hi) k h2 hg, h.d⟩
theorem Ls_drew {gL : Nat} {A : Nat → Option Addr} {c : Nat → Nat} {L : Nat → List M} (h : Ls base te tm W gL A c L) : Ls base te tm W.drew gL A c L := ⟨h.b, h.o, h.d⟩
end
def rcV (l : List UInt8) (An : Option Addr) (cn gB gY gL : Nat) (pk : Value) : Array Value := #[.int .i64 (1 + ((nb l 0 : Nat) : Int) % 3), .int .i64 (((nb l 1 : Nat) : Int) % 4), .int .i64 (1 + ((nb l 2 : Nat) : Int) % 6), .int .i64 (1 + ((nb l 3 : Nat) : Int) % 6), .slice An 4 cn, .slice (some ⟨gB, 0, none⟩) 3 3, .slice (some ⟨gY, 0, none⟩) 2 2, .slice (some ⟨gL, 0, none⟩) 3 3, pk]
theorem piF_snoc (l : List UInt8) {q : Nat} (h : 12 + q < l.length) : ints ((piF l).take (q + 1)) = ints ((piF l).take q) ++ [.int .i64 (nb l (12 + q))] := by
  have e : (piF l)[q]? = some (nb l (12 + q) : Int) := by
    unfold piF nb
    rw [List.getElem?_map, List.getElem?_drop, List.getD_eq_getElem?_getD, List.getElem?_eq_getElem h]
    rfl
  have e2 : (piF l).take (q + 1) = (piF l).take q ++ [(nb l (12 + q) : Int)] := by rw [List.take_add_one, e]; rfl
  rw [e2]
  unfold ints
  rw [List.map_append]
  rfl
def MadeRr (l : List UInt8) (w : World) (e : Ending) (w' : World) : Prop := ∃ An cn gB gY gL P pc A c, e = .returned (.agg (rcV l An cn gB gY gL (.slice P (l.length - 12) pc))) ∧ Nds w' w'.heap.size An (cfN l) ∧ Blk w' gB 3 #[.int .i64 2, .int .i64 3, .int .i64 2] ∧ Blk w' gY 64 Sy8 ∧ Ls w.heap.size 46 50 w' gL A c (lsF l (cnF l)) ∧ Ris w' w'.heap.size P (piF l) ∧ Below w.heap.size w w'
theorem rms_info : (Tryd.prog.info? 46).map (fun i => (i.zero, i.size, i.bytes)) = some (some (.slice none 0 0), 1, 24) := by kernel_rfl
theorem rmk3 (W : World) : (Instr.makeSlice 36 (.int .i64 3) (.int .i64 3)).run Tryd.prog W = .ok (.slice (some ⟨W.heap.size, 0, none⟩) 3 3) (W.alloc (.cells #[.slice none 0 0, .slice none 0 0, .slice none 0 0] 46)) := by
  have h := Go.run_make_row' (P := Tryd.prog) 36 46 (.slice none 0 0) 24 Tryd.underlying36 rms_info rfl .i64 .i64 3 (by omega) (by omega) W
  have e : madeCells #[Value.slice none 0 0] 3 = #[.slice none 0 0, .slice none 0 0, .slice none 0 0] := by kernel_rfl
  rw [e] at h
  exact h
theorem rmsg_info : (Tryd.prog.info? 50).map (fun i => (i.zero, i.size, i.bytes)) = some (some (.agg #[.int .i64 0, .int .i64 0, .int .i64 0, .bool false, .int .i64 0, .int .i64 0, .int .i64 0, .int .i64 0, .int .i64 0, .int .i64 0, .int .i64 0, .int .i64 0]), 12, 96) := by kernel_rfl
end Rcr
end Go.Proofs.YtmjkhejfhpgiiaaDoor
