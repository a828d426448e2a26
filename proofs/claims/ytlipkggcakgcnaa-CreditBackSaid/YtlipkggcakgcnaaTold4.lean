/- The contract of the law's fixed example of layer 4, and of a State in a variable. No condition. -/
import Derived.Test.YtlipkggcakgcnaaRel
import Derived.Test.YtlipkggcakgcnaaLim
namespace Go.Proofs.Ytlipkggcakgcnaa.Told4
set_option maxRecDepth 100000
open Go.ChangeShapes Go.WideShapes Go.ChangeAt Go.RowKit Mem Tre Ref3 Law3 Fix3 Crd CrdB CrdC Cpl Own Res Rel
set_option linter.unusedVariables false

/-- a variable that holds a State -/
structure StV (W : World) (g : Nat) (te : TypeId) (A A' : Option Addr) (n n' c c' : Nat) (l : List (Int × Int)) (u : List Int) : Prop where
  blk : Blk W g te #[.slice A n c, .slice A' n' c']
  nds : Nds W W.heap.size A l
  ris : Ris W W.heap.size A' u
theorem StV.below {W W' : World} {g : Nat} {te : TypeId} {A A' : Option Addr} {n n' c c' : Nat} {l : List (Int × Int)} {u : List Int} (h : StV W g te A A' n n' c c' l u) (hb : Below W.heap.size W W') : StV W' g te A A' n n' c c' l u :=
  ⟨Blk.below' h.blk hb, Rd.below' h.nds hb hb.size, Rd.below' h.ris hb hb.size⟩
theorem StV.alloc {W : World} {g : Nat} {te : TypeId} {A A' : Option Addr} {n n' c c' : Nat} {l : List (Int × Int)} {u : List Int} (h : StV W g te A A' n n' c c' l u) (o : Obj) : StV (W.alloc o) g te A A' n n' c c' l u :=
  h.below ((Below.refl _ _).alloc (Nat.le_refl _) _)
theorem StV.new {W : World} {te : TypeId} {A A' : Option Addr} {n n' c c' : Nat} {l : List (Int × Int)} {u : List Int} (h1 : Nds W W.heap.size A l) (h2 : Ris W W.heap.size A' u) : StV (W.alloc (.cells #[.slice A n c, .slice A' n' c'] te)) W.heap.size te A A' n n' c c' l u :=
  ⟨Blk.fresh _ _ _, Rd.below' h1 ((Below.refl _ _).alloc (Nat.le_refl _) _) (by simp), Rd.below' h2 ((Below.refl _ _).alloc (Nat.le_refl _) _) (by simp)⟩
theorem StV.c0 {W : World} {g : Nat} {te : TypeId} {A A' : Option Addr} {n n' c c' : Nat} {l : List (Int × Int)} {u : List Int} (h : StV W g te A A' n n' c c' l u) : W.cell? ⟨g, 0, none⟩ = some (.slice A n c) := h.blk.cell 0
theorem StV.c1 {W : World} {g : Nat} {te : TypeId} {A A' : Option Addr} {n n' c c' : Nat} {l : List (Int × Int)} {u : List Int} (h : StV W g te A A' n n' c c' l u) : W.cell? ⟨g, 1, none⟩ = some (.slice A' n' c') := h.blk.cell 1

/-! ### the contracts, lengths under names of their own -/
def MadeStN (l : List (Int × Int)) (u : List Int) (n n' : Nat) (w : World) (e : Ending) (w' : World) : Prop :=
  ∃ A c A' c', e = .returned (.agg #[.slice A n c, .slice A' n' c']) ∧ Nds w' w'.heap.size A l ∧ Ris w' w'.heap.size A' u ∧ Below w.heap.size w w'
def MadeResN (l : List (Int × Int)) (u : List Int) (n n' : Nat) (p : Int × Int) (w : World) (e : Ending) (w' : World) : Prop :=
  ∃ A c A' c', e = .returned (.tuple #[.agg #[.slice A n c, .slice A' n' c'], .int .i64 p.1, .int .i64 p.2]) ∧ Nds w' w'.heap.size A l ∧ Ris w' w'.heap.size A' u ∧ Below w.heap.size w w'
def MadeRelN (l : List (Int × Int)) (u : List Int) (n n' : Nat) (b : Bool) (w : World) (e : Ending) (w' : World) : Prop :=
  ∃ A c A' c', e = .returned (.tuple #[.agg #[.slice A n c, .slice A' n' c'], .bool b]) ∧ Nds w' w'.heap.size A l ∧ Ris w' w'.heap.size A' u ∧ Below w.heap.size w w'
theorem begin_n (A : Option Addr) (n c : Nat) (l : List (Int × Int)) (u : List Int) (n' : Nat) (w : World) (hn : n = l.length) (hu : u = zeros l.length) (hn' : n' = u.length) (hl : Hid (Nds w w.heap.size A l)) (hmax : (l.length : Int) ≤ 1000000) :
    Calls Try.prog 14 #[.slice A n c] w (MadeStN l u n n' w) := by
  subst hn; subst hu; subst hn'; exact begin_any A c l w hl hmax
theorem reserve_n (A A' : Option Addr) (n n' c c' : Nat) (l : List (Int × Int)) (u v : List Int) (m x : Int) (p : Int × Int) (nv : Nat) (w : World) (hn : n = l.length) (hn' : n' = u.length) (hv : v = resU l u m x) (hnv : nv = v.length) (hp : p = resF l u m x) (hl : Hid (Nds w w.heap.size A l)) (hu : Hid (Ris w w.heap.size A' u)) (hg : GoodSt l u) (hm : inI m) (hx0 : -9223372036854775808 ≤ x) (hx1 : x ≤ 9223372036854775807) :
    Calls Try.prog 19 #[.agg #[.slice A n c, .slice A' n' c'], .int .i64 m, .int .i64 x] w (MadeResN l v n nv p w) := by
  subst hn; subst hn'; subst hv; subst hnv; subst hp; exact reserve_any A A' c c' l u m x w hl hu hg hm hx0 hx1
theorem release_n (A A' : Option Addr) (n n' c c' : Nat) (l : List (Int × Int)) (u v : List Int) (m x : Int) (p : Bool) (nv : Nat) (w : World) (hn : n = l.length) (hn' : n' = u.length) (hv : v = relU l u m x) (hnv : nv = v.length) (hp : p = relF l u m x) (hl : Hid (Nds w w.heap.size A l)) (hu : Hid (Ris w w.heap.size A' u)) (hg : GoodSt l u) (hm : inI m) (hx0 : -9223372036854775808 ≤ x) (hx1 : x ≤ 9223372036854775807) :
    Calls Try.prog 21 #[.agg #[.slice A n c, .slice A' n' c'], .int .i64 m, .int .i64 x] w (MadeRelN l v n nv p w) := by
  subst hn; subst hn'; subst hv; subst hnv; subst hp; exact release_any A A' c c' l u m x w hl hu hg hm hx0 hx1
theorem right_n (A A' : Option Addr) (n n' c c' : Nat) (l : List (Int × Int)) (u : List Int) (w : World) (hn : n = l.length) (hn' : n' = u.length) (hl : Hid (Nds w w.heap.size A l)) (hu : Hid (Ris w w.heap.size A' u)) (hg : GoodSt l u) :
    Calls Try.prog 25 #[.agg #[.slice A n c, .slice A' n' c']] w (MadeB true w) := by
  subst hn; subst hn'
  have := right_any A A' c c' l u w hl hu hg.wf hg.wfi (by have := hg.few; omega) (by have := hg.few; rw [hg.len]; omega)
  rwa [hg.right] at this

def ex4 : List (Int × Int) := [(-1, 5), (0, 10)]
theorem ex4_okt : Okt ex4 := by
  intro i hi
  simp [ex4] at hi
  match i, hi with
  | 0, _ => exact ⟨by decide, by decide, by decide, by decide, rfl⟩
  | 1, _ => exact ⟨by decide, by decide, by decide, by decide, rfl⟩
theorem uok2 {a b : Int} (ha : 0 ≤ a ∧ a ≤ 4611686018427387904) (hb : 0 ≤ b ∧ b ≤ 4611686018427387904) : UOk [a, b] := by
  intro i hi
  simp at hi
  match i, hi with
  | 0, _ => exact ha
  | 1, _ => exact hb
theorem good4 {a b : Int} (ha : 0 ≤ a ∧ a ≤ 4611686018427387904) (hb : 0 ≤ b ∧ b ≤ 4611686018427387904) : GoodSt ex4 [a, b] := ⟨ex4_okt, by decide, by decide, rfl, uok2 ha hb⟩

set_option maxHeartbeats 2000000 in
theorem told4_any (w : World) : Calls Try.prog 16 #[] w (MadeB true w) := by
  go_enter Try.func16, Try.ntmps16
  go_wp2_with fail
  have b0 : Below w.heap.size w (w.alloc (.cells #[.int .i64 (-1), .int .i64 5, .int .i64 0, .int .i64 10] 120)) := (Below.refl _ _).alloc (Nat.le_refl _) _
  have n0 : Nds (w.alloc (.cells #[.int .i64 (-1), .int .i64 5, .int .i64 0, .int .i64 10] 120)) (w.alloc (.cells #[.int .i64 (-1), .int .i64 5, .int .i64 0, .int .i64 10] 120)).heap.size (some ⟨w.heap.size, 0, none⟩) ex4 := (Blk.fresh _ _ _).rd' rfl
  refine (begin_n (some ⟨w.heap.size, 0, none⟩) 2 2 ex4 [0, 0] 2 _ rfl rfl rfl n0 (by decide)).mono ?_
  rintro e w1 ⟨A1, c1, A2, c2, rfl, hn1, hu1, hb1⟩
  have b1 := below_step b0 hb1
  have v1 : Hid (StV (w1.alloc (.cells #[.slice A1 2 c1, .slice A2 2 c2] 31)) w1.heap.size 31 A1 A2 2 2 c1 c2 ex4 [0, 0]) := StV.new hn1 hu1
  have b1' : Below w.heap.size w (w1.alloc (.cells #[.slice A1 2 c1, .slice A2 2 c2] 31)) := b1.alloc b1.size _
  clear b0 n0 hn1 hu1 hb1
  go_wp2_with fail
  refine (reserve_n A1 A2 2 2 c1 c2 ex4 [0, 0] [0, 0] 1 6 (13, 0) 2 _ rfl rfl rfl rfl rfl v1.out.nds v1.out.ris (good4 (by decide) (by decide)) ⟨by decide, by decide⟩ (by decide) (by decide)).mono ?_
  rintro e w2 ⟨A3, c3, A4, c4, rfl, hn2, hu2, hb2⟩
  have b2 := below_step b1' hb2
  have b2' : Below w.heap.size w (w2.alloc (.cells #[.slice A3 2 c3, .slice A4 2 c4] 31)) := b2.alloc b2.size _
  have v2 : Hid (StV (w2.alloc (.cells #[.slice A3 2 c3, .slice A4 2 c4] 31)) w1.heap.size 31 A1 A2 2 2 c1 c2 ex4 [0, 0]) := (v1.out.below hb2).alloc _
  have f0 : (w2.alloc (.cells #[.slice A3 2 c3, .slice A4 2 c4] 31)).cell? ⟨w1.heap.size, 0, none⟩ = some (.slice A1 2 c1) := v2.out.c0
  have f1 : (w2.alloc (.cells #[.slice A3 2 c3, .slice A4 2 c4] 31)).cell? ⟨w1.heap.size, 1, none⟩ = some (.slice A2 2 c2) := v2.out.c1
  clear b1 v1 b1' hn2 hu2 hb2
  go_wp2_with fail
  refine (reserve_n A1 A2 2 2 c1 c2 ex4 [0, 0] [5, 5] 1 5 (0, -1) 2 _ rfl rfl rfl rfl rfl v2.out.nds v2.out.ris (good4 (by decide) (by decide)) ⟨by decide, by decide⟩ (by decide) (by decide)).mono ?_
  rintro e w3 ⟨A5, c5, A6, c6, rfl, hn3, hu3, hb3⟩
  have b3 := below_step b2' hb3
  have b3' : Below w.heap.size w (w3.alloc (.cells #[.slice A5 2 c5, .slice A6 2 c6] 31)) := b3.alloc b3.size _
  have v3 : Hid (StV (w3.alloc (.cells #[.slice A5 2 c5, .slice A6 2 c6] 31)) w3.heap.size 31 A5 A6 2 2 c5 c6 ex4 [5, 5]) := StV.new hn3 hu3
  clear b2 v2 b2' hn3 hu3 hb3 f0 f1
  go_wp2_with fail
  refine (release_n A5 A6 2 2 c5 c6 ex4 [5, 5] [0, 0] 1 5 true 2 _ rfl rfl rfl rfl rfl v3.out.nds v3.out.ris (good4 (by decide) (by decide)) ⟨by decide, by decide⟩ (by decide) (by decide)).mono ?_
  rintro e w4 ⟨A7, c7, A8, c8, rfl, hn4, hu4, hb4⟩
  have b4 := below_step b3' hb4
  have b4' : Below w.heap.size w (w4.alloc (.cells #[.slice A7 2 c7, .slice A8 2 c8] 31)) := b4.alloc b4.size _
  have v4 : Hid (StV (w4.alloc (.cells #[.slice A7 2 c7, .slice A8 2 c8] 31)) w3.heap.size 31 A5 A6 2 2 c5 c6 ex4 [5, 5]) := (v3.out.below hb4).alloc _
  have v5 : Hid (StV (w4.alloc (.cells #[.slice A7 2 c7, .slice A8 2 c8] 31)) w4.heap.size 31 A7 A8 2 2 c7 c8 ex4 [0, 0]) := StV.new hn4 hu4
  have f0 : (w4.alloc (.cells #[.slice A7 2 c7, .slice A8 2 c8] 31)).cell? ⟨w3.heap.size, 0, none⟩ = some (.slice A5 2 c5) := v4.out.c0
  have f1 : (w4.alloc (.cells #[.slice A7 2 c7, .slice A8 2 c8] 31)).cell? ⟨w3.heap.size, 1, none⟩ = some (.slice A6 2 c6) := v4.out.c1
  obtain ⟨p1, q1, rfl, _, h1⟩ := Ris.at (i := 0) v4.out.ris (by decide)
  obtain ⟨p2, q2, rfl, _, h2⟩ := Ris.at (i := 0) v5.out.ris (by decide)
  have f2 : (w4.alloc (.cells #[.slice A7 2 c7, .slice (some ⟨p2, q2, none⟩) 2 c8] 31)).cell? ⟨p1, q1, none⟩ = some (.int .i64 5) := h1 0 (by decide)
  have f3 : (w4.alloc (.cells #[.slice A7 2 c7, .slice (some ⟨p2, q2, none⟩) 2 c8] 31)).cell? ⟨p2, q2 + 1, none⟩ = some (.int .i64 0) := h2 1 (by decide)
  clear b3 v3 b3' hn4 hu4 hb4 h1 h2
  go_wp2_with fail
  refine (right_n A5 (some ⟨p1, q1, none⟩) 2 2 c5 c6 ex4 [5, 5] _ rfl rfl v4.out.nds v4.out.ris (good4 (by decide) (by decide))).mono ?_
  rintro e w6 ⟨rfl, hb6⟩
  have b6 := below_step b4' hb6
  go_wp2_with fail
  go_ret
  exact madeB_mk rfl b6
end Go.Proofs.Ytlipkggcakgcnaa.Told4
