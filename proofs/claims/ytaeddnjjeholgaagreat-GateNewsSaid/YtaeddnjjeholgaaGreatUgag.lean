/- Texts side by side. -/
import Derived.WalkKit
import Derived.OpenShut
import Derived.Outline
import Derived.LoopTactic
import Derived.Deep.LoopGhost
import Derived.BigQuiet
import Derived.Deep.QuietTactic
import Derived.RegionTactic
import Derived.Deep.RegionLaw
import Derived.Deep.RegionHeld3
import Derived.Deep.DeepCutAuto
import Derived.Test.YtaeddnjjeholgaaGreatRows
import Derived.Test.YtaeddnjjeholgaaGreatUgaa
set_option linter.unusedVariables false
set_option linter.unusedSimpArgs false
set_option maxRecDepth 100000
set_option maxHeartbeats 16000000
namespace Go.Proofs.YtaeddnjjeholgaaGreat
open Go.ChangeShapes Go.WideShapes Go.ChangeAt Go.RowKit Mem
namespace Cel
def inR (n : Nat) (k : Int) : Bool := decide (0 ≤ k) && decide (k < n)
theorem inR_t {n : Nat} {k : Int} (h : 0 ≤ k) (h' : k < n) : inR n k = true := by unfold inR; simp [h, h']
theorem inR_f {n : Nat} {k : Int} (h : k < 0 ∨ n ≤ k) : inR n k = false := by unfold inR; simp; omega
theorem inR_of {n : Nat} {k : Int} (h : inR n k = true) : 0 ≤ k ∧ k < n := by unfold inR at h; simpa using h
structure S where
  ws : List Int
  hs : List Int
  t : Int
def swF (xs : List Int) (t a old v : Int) : Bool × List Int × Int :=
  if inR xs.length a = true then (if gI xs a.toNat = old then (true, xs.set a.toNat v, wrap64 (t + 1)) else (false, xs, wrap64 (t + 1))) else (false, xs, t)
def loadF (s : S) (a : Int) : Int × S := if inR s.ws.length a = true then (gI s.ws a.toNat, ⟨s.ws, s.hs, wrap64 (s.t + 1)⟩) else (0, s)
def storeF (s : S) (a v : Int) : S := if inR s.ws.length a = true then ⟨s.ws.set a.toNat v, s.hs, wrap64 (s.t + 1)⟩ else s
def latF (s : S) (who a old v : Int) : Bool × S := if 0 ≤ who then ((swF s.hs s.t a old v).1, ⟨s.ws, (swF s.hs s.t a old v).2.1, (swF s.hs s.t a old v).2.2⟩) else (false, s)
def takeF (s : S) (who a : Int) : Bool × S := latF s who a (-1) who
def freeF (s : S) (who a : Int) : Bool × S := latF s who a who (-1)
def peekF (s : S) (a : Int) : Int := if inR s.ws.length a = true then gI s.ws a.toNat else 0
theorem ints_set (xs : List Int) (i : Nat) (v : Int) : (ints xs).set i (.int .i64 v) = ints (xs.set i v) := by simp [ints]
theorem gI_lt {xs : List Int} {i : Nat} (h : i < xs.length) : (ints xs)[i]? = some (.int .i64 (gI xs i)) := by simp [ints, gI, h]
theorem blk_set {w : World} {g : Nat} {te : TypeId} {cs : Array Value} (h : Blk w g te cs) (i : Nat) (u : Value) : Blk (w.setCell ⟨g, i, none⟩ u) g te (cs.setIfInBounds i u) := by
  unfold Blk at h ⊢
  simp [World.setCell, Array.getElem?_modify, h]
theorem blk_far {w : World} {g g' : Nat} {te : TypeId} {cs : Array Value} (h : Blk w g te cs) (hne : g ≠ g') {i : Nat} (u : Value) : Blk (w.setCell ⟨g', i, none⟩ u) g te cs :=
  (Below.heap_setCell w ⟨g', i, none⟩ u g hne).trans h
theorem below_step {a b c : World} (h : Below a.heap.size a b) (k : Below b.heap.size b c) : Below a.heap.size a c := h.trans (k.mono h.size)
theorem blk_ints_set {w : World} {g : Nat} {te : TypeId} {xs : List Int} (h : Blk w g te (ints xs).toArray) (i : Nat) (v : Int) : Blk (w.setCell ⟨g, i, none⟩ (.int .i64 v)) g te (ints (xs.set i v)).toArray := by
  have := blk_set h i (.int .i64 v)
  rwa [List.setIfInBounds_toArray, ints_set] at this
theorem blk_ints_cell {w : World} {g : Nat} {te : TypeId} {xs : List Int} (h : Blk w g te (ints xs).toArray) {i : Nat} (hi : i < xs.length) : w.cell? ⟨g, i, none⟩ = some (.int .i64 (gI xs i)) := by
  rw [h.cell]
  simpa using gI_lt hi
structure Kept (g gw gh : Nat) (w w' : World) : Prop where
  os : w'.os = w.os
  tape : w'.tape = w.tape
  output : w'.output = w.output
  size : w.heap.size ≤ w'.heap.size
  block : ∀ k, k < w.heap.size → k ≠ g → k ≠ gw → k ≠ gh → w'.heap[k]? = w.heap[k]?
theorem Kept.refl (g gw gh : Nat) (w : World) : Kept g gw gh w w := ⟨rfl, rfl, rfl, Nat.le_refl _, fun _ _ _ _ _ => rfl⟩
theorem Kept.trans {g gw gh : Nat} {a b c : World} (h : Kept g gw gh a b) (k : Kept g gw gh b c) : Kept g gw gh a c :=
  ⟨k.os.trans h.os, k.tape.trans h.tape, k.output.trans h.output, Nat.le_trans h.size k.size, fun i hi h1 h2 h3 => (k.block i (Nat.lt_of_lt_of_le hi h.size) h1 h2 h3).trans (h.block i hi h1 h2 h3)⟩
theorem Kept.of_below {g gw gh : Nat} {w w' : World} (h : Below w.heap.size w w') : Kept g gw gh w w' := ⟨h.os, h.tape, h.output, h.size, fun k hk _ _ _ => h.block k hk⟩
theorem Kept.below {g gw gh B : Nat} {w w' : World} (h : Kept g gw gh w w') (hB : B ≤ w.heap.size) (h1 : B ≤ g) (h2 : B ≤ gw) (h3 : B ≤ gh) : Below B w w' :=
  ⟨h.os, h.tape, h.output, h.size, fun k hk => h.block k (by omega) (by omega) (by omega) (by omega)⟩
theorem Kept.setCell {g gw gh : Nat} {w w' : World} (h : Kept g gw gh w w') {p : Addr} (hp : p.block = g ∨ p.block = gw ∨ p.block = gh) (u : Value) : Kept g gw gh w (w'.setCell p u) :=
  h.trans ⟨rfl, rfl, rfl, by simp [World.setCell], fun k hk h1 h2 h3 => Below.heap_setCell _ _ _ _ (by omega)⟩
theorem Kept.blk {g gw gh k : Nat} {w w' : World} {te : TypeId} {cs : Array Value} (h : Kept g gw gh w w') (hk : Blk w k te cs) (h1 : k ≠ g) (h2 : k ≠ gw) (h3 : k ≠ gh) : Blk w' k te cs := (h.block k hk.lt h1 h2 h3).trans hk
structure Cs (w : World) (te : TypeId) (g gw gh : Nat) (s : S) : Prop where
  c : Blk w g te #[.slice (some ⟨gw, 0, none⟩) s.ws.length s.ws.length, .slice (some ⟨gh, 0, none⟩) s.hs.length s.hs.length, .int .i64 s.t]
  cw : Blk w gw 2 (ints s.ws).toArray
  ch : Blk w gh 3 (ints s.hs).toArray
  n1 : g ≠ gw
  n2 : g ≠ gh
  n3 : gw ≠ gh
theorem Cs.below {w w' : World} {te : TypeId} {g gw gh : Nat} {s : S} (h : Cs w te g gw gh s) (hb : Below w.heap.size w w') : Cs w' te g gw gh s :=
  ⟨h.c.below' hb, h.cw.below' hb, h.ch.below' hb, h.n1, h.n2, h.n3⟩
theorem Cs.kept {w w' : World} {te : TypeId} {g gw gh r rw rh : Nat} {s : S} (h : Cs w te g gw gh s) (hk : Kept r rw rh w w') (m : Nat) (hm : (g < m ∧ gw < m ∧ gh < m ∧ m ≤ r ∧ m ≤ rw ∧ m ≤ rh) ∨ (r < m ∧ rw < m ∧ rh < m ∧ m ≤ g ∧ m ≤ gw ∧ m ≤ gh)) : Cs w' te g gw gh s :=
  ⟨hk.blk h.c (by omega) (by omega) (by omega), hk.blk h.cw (by omega) (by omega) (by omega), hk.blk h.ch (by omega) (by omega) (by omega), h.n1, h.n2, h.n3⟩
theorem Cs.setT {w : World} {te : TypeId} {g gw gh : Nat} {s : S} (h : Cs w te g gw gh s) (t : Int) : Cs (w.setCell ⟨g, 2, none⟩ (.int .i64 t)) te g gw gh ⟨s.ws, s.hs, t⟩ :=
  ⟨by have := blk_set h.c 2 (.int .i64 t); simpa using this, blk_far h.cw h.n1.symm _, blk_far h.ch h.n2.symm _, h.n1, h.n2, h.n3⟩
theorem Cs.setW {w : World} {te : TypeId} {g gw gh : Nat} {s : S} (h : Cs w te g gw gh s) (i : Nat) (v : Int) : Cs (w.setCell ⟨gw, i, none⟩ (.int .i64 v)) te g gw gh ⟨s.ws.set i v, s.hs, s.t⟩ :=
  ⟨by have := blk_far h.c h.n1 (i := i) (.int .i64 v); simpa using this, blk_ints_set h.cw i v, blk_far h.ch h.n3.symm _, h.n1, h.n2, h.n3⟩
theorem Cs.setH {w : World} {te : TypeId} {g gw gh : Nat} {s : S} (h : Cs w te g gw gh s) (i : Nat) (v : Int) : Cs (w.setCell ⟨gh, i, none⟩ (.int .i64 v)) te g gw gh ⟨s.ws, s.hs.set i v, s.t⟩ :=
  ⟨by have := blk_far h.c h.n2 (i := i) (.int .i64 v); simpa using this, blk_far h.cw h.n3 _, blk_ints_set h.ch i v, h.n1, h.n2, h.n3⟩
end Cel
namespace Cm
open Cel
def swW (g gl : Nat) (xs : List Int) (t a old v : Int) (w : World) : World :=
  if inR xs.length a = true then (if gI xs a.toNat = old then ((w.setCell ⟨g, 2, none⟩ (.int .i64 (wrap64 (t + 1)))).setCell ⟨gl, a.toNat, none⟩ (.int .i64 v)) else (w.setCell ⟨g, 2, none⟩ (.int .i64 (wrap64 (t + 1))))) else w
def ToldSw (g gl : Nat) (xs : List Int) (t a old v : Int) (w : World) (e : Ending) (w' : World) : Prop := e = .returned (.bool (swF xs t a old v).1) ∧ w' = swW g gl xs t a old v w
theorem sw_out {g gl : Nat} {xs : List Int} {t a old v : Int} {w : World} (h : inR xs.length a = false) : ToldSw g gl xs t a old v w (.returned (.bool false)) w := by
  unfold ToldSw swF swW; simp [h]
theorem sw_yes {g gl : Nat} {xs : List Int} {t old v : Int} {i : Nat} {w : World} (h : inR xs.length i = true) (he : gI xs i = old) : ToldSw g gl xs t i old v w (.returned (.bool true)) ((w.setCell ⟨g, 2, none⟩ (.int .i64 (wrap64 (t + 1)))).setCell ⟨gl, i, none⟩ (.int .i64 v)) := by
  unfold ToldSw swF swW; simp [h, he]
theorem sw_no {g gl : Nat} {xs : List Int} {t old v : Int} {i : Nat} {w : World} (h : inR xs.length i = true) (he : ¬ gI xs i = old) : ToldSw g gl xs t i old v w (.returned (.bool false)) (w.setCell ⟨g, 2, none⟩ (.int .i64 (wrap64 (t + 1)))) := by
  unfold ToldSw swF swW; simp [h, he]
def ToldB (b : Bool) (w : World) (e : Ending) (w' : World) : Prop := e = .returned (.bool b) ∧ w = w'
theorem hasW_any (A : Option Addr) (n c : Nat) (k : Int) (w : World) :
    Calls Tryz.prog 71 #[.slice A n c, .int .i64 k] w (ToldB (inR n k) w) := by
  by_cases h0 : 0 ≤ k
  · by_cases h1 : k < n
    · go_enter Tryz.func71, Tryz.ntmps71
      go_wp2
      go_ret
      exact ⟨by rw [inR_t h0 h1]; rfl, rfl⟩
    · go_enter Tryz.func71, Tryz.ntmps71
      go_wp2
      go_ret
      exact ⟨by rw [inR_f (by omega)]; rfl, rfl⟩
  · go_enter Tryz.func71, Tryz.ntmps71
    go_wp2
    go_ret
    exact ⟨by rw [inR_f (by omega)]; rfl, rfl⟩
theorem hasH_any (A : Option Addr) (n c : Nat) (k : Int) (w : World) :
    Calls Tryz.prog 185 #[.slice A n c, .int .i64 k] w (ToldB (inR n k) w) := by
  by_cases h0 : 0 ≤ k
  · by_cases h1 : k < n
    · go_enter Tryz.func185, Tryz.ntmps185
      go_wp2
      go_ret
      exact ⟨by rw [inR_t h0 h1]; rfl, rfl⟩
    · go_enter Tryz.func185, Tryz.ntmps185
      go_wp2
      go_ret
      exact ⟨by rw [inR_f (by omega)]; rfl, rfl⟩
  · go_enter Tryz.func185, Tryz.ntmps185
    go_wp2
    go_ret
    exact ⟨by rw [inR_f (by omega)]; rfl, rfl⟩
theorem swapH_any (g gl : Nat) (a b : Value) (t at' old v : Int) (xs : List Int) (w : World) (hk : Hid (Blk w g 147 #[a, b, .int .i64 t])) (hl : Hid (Blk w gl 3 (ints xs).toArray)) (hne : g ≠ gl) (hmax : (xs.length : Int) ≤ 9223372036854775807) :
    Calls Tryz.prog 176 #[.pointer (some ⟨g, 0, none⟩), .slice (some ⟨gl, 0, none⟩) xs.length xs.length, .int .i64 at', .int .i64 old, .int .i64 v] w
      (ToldSw g gl xs t at' old v w) := by
  have s2 : w.cell? ⟨g, 2, none⟩ = some (.int .i64 t) := hk.out.cell 2
  have z2 : w.frozen? ⟨g, 2, none⟩ = false := hk.out.thaw 2
  cases hr : inR xs.length at' with
  | false =>
    have HR := Lib.hid hr
    go_enter Tryz.func176, Tryz.ntmps176
    go_wp2_with (go_at_call 185; refine (hasH_any _ _ _ _ _).mono ?_; rintro e w9 ⟨rfl, rfl⟩)
    go_ret
    exact sw_out HR.out
  | true =>
    obtain ⟨r0, r1⟩ := inR_of hr
    obtain ⟨i, rfl⟩ : ∃ i : Nat, at' = i := ⟨at'.toNat, by omega⟩
    have hi : i < xs.length := by omega
    have k1 : Hid (Blk (w.setCell ⟨g, 2, none⟩ (.int .i64 (wrap64 (t + 1)))) gl 3 (ints xs).toArray) := blk_far hl.out hne.symm _
    have d0 : (w.setCell ⟨g, 2, none⟩ (.int .i64 (wrap64 (t + 1)))).cell? ⟨gl, i, none⟩ = some (.int .i64 (gI xs i)) := blk_ints_cell k1.out hi
    have d1 : (w.setCell ⟨g, 2, none⟩ (.int .i64 (wrap64 (t + 1)))).frozen? ⟨gl, i, none⟩ = false := k1.out.thaw i
    have HR := Lib.hid hr
    by_cases he : gI xs i = old
    · have e1 : Hid ((swF xs t i old v).1 = true) := by show _ = _; unfold swF; simp [hr, he]
      have e2 : (gI xs i != old) = false := by simp [he]
      have HE := Lib.hid he
      clear he r0
      go_enter Tryz.func176, Tryz.ntmps176
      go_wp2_with (go_at_call 185; refine (hasH_any _ _ _ _ _).mono ?_; rintro e w9 ⟨rfl, rfl⟩)
      go_ret
      exact sw_yes HR.out HE.out
    · have e1 : Hid ((swF xs t i old v).1 = false) := by show _ = _; unfold swF; simp [hr, he]
      have e2 : (gI xs i != old) = true := by simp [he]
      have HE := Lib.hid he
      clear he r0
      go_enter Tryz.func176, Tryz.ntmps176
      go_wp2_with (go_at_call 185; refine (hasH_any _ _ _ _ _).mono ?_; rintro e w9 ⟨rfl, rfl⟩)
      go_ret
      exact sw_no HR.out HE.out
end Cm
namespace Cn
open Cel Cm
def MadeC (te : TypeId) (g gw gh : Nat) (v : Value) (s' : S) (w : World) (e : Ending) (w' : World) : Prop := e = .returned v ∧ Cs w' te g gw gh s' ∧ Kept g gw gh w w'
def ToldV (v : Value) (w : World) (e : Ending) (w' : World) : Prop := e = .returned v ∧ w = w'
theorem toldV_mk {v v' : Value} {w : World} (h : v = v') : ToldV v w (.returned v') w := by subst h; exact ⟨rfl, rfl⟩
theorem kept_t {g gw gh : Nat} {w w' : World} (h : Kept g gw gh w w') (i : Nat) (u : Value) : Kept g gw gh w (w'.setCell ⟨g, i, none⟩ u) := h.setCell (p := ⟨g, i, none⟩) (.inl rfl) u
theorem kept_w {g gw gh : Nat} {w w' : World} (h : Kept g gw gh w w') (i : Nat) (u : Value) : Kept g gw gh w (w'.setCell ⟨gw, i, none⟩ u) := h.setCell (p := ⟨gw, i, none⟩) (.inr (.inl rfl)) u
theorem kept_h {g gw gh : Nat} {w w' : World} (h : Kept g gw gh w w') (i : Nat) (u : Value) : Kept g gw gh w (w'.setCell ⟨gh, i, none⟩ u) := h.setCell (p := ⟨gh, i, none⟩) (.inr (.inr rfl)) u
section
variable {w : World} {te : TypeId} {g gw gh : Nat} {s : S}
theorem cs_swH (h : Cs w te g gw gh s) (a old v : Int) : Cs (swW g gh s.hs s.t a old v w) te g gw gh ⟨s.ws, (swF s.hs s.t a old v).2.1, (swF s.hs s.t a old v).2.2⟩ ∧ Kept g gw gh w (swW g gh s.hs s.t a old v w) := by
  unfold swW swF
  split
  · split
    · exact ⟨(h.setT _).setH _ _, kept_h (kept_t (Kept.refl _ _ _ _) _ _) _ _⟩
    · exact ⟨h.setT _, kept_t (Kept.refl _ _ _ _) _ _⟩
  · exact ⟨h, Kept.refl _ _ _ _⟩
theorem madeC_mk {v v' : Value} {s' s'' : S} {w' : World} (hv : v = v') (hs : s' = s'') (h : Cs w' te g gw gh s'') (hk : Kept g gw gh w w') : MadeC te g gw gh v s' w (.returned v') w' := by
  subst hv; subst hs; exact ⟨rfl, h, hk⟩
end
theorem time_any (g gw gh : Nat) (s : S) (w : World) (h : Hid (Cs w 147 g gw gh s)) (m1 : (s.ws.length : Int) ≤ 9223372036854775807) (m2 : (s.hs.length : Int) ≤ 9223372036854775807) :
    Calls Tryz.prog 73 #[.pointer (some ⟨g, 0, none⟩)] w (ToldV (.int .i64 s.t) w) := by
  have c0 : w.cell? ⟨g, 0, none⟩ = some (.slice (some ⟨gw, 0, none⟩) s.ws.length s.ws.length) := h.out.c.cell 0
  have c1 : w.cell? ⟨g, 1, none⟩ = some (.slice (some ⟨gh, 0, none⟩) s.hs.length s.hs.length) := h.out.c.cell 1
  have c2 : w.cell? ⟨g, 2, none⟩ = some (.int .i64 s.t) := h.out.c.cell 2
  have z2 : w.frozen? ⟨g, 2, none⟩ = false := h.out.c.thaw 2
  go_enter Tryz.func73, Tryz.ntmps73
  go_wp2
  go_ret
  exact toldV_mk rfl
theorem peek_any (g gw gh : Nat) (s : S) (a : Int) (w : World) (h : Hid (Cs w 147 g gw gh s)) (m1 : (s.ws.length : Int) ≤ 9223372036854775807) (m2 : (s.hs.length : Int) ≤ 9223372036854775807) :
    Calls Tryz.prog 50 #[.pointer (some ⟨g, 0, none⟩), .int .i64 a] w (ToldV (.int .i64 (peekF s a)) w) := by
  have c0 : w.cell? ⟨g, 0, none⟩ = some (.slice (some ⟨gw, 0, none⟩) s.ws.length s.ws.length) := h.out.c.cell 0
  have c1 : w.cell? ⟨g, 1, none⟩ = some (.slice (some ⟨gh, 0, none⟩) s.hs.length s.hs.length) := h.out.c.cell 1
  have c2 : w.cell? ⟨g, 2, none⟩ = some (.int .i64 s.t) := h.out.c.cell 2
  have z2 : w.frozen? ⟨g, 2, none⟩ = false := h.out.c.thaw 2
  cases hr : inR s.ws.length a with
  | false =>
    have e1 : Hid (peekF s a = 0) := by show _ = _; unfold peekF; simp [hr]
    go_enter Tryz.func50, Tryz.ntmps50
    go_wp2_with (go_at_call 71; refine (hasW_any _ _ _ _ _).mono ?_; rintro e w9 ⟨rfl, rfl⟩)
    go_ret
    exact toldV_mk (congrArg (Value.int .i64) e1.out)
  | true =>
    obtain ⟨r0, r1⟩ := inR_of hr
    obtain ⟨i, rfl⟩ : ∃ i : Nat, a = i := ⟨a.toNat, by omega⟩
    have hi : i < s.ws.length := by omega
    have d0 : w.cell? ⟨gw, i, none⟩ = some (.int .i64 (gI s.ws i)) := blk_ints_cell h.out.cw hi
    have e1 : Hid (peekF s i = gI s.ws i) := by show _ = _; unfold peekF; simp [hr]
    clear r0
    go_enter Tryz.func50, Tryz.ntmps50
    go_wp2_with (go_at_call 71; refine (hasW_any _ _ _ _ _).mono ?_; rintro e w9 ⟨rfl, rfl⟩)
    go_ret
    exact toldV_mk (congrArg (Value.int .i64) e1.out)
theorem load_any (g gw gh : Nat) (s : S) (a : Int) (w : World) (h : Hid (Cs w 147 g gw gh s)) (m1 : (s.ws.length : Int) ≤ 9223372036854775807) (m2 : (s.hs.length : Int) ≤ 9223372036854775807) :
    Calls Tryz.prog 167 #[.pointer (some ⟨g, 0, none⟩), .int .i64 a] w (MadeC 147 g gw gh (.int .i64 (loadF s a).1) (loadF s a).2 w) := by
  have c0 : w.cell? ⟨g, 0, none⟩ = some (.slice (some ⟨gw, 0, none⟩) s.ws.length s.ws.length) := h.out.c.cell 0
  have c1 : w.cell? ⟨g, 1, none⟩ = some (.slice (some ⟨gh, 0, none⟩) s.hs.length s.hs.length) := h.out.c.cell 1
  have c2 : w.cell? ⟨g, 2, none⟩ = some (.int .i64 s.t) := h.out.c.cell 2
  have z2 : w.frozen? ⟨g, 2, none⟩ = false := h.out.c.thaw 2
  cases hr : inR s.ws.length a with
  | false =>
    have e1 : Hid (loadF s a = (0, s)) := by show _ = _; unfold loadF; simp [hr]
    go_enter Tryz.func167, Tryz.ntmps167
    go_wp2_with (go_at_call 71; refine (hasW_any _ _ _ _ _).mono ?_; rintro e w9 ⟨rfl, rfl⟩)
    go_ret
    exact madeC_mk (congrArg (fun p => Value.int .i64 p.1) e1.out) (congrArg (fun p => p.2) e1.out) h.out (Kept.refl _ _ _ _)
  | true =>
    obtain ⟨r0, r1⟩ := inR_of hr
    obtain ⟨i, rfl⟩ : ∃ i : Nat, a = i := ⟨a.toNat, by omega⟩
    have hi : i < s.ws.length := by omega
    have h2 := Lib.hid (h.out.setT (wrap64 (s.t + 1)))
    have d0 : (w.setCell ⟨g, 2, none⟩ (.int .i64 (wrap64 (s.t + 1)))).cell? ⟨gw, i, none⟩ = some (.int .i64 (gI s.ws i)) := blk_ints_cell h2.out.cw hi
    have d1 : (w.setCell ⟨g, 2, none⟩ (.int .i64 (wrap64 (s.t + 1)))).cell? ⟨g, 0, none⟩ = some (.slice (some ⟨gw, 0, none⟩) s.ws.length s.ws.length) := h2.out.c.cell 0
    have e1 : Hid (loadF s i = (gI s.ws i, ⟨s.ws, s.hs, wrap64 (s.t + 1)⟩)) := by show _ = _; unfold loadF; simp [hr]
    clear r0
    go_enter Tryz.func167, Tryz.ntmps167
    go_wp2_with (go_at_call 71; refine (hasW_any _ _ _ _ _).mono ?_; rintro e w9 ⟨rfl, rfl⟩)
    go_ret
    exact madeC_mk (congrArg (fun p => Value.int .i64 p.1) e1.out) (congrArg (fun p => p.2) e1.out) h2.out (kept_t (Kept.refl _ _ _ _) _ _)
theorem store_any (g gw gh : Nat) (s : S) (a v : Int) (w : World) (h : Hid (Cs w 147 g gw gh s)) (m1 : (s.ws.length : Int) ≤ 9223372036854775807) (m2 : (s.hs.length : Int) ≤ 9223372036854775807) :
    Calls Tryz.prog 38 #[.pointer (some ⟨g, 0, none⟩), .int .i64 a, .int .i64 v] w (MadeC 147 g gw gh (.tuple #[]) (storeF s a v) w) := by
  have c0 : w.cell? ⟨g, 0, none⟩ = some (.slice (some ⟨gw, 0, none⟩) s.ws.length s.ws.length) := h.out.c.cell 0
  have c1 : w.cell? ⟨g, 1, none⟩ = some (.slice (some ⟨gh, 0, none⟩) s.hs.length s.hs.length) := h.out.c.cell 1
  have c2 : w.cell? ⟨g, 2, none⟩ = some (.int .i64 s.t) := h.out.c.cell 2
  have z2 : w.frozen? ⟨g, 2, none⟩ = false := h.out.c.thaw 2
  cases hr : inR s.ws.length a with
  | false =>
    have e1 : Hid (storeF s a v = s) := by show _ = _; unfold storeF; simp [hr]
    go_enter Tryz.func38, Tryz.ntmps38
    go_wp2_with (go_at_call 71; refine (hasW_any _ _ _ _ _).mono ?_; rintro e w9 ⟨rfl, rfl⟩)
    exact bodyPost_ret (v := .tuple #[]) (by simp [results, Tryz.results38, go_sem]) rfl (madeC_mk rfl e1.out h.out (Kept.refl _ _ _ _))
  | true =>
    obtain ⟨r0, r1⟩ := inR_of hr
    obtain ⟨i, rfl⟩ : ∃ i : Nat, a = i := ⟨a.toNat, by omega⟩
    have hi : i < s.ws.length := by omega
    have h2 := Lib.hid (h.out.setT (wrap64 (s.t + 1)))
    have d0 : (w.setCell ⟨g, 2, none⟩ (.int .i64 (wrap64 (s.t + 1)))).cell? ⟨gw, i, none⟩ = some (.int .i64 (gI s.ws i)) := blk_ints_cell h2.out.cw hi
    have d1 : (w.setCell ⟨g, 2, none⟩ (.int .i64 (wrap64 (s.t + 1)))).cell? ⟨g, 0, none⟩ = some (.slice (some ⟨gw, 0, none⟩) s.ws.length s.ws.length) := h2.out.c.cell 0
    have d2 : (w.setCell ⟨g, 2, none⟩ (.int .i64 (wrap64 (s.t + 1)))).frozen? ⟨gw, i, none⟩ = false := h2.out.cw.thaw i
    have e1 : Hid (storeF s i v = ⟨s.ws.set i v, s.hs, wrap64 (s.t + 1)⟩) := by show _ = _; unfold storeF; simp [hr]
    clear r0
    go_enter Tryz.func38, Tryz.ntmps38
    go_wp2_with (go_at_call 71; refine (hasW_any _ _ _ _ _).mono ?_; rintro e w9 ⟨rfl, rfl⟩)
    exact bodyPost_ret (v := .tuple #[]) (by simp [results, Tryz.results38, go_sem]) rfl (madeC_mk rfl e1.out (h2.out.setW i v) (kept_w (kept_t (Kept.refl _ _ _ _) _ _) _ _))
theorem take_any (g gw gh : Nat) (s : S) (who a : Int) (w : World) (h : Hid (Cs w 147 g gw gh s)) (m1 : (s.ws.length : Int) ≤ 9223372036854775807) (m2 : (s.hs.length : Int) ≤ 9223372036854775807) :
    Calls Tryz.prog 152 #[.pointer (some ⟨g, 0, none⟩), .int .i64 who, .int .i64 a] w (MadeC 147 g gw gh (.bool (takeF s who a).1) (takeF s who a).2 w) := by
  have c0 : w.cell? ⟨g, 0, none⟩ = some (.slice (some ⟨gw, 0, none⟩) s.ws.length s.ws.length) := h.out.c.cell 0
  have c1 : w.cell? ⟨g, 1, none⟩ = some (.slice (some ⟨gh, 0, none⟩) s.hs.length s.hs.length) := h.out.c.cell 1
  have c2 : w.cell? ⟨g, 2, none⟩ = some (.int .i64 s.t) := h.out.c.cell 2
  have z2 : w.frozen? ⟨g, 2, none⟩ = false := h.out.c.thaw 2
  have k1 : Hid (Blk w g 147 #[.slice (some ⟨gw, 0, none⟩) s.ws.length s.ws.length, .slice (some ⟨gh, 0, none⟩) s.hs.length s.hs.length, .int .i64 s.t]) := h.out.c
  have k2 : Hid (Blk w gh 3 (ints s.hs).toArray) := h.out.ch
  have n1 : Hid (g ≠ gh) := h.out.n2
  by_cases h0 : 0 ≤ who
  · have e1 : Hid (takeF s who a = ((swF s.hs s.t a (-1) who).1, ⟨s.ws, (swF s.hs s.t a (-1) who).2.1, (swF s.hs s.t a (-1) who).2.2⟩)) := by show _ = _; unfold takeF latF; simp [h0]
    go_enter Tryz.func152, Tryz.ntmps152
    go_wp2_with (go_at_call 176; refine (swapH_any _ _ _ _ _ _ _ _ _ _ k1 k2 n1.out m2).mono ?_; rintro e w9 ⟨rfl, rfl⟩)
    go_ret
    exact madeC_mk (congrArg (fun p => Value.bool p.1) e1.out) (congrArg (fun p => p.2) e1.out) (cs_swH h.out a (-1) who).1 (cs_swH h.out a (-1) who).2
  · have e1 : Hid (takeF s who a = (false, s)) := by show _ = _; unfold takeF latF; simp [h0]
    go_enter Tryz.func152, Tryz.ntmps152
    go_wp2_with fail
    go_ret
    exact madeC_mk (congrArg (fun p => Value.bool p.1) e1.out) (congrArg (fun p => p.2) e1.out) h.out (Kept.refl _ _ _ _)
theorem free_any (g gw gh : Nat) (s : S) (who a : Int) (w : World) (h : Hid (Cs w 147 g gw gh s)) (m1 : (s.ws.length : Int) ≤ 9223372036854775807) (m2 : (s.hs.length : Int) ≤ 9223372036854775807) :
    Calls Tryz.prog 160 #[.pointer (some ⟨g, 0, none⟩), .int .i64 who, .int .i64 a] w (MadeC 147 g gw gh (.bool (freeF s who a).1) (freeF s who a).2 w) := by
  have c0 : w.cell? ⟨g, 0, none⟩ = some (.slice (some ⟨gw, 0, none⟩) s.ws.length s.ws.length) := h.out.c.cell 0
  have c1 : w.cell? ⟨g, 1, none⟩ = some (.slice (some ⟨gh, 0, none⟩) s.hs.length s.hs.length) := h.out.c.cell 1
  have c2 : w.cell? ⟨g, 2, none⟩ = some (.int .i64 s.t) := h.out.c.cell 2
  have z2 : w.frozen? ⟨g, 2, none⟩ = false := h.out.c.thaw 2
  have k1 : Hid (Blk w g 147 #[.slice (some ⟨gw, 0, none⟩) s.ws.length s.ws.length, .slice (some ⟨gh, 0, none⟩) s.hs.length s.hs.length, .int .i64 s.t]) := h.out.c
  have k2 : Hid (Blk w gh 3 (ints s.hs).toArray) := h.out.ch
  have n1 : Hid (g ≠ gh) := h.out.n2
  by_cases h0 : 0 ≤ who
  · have e1 : Hid (freeF s who a = ((swF s.hs s.t a who (-1)).1, ⟨s.ws, (swF s.hs s.t a who (-1)).2.1, (swF s.hs s.t a who (-1)).2.2⟩)) := by show _ = _; unfold freeF latF; simp [h0]
    go_enter Tryz.func160, Tryz.ntmps160
    go_wp2_with (go_at_call 176; refine (swapH_any _ _ _ _ _ _ _ _ _ _ k1 k2 n1.out m2).mono ?_; rintro e w9 ⟨rfl, rfl⟩)
    go_ret
    exact madeC_mk (congrArg (fun p => Value.bool p.1) e1.out) (congrArg (fun p => p.2) e1.out) (cs_swH h.out a who (-1)).1 (cs_swH h.out a who (-1)).2
  · have e1 : Hid (freeF s who a = (false, s)) := by show _ = _; unfold freeF latF; simp [h0]
    go_enter Tryz.func160, Tryz.ntmps160
    go_wp2_with fail
    go_ret
    exact madeC_mk (congrArg (fun p => Value.bool p.1) e1.out) (congrArg (fun p => p.2) e1.out) h.out (Kept.refl _ _ _ _)
end Cn
end Go.Proofs.YtaeddnjjeholgaaGreat
