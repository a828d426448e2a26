/- Texts side by side. -/
import Derived.Test.YtaeddnjjeholgaaGreatUgar
set_option linter.unusedVariables false
set_option linter.unusedSimpArgs false
set_option maxRecDepth 100000
set_option maxHeartbeats 16000000
namespace Go.Proofs.YtaeddnjjeholgaaGreat
open Kap Go.ChangeShapes Go.WideShapes Go.ChangeAt Go.RowKit Go.Lib Mem Cel Gow
namespace Gmk
open Cm Cn
def bx (w : World) (v : Value) (t : TypeId) : World := w.alloc (.cells #[v] t)
theorem make_f : ∀ (fn : Fn) (first cap : Array Value) (w : World), (Instr.makeFunc fn first cap).run Tryz.prog w = .ok (.func fn first cap) w := fun _ _ _ _ => rfl
theorem take_any (l : Int) (g : Nat) (w : World) : Calls Tryz.prog 108 #[pv g, .int .i64 l] w
    (ToldV (.func (.func 151) #[] #[pv w.heap.size, pv (w.heap.size + 1)]) (bx (bx w (pv g) 46) (.int .i64 l) 3)) := by
  have hmf := make_f
  unfold bx pv
  go_enter Tryz.func108, Tryz.ntmps108
  go_wp2
  go_ret
  exact toldV_mk rfl
theorem free_any (l : Int) (g : Nat) (w : World) : Calls Tryz.prog 118 #[pv g, .int .i64 l] w
    (ToldV (.func (.func 159) #[] #[pv w.heap.size, pv (w.heap.size + 1)]) (bx (bx w (pv g) 46) (.int .i64 l) 3)) := by
  have hmf := make_f
  unfold bx pv
  go_enter Tryz.func118, Tryz.ntmps118
  go_wp2
  go_ret
  exact toldV_mk rfl
theorem store_any (a v : Int) (g : Nat) (w : World) : Calls Tryz.prog 142 #[pv g, .int .i64 a, .int .i64 v] w
    (ToldV (.func (.func 173) #[] #[pv w.heap.size, pv (w.heap.size + 1), pv (w.heap.size + 1 + 1)]) (bx (bx (bx w (pv g) 46) (.int .i64 a) 3) (.int .i64 v) 2)) := by
  have hmf := make_f
  unfold bx pv
  go_enter Tryz.func142, Tryz.ntmps142
  go_wp2
  go_ret
  exact toldV_mk rfl
theorem load_any (a : Int) (k : Nat) (cap : Array Value) (g : Nat) (w : World) : Calls Tryz.prog 130 #[pv g, .int .i64 a, .func (.func k) #[] cap] w
    (ToldV (.func (.func 166) #[] #[pv (w.heap.size + 1 + 1), pv w.heap.size, pv (w.heap.size + 1)]) (bx (bx (bx w (pv g) 46) (.int .i64 a) 3) (.func (.func k) #[] cap) 204)) := by
  have hmf := make_f
  unfold bx pv
  go_enter Tryz.func130, Tryz.ntmps130
  go_wp2
  go_ret
  exact toldV_mk rfl
theorem after_any (k j : Nat) (cf cd : Array Value) (w : World) : Calls Tryz.prog 122 #[.func (.func k) #[] cf, .func (.func j) #[] cd] w
    (ToldV (.func (.func 161) #[] #[pv w.heap.size, pv (w.heap.size + 1)]) (bx (bx w (.func (.func k) #[] cf) 126) (.func (.func j) #[] cd) 1)) := by
  have hmf := make_f
  unfold bx pv
  go_enter Tryz.func122, Tryz.ntmps122
  go_wp2
  go_ret
  exact toldV_mk rfl
def lookW (w : World) (p : Int) (k : Nat) (cap : Array Value) (g : Nat) : World :=
  bx (bx (bx (bx (bx (bx w (pv g) 46) (.int .i64 p) 3) (.func (.func k) #[] cap) 179) (pv g) 46) (.int .i64 0) 3) (.func (.func 145) #[] #[pv w.heap.size, pv (w.heap.size + 1), pv (w.heap.size + 1 + 1)]) 204
theorem look_any (p : Int) (k : Nat) (cap : Array Value) (g : Nat) (w : World) : Calls Tryz.prog 101 #[pv g, .int .i64 p, .func (.func k) #[] cap] w
    (ToldV (.func (.func 166) #[] #[pv (w.heap.size + 1 + 1 + 1 + 1 + 1), pv (w.heap.size + 1 + 1 + 1), pv (w.heap.size + 1 + 1 + 1 + 1)]) (lookW w p k cap g)) := by
  have hmf := make_f
  unfold lookW
  unfold bx pv
  go_enter Tryz.func101, Tryz.ntmps101
  go_wp2_with (go_at_call 130; refine (load_any _ _ _ _ _).mono ?_; rintro e w9 ⟨rfl, rfl⟩)
  go_ret
  unfold bx pv
  exact toldV_mk (by simp)
end Gmk
namespace Gac
open Bkp Bks Wpl Hpa Gpl Mdp Cfg
def B1 (ρ : Nat → Nat) (w : World) (b : Nat) (te : TypeId) (cs : Array Value) : Prop := Blk w b te cs ∧ ρ b = 0
def IsDec (ρ : Nat → Nat) (w : World) (g0 g : Nat) (gp : Option Nat) (d : Dec) (v : Value) : Prop :=
  match d with
  | .refuse c => ∃ b1 b2, v = .func (.func 102) #[] #[pv b1, pv b2] ∧ B1 ρ w b1 37 #[.int .i64 c] ∧ B1 ρ w b2 46 #[pv g]
  | .ord1 c => ∃ b1 b2, v = .func (.func 104) #[] #[pv b1, pv b2] ∧ B1 ρ w b1 37 #[.int .i64 c] ∧ B1 ρ w b2 46 #[pv g]
  | .ord2 o x s => ∃ b1 b2 b3 b4 b5 b6 p, v = .func (.func 113) #[] #[pv b1, pv b2, pv b3, pv b4, pv b5, pv b6] ∧ B1 ρ w b1 36 #[pv g0] ∧ B1 ρ w b2 51 (odV o).toArray ∧ B1 ρ w b3 2 #[.int .i64 x] ∧ (gp = some p ∧ B1 ρ w b4 184 #[pv p]) ∧ B1 ρ w b5 46 #[pv g] ∧ B1 ρ w b6 3 #[.int .i64 s]
  | .cancel id s => ∃ b1 b2 b3 b4, v = .func (.func 120) #[] #[pv b1, pv b2, pv b3, pv b4] ∧ B1 ρ w b1 36 #[pv g0] ∧ B1 ρ w b2 3 #[.int .i64 s] ∧ B1 ρ w b3 3 #[.int .i64 id] ∧ B1 ρ w b4 46 #[pv g]
  | .settle s x b => ∃ b1 b2 b3 b4 b5 b6 b7 p wa ia y, v = .func (.func 125) #[] #[pv b1, pv b2, pv b3, pv b4, pv b5, pv b6, pv b7] ∧ (B1 ρ w b1 63 (bxV y).toArray ∧ Bk0 ρ w y ∧ y.b = b) ∧ B1 ρ w b2 36 #[pv g0] ∧ B1 ρ w b3 3 #[.int .i64 s] ∧ (gp = some p ∧ B1 ρ w b4 184 #[pv p]) ∧ (B1 ρ w b5 162 (enV wa).toArray ∧ B1 ρ w b6 162 (enV ia).toArray ∧ x = wa.o.p * (wa.lf - ia.lf)) ∧ B1 ρ w b7 46 #[pv g]
  | .sweep s ep pl => ∃ b1 b2 b3 b4 b5, v = .func (.func 170) #[] #[pv b1, pv b2, pv b3, pv b4, pv b5] ∧ B1 ρ w b1 36 #[pv g0] ∧ B1 ρ w b2 3 #[.int .i64 s] ∧ B1 ρ w b3 2 #[.int .i64 ep] ∧ B1 ρ w b4 46 #[pv g] ∧ B1 ρ w b5 3 #[.int .i64 pl]
def IsSee (ρ : Nat → Nat) (w : World) (g0 g : Nat) (gp : Option Nat) (s : See) (v : Value) : Prop :=
  match s with
  | .used n => ∃ b1 b2 p, v = .func (.func 153) #[] #[pv b1, pv b2] ∧ (gp = some p ∧ B1 ρ w b1 184 #[pv p]) ∧ B1 ρ w b2 3 #[.int .i64 n]
  | .caps n => ∃ b1 b2 p, v = .func (.func 154) #[] #[pv b1, pv b2] ∧ (gp = some p ∧ B1 ρ w b1 184 #[pv p]) ∧ B1 ρ w b2 3 #[.int .i64 n]
  | .look pl d => ∃ b1 b2 b3 vd, v = .func (.func 145) #[] #[pv b1, pv b2, pv b3] ∧ B1 ρ w b1 46 #[pv g] ∧ B1 ρ w b2 3 #[.int .i64 pl] ∧ B1 ρ w b3 179 #[vd] ∧ IsDec ρ w g0 g gp d vd
  | .kill => ∃ b1, v = .func (.func 131) #[] #[pv b1] ∧ B1 ρ w b1 46 #[pv g]
  | .rearm => ∃ b1, v = .func (.func 136) #[] #[pv b1] ∧ B1 ρ w b1 46 #[pv g]
def IsDn (ρ : Nat → Nat) (w : World) (g0 g : Nat) (gp : Option Nat) (d : Dn) (v : Value) : Prop :=
  match d with
  | .send k i => ∃ b1 b2, v = .func (.func 158) #[] #[pv b1, pv b2] ∧ B1 ρ w b1 36 #[pv g0] ∧ B1 ρ w b2 93 #[.int .i64 k, .int .i64 i]
  | .mark => (∃ b1, v = .func (.func 168) #[] #[pv b1] ∧ B1 ρ w b1 46 #[pv g]) ∨ ∃ b1 b2, v = .func (.func 141) #[] #[pv b1, pv b2] ∧ B1 ρ w b1 36 #[pv g0] ∧ B1 ρ w b2 46 #[pv g]
  | .swp0 ep => ∃ b1 b2, v = .func (.func 134) #[] #[pv b1, pv b2] ∧ B1 ρ w b1 46 #[pv g] ∧ B1 ρ w b2 2 #[.int .i64 ep]
  | .nop => v = .func (.func 138) #[] #[]
  | .swp1 s ep pl n => ∃ b1 b2 b3 b4 b5 b6 A c, v = .func (.func 172) #[] #[pv b1, pv b2, pv b3, pv b4, pv b5, pv b6] ∧ B1 ρ w b1 36 #[pv g0] ∧ B1 ρ w b2 3 #[.int .i64 pl] ∧ (B1 ρ w b3 23 #[.slice A n.toNat c] ∧ 0 ≤ n) ∧ B1 ρ w b4 46 #[pv g] ∧ B1 ρ w b5 3 #[.int .i64 s] ∧ B1 ρ w b6 2 #[.int .i64 ep]
  | .settle f id y s => ∃ b1 b2 b3 b4 b5 b6 m, v = .func (.func 123) #[] #[pv b1, pv b2, pv b3, pv b4, pv b5] ∧ B1 ρ w b1 158 #[.func (.func (if f = true then 79 else 81)) #[] #[pv b6]] ∧ B1 ρ w b2 36 #[pv g0] ∧ B1 ρ w b3 3 #[.int .i64 s] ∧ B1 ρ w b4 46 #[pv g] ∧ B1 ρ w b5 3 #[.int .i64 id] ∧ (B1 ρ w b6 53 (mvs m).toArray ∧ m.i = id ∧ (f = true → m.y = y))
def IsA0 (ρ : Nat → Nat) (w : World) (g0 g : Nat) (gp : Option Nat) (x : A0) (v : Value) : Prop :=
  match x with
  | .take l => ∃ b1 b2, v = .func (.func 151) #[] #[pv b1, pv b2] ∧ B1 ρ w b1 46 #[pv g] ∧ B1 ρ w b2 3 #[.int .i64 l]
  | .free l => ∃ b1 b2, v = .func (.func 159) #[] #[pv b1, pv b2] ∧ B1 ρ w b1 46 #[pv g] ∧ B1 ρ w b2 3 #[.int .i64 l]
  | .store a x => ∃ b1 b2 b3, v = .func (.func 173) #[] #[pv b1, pv b2, pv b3] ∧ B1 ρ w b1 46 #[pv g] ∧ B1 ρ w b2 3 #[.int .i64 a] ∧ B1 ρ w b3 2 #[.int .i64 x]
  | .load a s => ∃ b1 b2 b3 vs, v = .func (.func 166) #[] #[pv b1, pv b2, pv b3] ∧ B1 ρ w b1 204 #[vs] ∧ B1 ρ w b2 46 #[pv g] ∧ B1 ρ w b3 3 #[.int .i64 a] ∧ IsSee ρ w g0 g gp s vs
def IsAcc (ρ : Nat → Nat) (w : World) (g0 g : Nat) (gp : Option Nat) (x : Acc) (v : Value) : Prop :=
  match x with
  | .one x => IsA0 ρ w g0 g gp x v
  | .aft x d => ∃ b1 b2 vx vd, v = .func (.func 161) #[] #[pv b1, pv b2] ∧ B1 ρ w b1 126 #[vx] ∧ B1 ρ w b2 1 #[vd] ∧ IsA0 ρ w g0 g gp x vx ∧ IsDn ρ w g0 g gp d vd
section
variable {C : Nat → Prop} {ρ ρ' : Nat → Nat} {w w' : World} {g0 g : Nat} {gp : Option Nat} {v : Value}
theorem B1.fs {b : Nat} {te : TypeId} {cs : Array Value} (h : B1 ρ w b te cs) (e : Fs C ρ w ρ' w') (hc : ¬ C 0) : B1 ρ' w' b te cs := ⟨e.blk h.1 (by rw [h.2]; exact hc), e.keep h.1.lt h.2⟩
theorem IsDec.fs {d : Dec} (h : IsDec ρ w g0 g gp d v) (e : Fs C ρ w ρ' w') (hc : ¬ C 0) : IsDec ρ' w' g0 g gp d v := by
  cases d with
  | refuse c => obtain ⟨b1, b2, h0, h1, h2⟩ := h; exact ⟨b1, b2, h0, h1.fs e hc, h2.fs e hc⟩
  | ord1 c => obtain ⟨b1, b2, h0, h1, h2⟩ := h; exact ⟨b1, b2, h0, h1.fs e hc, h2.fs e hc⟩
  | ord2 o x s => obtain ⟨b1, b2, b3, b4, b5, b6, p, h0, h1, h2, h3, h4, h5, h6⟩ := h; exact ⟨b1, b2, b3, b4, b5, b6, p, h0, h1.fs e hc, h2.fs e hc, h3.fs e hc, ⟨h4.1, h4.2.fs e hc⟩, h5.fs e hc, h6.fs e hc⟩
  | cancel id s => obtain ⟨b1, b2, b3, b4, h0, h1, h2, h3, h4⟩ := h; exact ⟨b1, b2, b3, b4, h0, h1.fs e hc, h2.fs e hc, h3.fs e hc, h4.fs e hc⟩
  | settle s x b => obtain ⟨b1, b2, b3, b4, b5, b6, b7, p, wa, ia, y, h0, h1, h2, h3, h4, h5, h6⟩ := h; exact ⟨b1, b2, b3, b4, b5, b6, b7, p, wa, ia, y, h0, ⟨h1.1.fs e hc, h1.2.1.fs e hc, h1.2.2⟩, h2.fs e hc, h3.fs e hc, ⟨h4.1, h4.2.fs e hc⟩, ⟨h5.1.fs e hc, h5.2.1.fs e hc, h5.2.2⟩, h6.fs e hc⟩
  | sweep s ep pl => obtain ⟨b1, b2, b3, b4, b5, h0, h1, h2, h3, h4, h5⟩ := h; exact ⟨b1, b2, b3, b4, b5, h0, h1.fs e hc, h2.fs e hc, h3.fs e hc, h4.fs e hc, h5.fs e hc⟩
theorem IsSee.fs {s : See} (h : IsSee ρ w g0 g gp s v) (e : Fs C ρ w ρ' w') (hc : ¬ C 0) : IsSee ρ' w' g0 g gp s v := by
  cases s with
  | used n => obtain ⟨b1, b2, p, h0, h1, h2⟩ := h; exact ⟨b1, b2, p, h0, ⟨h1.1, h1.2.fs e hc⟩, h2.fs e hc⟩
  | caps n => obtain ⟨b1, b2, p, h0, h1, h2⟩ := h; exact ⟨b1, b2, p, h0, ⟨h1.1, h1.2.fs e hc⟩, h2.fs e hc⟩
  | look pl d => obtain ⟨b1, b2, b3, vd, h0, h1, h2, h3, h4⟩ := h; exact ⟨b1, b2, b3, vd, h0, h1.fs e hc, h2.fs e hc, h3.fs e hc, h4.fs e hc⟩
  | kill => obtain ⟨b1, h0, h1⟩ := h; exact ⟨b1, h0, h1.fs e hc⟩
  | rearm => obtain ⟨b1, h0, h1⟩ := h; exact ⟨b1, h0, h1.fs e hc⟩
theorem IsDn.fs {d : Dn} (h : IsDn ρ w g0 g gp d v) (e : Fs C ρ w ρ' w') (hc : ¬ C 0) : IsDn ρ' w' g0 g gp d v := by
  cases d with
  | send k i => obtain ⟨b1, b2, h0, h1, h2⟩ := h; exact ⟨b1, b2, h0, h1.fs e hc, h2.fs e hc⟩
  | mark =>
    rcases h with ⟨b1, h0, h1⟩ | ⟨b1, b2, h0, h1, h2⟩
    · exact .inl ⟨b1, h0, h1.fs e hc⟩
    · exact .inr ⟨b1, b2, h0, h1.fs e hc, h2.fs e hc⟩
  | swp0 ep => obtain ⟨b1, b2, h0, h1, h2⟩ := h; exact ⟨b1, b2, h0, h1.fs e hc, h2.fs e hc⟩
  | nop => exact h
  | swp1 s ep pl n => obtain ⟨b1, b2, b3, b4, b5, b6, A, c, h0, h1, h2, h3, h4, h5, h6⟩ := h; exact ⟨b1, b2, b3, b4, b5, b6, A, c, h0, h1.fs e hc, h2.fs e hc, ⟨h3.1.fs e hc, h3.2⟩, h4.fs e hc, h5.fs e hc, h6.fs e hc⟩
  | settle f id y s => obtain ⟨b1, b2, b3, b4, b5, b6, m, h0, h1, h2, h3, h4, h5, h6⟩ := h; exact ⟨b1, b2, b3, b4, b5, b6, m, h0, h1.fs e hc, h2.fs e hc, h3.fs e hc, h4.fs e hc, h5.fs e hc, ⟨h6.1.fs e hc, h6.2⟩⟩
theorem IsA0.fs {x : A0} (h : IsA0 ρ w g0 g gp x v) (e : Fs C ρ w ρ' w') (hc : ¬ C 0) : IsA0 ρ' w' g0 g gp x v := by
  cases x with
  | take l => obtain ⟨b1, b2, h0, h1, h2⟩ := h; exact ⟨b1, b2, h0, h1.fs e hc, h2.fs e hc⟩
  | free l => obtain ⟨b1, b2, h0, h1, h2⟩ := h; exact ⟨b1, b2, h0, h1.fs e hc, h2.fs e hc⟩
  | store a x => obtain ⟨b1, b2, b3, h0, h1, h2, h3⟩ := h; exact ⟨b1, b2, b3, h0, h1.fs e hc, h2.fs e hc, h3.fs e hc⟩
  | load a s => obtain ⟨b1, b2, b3, vs, h0, h1, h2, h3, h4⟩ := h; exact ⟨b1, b2, b3, vs, h0, h1.fs e hc, h2.fs e hc, h3.fs e hc, h4.fs e hc⟩
theorem IsAcc.fs {x : Acc} (h : IsAcc ρ w g0 g gp x v) (e : Fs C ρ w ρ' w') (hc : ¬ C 0) : IsAcc ρ' w' g0 g gp x v := by
  cases x with
  | one x => exact IsA0.fs h e hc
  | aft x d => obtain ⟨b1, b2, vx, vd, h0, h1, h2, h3, h4⟩ := h; exact ⟨b1, b2, vx, vd, h0, h1.fs e hc, h2.fs e hc, h3.fs e hc, h4.fs e hc⟩
end
inductive Are (R : Acc → Value → Prop) : List Acc → List Value → Prop where
  | nil : Are R [] []
  | cons {x : Acc} {v : Value} {l : List Acc} {vs : List Value} (h : R x v) (t : Are R l vs) : Are R (x :: l) (v :: vs)
section
variable {R Q : Acc → Value → Prop} {l m : List Acc} {vs us : List Value}
theorem Are.len (h : Are R l vs) : vs.length = l.length := by induction h with | nil => rfl | cons _ _ ih => simp [ih]
theorem Are.mono (h : Are R l vs) (k : ∀ x v, R x v → Q x v) : Are Q l vs := by induction h with | nil => exact .nil | cons h _ ih => exact .cons (k _ _ h) ih
theorem Are.app (h : Are R l vs) (k : Are R m us) : Are R (l ++ m) (vs ++ us) := by induction h with | nil => exact k | cons h _ ih => exact .cons h ih
theorem Are.one {x : Acc} {v : Value} (h : R x v) : Are R [x] [v] := .cons h .nil
end
def Tod (ρ : Nat → Nat) (w : World) (j : Nat) (A : Option Addr) (n c : Nat) (vs : List Value) : Prop :=
  vs.length = n ∧ ((n = 0 ∧ c = 0) ∨ ∃ b o cs, A = some ⟨b, o, none⟩ ∧ Blk w b 126 cs ∧ cs.size = o + c ∧ n ≤ c ∧ ρ b = j ∧ ∀ k, k < n → cs[o + k]? = vs[k]?)
section
variable {C : Nat → Prop} {ρ ρ' : Nat → Nat} {w w' : World} {j n c : Nat} {A : Option Addr} {vs : List Value}
theorem Tod.fs (h : Tod ρ w j A n c vs) (e : Fs C ρ w ρ' w') (hc : ¬ C j) : Tod ρ' w' j A n c vs := by
  obtain ⟨h0, h | ⟨b, o, cs, hA, hb, hs, hn, ho, hk⟩⟩ := h
  · exact ⟨h0, .inl h⟩
  · exact ⟨h0, .inr ⟨b, o, cs, hA, e.blk hb (by rw [ho]; exact hc), hs, hn, e.keep hb.lt ho, hk⟩⟩
theorem Tod.nil : Tod ρ w j A 0 0 [] := ⟨rfl, .inl ⟨rfl, rfl⟩⟩
theorem Tod.tail {v : Value} (h : Tod ρ w j A (n + 1) c (v :: vs)) : ∃ b o, A = some ⟨b, o, none⟩ ∧ w.cell? ⟨b, o, none⟩ = some v ∧ n + 1 ≤ c ∧ ∀ A' c', (A' = some ⟨b, o + 1, none⟩ ∧ c' = c - 1 ∨ n = 0 ∧ c' = 0) → Tod ρ w j A' n c' vs := by
  obtain ⟨h0, h | ⟨b, o, cs, hA, hb, hs, hn, ho, hk⟩⟩ := h
  · omega
  · refine ⟨b, o, hA, ?_, hn, fun A' c' hx => ⟨by simpa using h0, ?_⟩⟩
    · rw [hb.cell]
      have := hk 0 (by omega)
      simpa using this
    · rcases hx with ⟨rfl, rfl⟩ | hx
      · refine .inr ⟨b, o + 1, cs, rfl, hb, by omega, by omega, ho, fun k hk' => ?_⟩
        have := hk (k + 1) (by omega)
        rw [show o + 1 + k = o + (k + 1) by omega, this]
        simp
      · exact .inl hx
end
theorem acc_info : (Tryz.prog.info? 126).map (fun i => (i.zero, i.size, i.bytes)) = some (some .nilFunc, 1, 8) := by kernel_rfl
end Gac
namespace Gat
open Bkp Bks Wpl Hpa Gpl Mdp Cfg Gac
theorem blk_cells {b te : Nat} : ∀ (vs : List Value) (o : Nat) (w : World) (cs : Array Value), Blk w b te cs → o + vs.length ≤ cs.size → ∃ cs', Blk (w.setCells b o vs) b te cs' ∧ cs'.size = cs.size ∧ (∀ k, k < o → cs'[k]? = cs[k]?) ∧ ∀ k, k < vs.length → cs'[o + k]? = vs[k]?
  | [], o, w, cs, h, _ => ⟨cs, h, rfl, fun _ _ => rfl, fun k hk => absurd hk (by simp)⟩
  | v :: vs, o, w, cs, h, hl => by
    simp only [List.length_cons] at hl
    obtain ⟨cs', h1, h2, h3, h4⟩ := blk_cells vs (o + 1) (w.setCell ⟨b, o, none⟩ v) (cs.setIfInBounds o v) (blk_set h o v) (by simp; omega)
    refine ⟨cs', h1, by simpa using h2, fun k hk => ?_, fun k hk => ?_⟩
    · rw [h3 k (by omega), Array.getElem?_setIfInBounds]
      rw [if_neg (by omega)]
    · match k with
      | 0 => rw [Nat.add_zero, h3 o (by omega), Array.getElem?_setIfInBounds]; simp; omega
      | k + 1 =>
        have := h4 k (by simpa using hk)
        rw [show o + (k + 1) = o + 1 + k by omega, this]
        simp
theorem heap_cells {b : Nat} : ∀ (vs : List Value) (o : Nat) (w : World) (k : Nat), k ≠ b → (w.setCells b o vs).heap[k]? = w.heap[k]?
  | [], _, _, _, _ => rfl
  | v :: vs, o, w, k, h => (heap_cells vs (o + 1) (w.setCell ⟨b, o, none⟩ v) k h).trans (Below.heap_setCell w ⟨b, o, none⟩ v k h)
theorem size_cells {b : Nat} : ∀ (vs : List Value) (o : Nat) (w : World), (w.setCells b o vs).heap.size = w.heap.size ∧ (w.setCells b o vs).os = w.os ∧ (w.setCells b o vs).tape = w.tape ∧ (w.setCells b o vs).output = w.output
  | [], _, _ => ⟨rfl, rfl, rfl, rfl⟩
  | v :: vs, o, w => by
    have := size_cells (b := b) vs (o + 1) (w.setCell ⟨b, o, none⟩ v)
    simpa [World.setCells, World.setCell] using this
def Ota (w w' : World) : Prop := ∀ k te cs, te ≠ 126 → Blk w k te cs → Blk w' k te cs
def Grew (ρ : Nat → Nat) (w : World) (j : Nat) (n m : Nat) (vs news : List Value) (v : Value) (w' : World) : Prop :=
  ∃ A' c' ρ', v = .slice A' (n + m) c' ∧ Tod ρ' w' j A' (n + m) c' (vs ++ news) ∧ Fs (· = j) ρ w ρ' w' ∧ (∀ k, w'.heap.size ≤ k → ρ' k = 0) ∧ Ota w w'
theorem grew_new {ρ : Nat → Nat} {w w' : World} {j n m : Nat} {vs news : List Value} {v : Value} (h : w'.ownsRow w.heap.size 126 1 v (n + m) (vs ++ news)) (hg : w.grownBy w' none) (hm : 0 < m) (hz : ∀ k, w.heap.size ≤ k → ρ k = 0) (hl : vs.length = n) (hl' : news.length = m) (hj : j < w.heap.size + 8) : Grew ρ w j n m vs news v w' := by
  rcases h.2 with ⟨_, h0⟩ | ⟨g, cap, cur, hv, hb, hh, h1, h2, h3, h4⟩
  · omega
  · have hlt : g < w'.heap.size := (Array.getElem?_eq_some_iff.1 hh).1
    refine ⟨_, _, put ρ g j, hv, ⟨by simp [hl, hl'], .inr ⟨g, 0, cur, rfl, hh, by omega, h1, put_at, fun k hk => ?_⟩⟩, ⟨fun k hk => put_ne (by omega), hg.os, hg.tape, hg.output, hg.size, fun k hk _ => hg.block k hk (by simp), fun N hN h => put_cap (by have := hg.size; omega) h⟩, fun k hk => ?_, fun k te cs _ hk => (hg.block k hk.lt (by simp)).trans hk⟩
    · rw [Nat.zero_add, ← h4, Nat.mul_one, List.getElem?_take, if_pos hk]; simp
    · rw [put_ne (by omega)]; exact hz k (Nat.le_trans hg.size hk)
theorem run_todo {P : Program} {ρ : Nat → Nat} {w : World} {j n c m : Nat} {A : Option Addr} {vs news : List Value} (h : Tod ρ w j A n c vs) (hz : ∀ k, w.heap.size ≤ k → ρ k = 0) {gb : Nat} (hb : Blk w gb 126 news.toArray) (hl : news.length = m) (hm : 0 < m) (h1 : ∀ u ∈ news, u.oneCell' = true) (hmax : n + m ≤ 1000000) (hj : j < w.heap.size + 8)
    (t ty : TypeId) (i : TypeInfo) (ht : P.underlying t = some (.slice 126)) (hi : P.info? 126 = some i) (hz0 : i.zero = some .nilFunc) (hz1 : i.size = 1) (hz2 : i.bytes = 8) :
    ∃ v w', (Builtin.append_ #[t, t] ty #[.slice A n c, .slice (some ⟨gb, 0, none⟩) m m]).run P w = .ok v w' ∧ Grew ρ w j n m vs news v w' := by
  have hnews : ∀ q u, news[q]? = some u → w.cell? ((⟨gb, 0, none⟩ : Addr).add q) = some u := by
    intro q u hq
    have e : (⟨gb, 0, none⟩ : Addr).add q = ⟨gb, q, none⟩ := by unfold Addr.add; split <;> simp_all
    rw [e, hb.cell]
    simpa using hq
  obtain ⟨h0, h | ⟨b, o, cs, hA, hk, hs, hn, ho, hc⟩⟩ := h
  · obtain ⟨rfl, rfl⟩ := h
    have hvs : vs = [] := List.eq_nil_of_length_eq_zero h0
    subst hvs
    cases A with
    | none =>
      have own0 : w.ownsRow w.heap.size 126 1 (.slice none 0 0) 0 [] := ⟨rfl, .inl ⟨rfl, rfl⟩⟩
      obtain ⟨v', w', hr, ho, hg, _⟩ := run_append_own (P := P) w w.heap.size t ty 126 i .nilFunc 1 8 ht hi hz0 hz1 hz2 rfl (by decide) _ 0 [] own0 ⟨gb, 0, none⟩ m m news (by omega) hnews h1 (by simp only [maxLen]; omega) (by omega) (Nat.le_refl _)
      exact ⟨v', w', hr, grew_new ho hg hm hz h0 hl hj⟩
    | some a =>
      obtain ⟨v', w', hr, ho, hg⟩ := run_append_arg_grows (P := P) w t ty 126 i .nilFunc 1 8 ht hi hz0 hz1 hz2 rfl (by decide) a 0 0 [] rfl (by simp) ⟨gb, 0, none⟩ m m news (by omega) hnews (by omega) (by simp only [maxLen]; omega) (by omega)
      exact ⟨v', w', hr, grew_new ho hg hm hz h0 hl hj⟩
  · subst hA
    by_cases hroom : n + m ≤ c
    · have hr := run_append_room_cells (P := P) w t ty 126 i ht hi b o n c ⟨gb, 0, none⟩ m m news (by rw [hz1]; omega) hnews h1 hroom
        (fun q hq => by rw [hz1, hk.cell, Nat.mul_one, Array.getElem?_eq_getElem (by omega)]; rfl) (fun q hq => hk.thaw _)
      rw [hz1, Nat.mul_one] at hr
      obtain ⟨cs', k1, k2, k3, k4⟩ := blk_cells (te := 126) news (o + n) w cs hk (by omega)
      obtain ⟨s0, s1, s2, s3⟩ := size_cells (b := b) news (o + n) w
      refine ⟨_, _, hr, _, _, ρ, rfl, ⟨by simp [h0, hl], .inr ⟨b, o, cs', rfl, k1, by omega, by omega, ho, fun q hq => ?_⟩⟩, ⟨fun _ _ => rfl, s1, s2, s3, Nat.le_of_eq s0.symm, fun q hq hne => heap_cells _ _ _ _ (fun e => hne (by rw [e]; exact ho)), fun _ _ h => h⟩, fun q hq => hz q (by omega), fun q te xs hne hq => (heap_cells _ _ _ _ (fun e => ?_)).trans hq⟩
      · by_cases hlt : q < n
        · rw [k3 _ (by omega), hc q hlt, List.getElem?_append_left (by omega)]
        · have := k4 (q - n) (by omega)
          rw [show o + q = o + n + (q - n) by omega, this, List.getElem?_append_right (by omega), h0]
      · subst e
        have := hk.symm.trans hq
        injection this with this
        injection this with _ this
        exact hne this.symm
    · obtain ⟨v', w', hr, ho', hg⟩ := run_append_arg_grows (P := P) w t ty 126 i .nilFunc 1 8 ht hi hz0 hz1 hz2 rfl (by decide) ⟨b, o, none⟩ n c vs (by omega) (fun q u hq => by
        have e : (⟨b, o, none⟩ : Addr).add q = ⟨b, o + q, none⟩ := by unfold Addr.add; split <;> simp_all
        have hlt : q < n := by rw [← h0]; exact (List.getElem?_eq_some_iff.1 hq).1
        rw [e, hk.cell, hc q hlt, hq]) ⟨gb, 0, none⟩ m m news (by omega) hnews (by omega) (by simp only [maxLen]; omega) (by omega)
      exact ⟨v', w', hr, grew_new ho' hg hm hz h0 hl hj⟩
theorem wp_todo {P : Program} {ρ : Nat → Nat} {w : World} {j n c m : Nat} {A : Option Addr} {vs news : List Value} {ops : Array Oper} {rest : List Oper} {op : Oper} {a : Act} {Q : Exit → Act → World → Prop} (h : Hid (Tod ρ w j A n c vs)) (hz : Hid (∀ k, w.heap.size ≤ k → ρ k = 0)) {gb : Nat} (hb : Hid (Blk w gb 126 news.toArray)) (hl : Hid (news.length = m)) (hm : 0 < m) (h1 : Hid (∀ u ∈ news, u.oneCell' = true)) (hmax : n + m ≤ 1000000) (hj : j < w.heap.size + 8)
    (s x : Operand) (t : TypeId) (hop : op.op = .call { callee := .builtin .append, args := #[s, x], argTypes := #[t, t] }) (hgd : op.guard = none) (i : TypeInfo) (ht : P.underlying t = some (.slice 126)) (hi : P.info? 126 = some i) (hz0 : i.zero = some .nilFunc) (hz1 : i.size = 1) (hz2 : i.bytes = 8)
    (hs : a.eval s = .slice A n c) (hx : a.eval x = .slice (some ⟨gb, 0, none⟩) m m) (k : ∀ A' c' w', Hid (Grew ρ w j n m vs news (.slice A' (n + m) c') w') → wpList P ops Q rest (a.put op.dst (.slice A' (n + m) c')) w') : wpList P ops Q (op :: rest) a w := by
  refine wpList_plain hgd fun _ hK => ?_
  obtain ⟨v, w', hr, hg⟩ := run_todo (P := P) h.out hz.out hb.out hl.out hm h1.out hmax hj t op.type i ht hi hz0 hz1 hz2
  unfold Oper.wp execOp
  simp only [hop, resolve, invoke, builtin, Sem.run_bind, Sem.run_pure, Result.andThen_ok, List.map_toArray, List.map_cons, List.map_nil, hs, hx, hr]
  obtain ⟨A', c', ρ', rfl, hx⟩ := hg
  exact hK _ _ (k A' c' w' (Lib.hid ⟨A', c', ρ', rfl, hx⟩))
structure Aq where
  A : Option Addr
  c : Nat
  vs : List Value
  gp : Option Nat
  Ap : Option Addr
  cp : Nat
  An : Option Addr
  cn : Nat
  Au : Option Addr
  cu : Nat
def puV (r : Aq) (p : Pu) : Array Value := #[.int .i64 p.leaf, .slice r.Ap p.path.length r.cp, .slice r.An p.cl.length r.cn, .slice r.Au p.cu.length r.cu]
def Pua (ρ : Nat → Nat) (w : World) (j : Nat) (r : Aq) (p : Pu) : Prop := ∀ gp, r.gp = some gp → Blk w gp 198 (puV r p) ∧ ρ gp = j ∧ Ro0 ρ w r.Ap (ints p.path) ∧
  (if p.fr = true then OwR ρ w j 102 2 (.slice r.An p.cl.length r.cn) p.cl.length (nds p.cl) ∧ OwR ρ w j 2 1 (.slice r.Au p.cu.length r.cu) p.cu.length (ints p.cu) else Ro0 ρ w r.An (nds p.cl) ∧ Ro0 ρ w r.Au (ints p.cu))
def acV (g0 : Nat) (r : Aq) (a : Ap) : Array Value := #[pv g0, .int .i64 a.who, .int .i64 a.place, .slice r.A a.todo.length r.c, .int .i64 a.c, .int .i64 a.d]
structure Ac (ρ : Nat → Nat) (w : World) (g0 g : Nat) (r : Aq) (a : Ap) : Prop where
  blk : Blk w g 118 (acV g0 r a)
  own : ρ g = g + 8
  tod : Tod ρ w (g + 8) r.A a.todo.length r.c r.vs
  acc : Are (IsAcc ρ w g0 g r.gp) a.todo r.vs
  pu : Pua ρ w (g + 8) r a.pu
section
variable {C : Nat → Prop} {ρ ρ' : Nat → Nat} {w w' : World} {g0 g j : Nat} {r : Aq} {a : Ap} {p : Pu}
theorem Pua.fs (h : Pua ρ w j r p) (e : Fs C ρ w ρ' w') (hc : ¬ C j) (h0 : ¬ C 0) : Pua ρ' w' j r p := by
  intro gp hg
  obtain ⟨k1, k2, k3, k4⟩ := h gp hg
  refine ⟨e.blk k1 (by rw [k2]; exact hc), e.keep k1.lt k2, k3.fs e h0, ?_⟩
  split
  · rename_i hf; rw [if_pos hf] at k4; exact ⟨k4.1.fs e hc, k4.2.fs e hc⟩
  · rename_i hf; rw [if_neg hf] at k4; exact ⟨k4.1.fs e h0, k4.2.fs e h0⟩
theorem Ac.fs (h : Ac ρ w g0 g r a) (e : Fs C ρ w ρ' w') (hc : ¬ C (g + 8)) (h0 : ¬ C 0) : Ac ρ' w' g0 g r a :=
  ⟨e.blk h.blk (by rw [h.own]; exact hc), e.keep h.blk.lt h.own, h.tod.fs e hc, h.acc.mono fun x v k => k.fs e h0, h.pu.fs e hc h0⟩
end
end Gat
namespace Gex
open Lat Lax Bkp Bks Wpl Hpa Gpl Mdp Cfg Gac Gat
theorem ce {C : Nat → Prop} {ρ ρ' : Nat → Nat} {w w' : World} {b i j : Nat} {v : Value} (h : Fs C ρ w ρ' w') (hk : w.cell? ⟨b, i, none⟩ = some v) (e : ρ b = j) (hc : ¬ C j) : w'.cell? ⟨b, i, none⟩ = some v := h.cell hk (by show ¬ C (ρ b); rw [e]; exact hc)
structure Vs (G : Gp) : Prop where
  wl : G.cs.ws.length ≤ 1000
  hl : G.cs.hs.length ≤ 1000
  t0 : 0 ≤ G.cs.t
  t1 : G.cs.t ≤ 1000000000000
def MadeG (base : Nat) (ρ : Nat → Nat) (q : Gq) (g0 : Nat) (w : World) (v : Value) (G' : Gp) (e : Ending) (w' : World) : Prop := e = .returned v ∧ Gt base ρ w' g0 q G' ∧ Fs (· = 2) ρ w ρ w'
theorem madeG_mk {base : Nat} {ρ : Nat → Nat} {q : Gq} {g0 : Nat} {w w' : World} {v : Value} {G : Gp} {s : S} (h : Gt base ρ w g0 q G) (hc : Cs w' 147 q.gc q.gw q.gh s) (k : Kept q.gc q.gw q.gh w w') : MadeG base ρ q g0 w v { G with cs := s } (.returned v) w' :=
  ⟨rfl, h.cells k hc fun i hi => h.new i (Nat.le_trans k.size hi), Fs.kept k h.o2.1 h.o2.2.1 h.o2.2.2⟩
theorem take1_any (base : Nat) (ρ : Nat → Nat) (q : Gq) (r : Aq) (g0 g b1 b2 : Nat) (l : Int) (G : Gp) (a : Ap) (w : World) (HG : Hid (Gt base ρ w g0 q G)) (ha : Hid (Ac ρ w g0 g r a)) (hv : Vs G) (k1 : B1 ρ w b1 46 #[pv g]) (k2 : B1 ρ w b2 3 #[.int .i64 l]) :
    Calls Tryz.prog 151 #[pv b1, pv b2] w (MadeG base ρ q g0 w (.bool (takeF G.cs a.who l).1) { G with cs := (takeF G.cs a.who l).2 }) := by
  have hwl := hv.wl
  have hhl := hv.hl
  have t0 := χ (k1.1.cell 0)
  have t1 := χ (k2.1.cell 0)
  have t2 := χ (ha.out.blk.cell 0)
  have t3 := χ (ha.out.blk.cell 1)
  have t4 := χ (HG.out.blk.cell 7)
  unfold pv at t0 t2 t4 ⊢
  let T : World → Prop := fun w' => w'.cell? (α b1 0) = some (.pointer (some (α g 0))) ∧ w'.cell? (α b2 0) = some (ι l) ∧ w'.cell? (α g 0) = some (.pointer (some (α g0 0))) ∧ w'.cell? (α g 1) = some (ι a.who) ∧ w'.cell? (α g0 7) = some (.pointer (some (α q.gc 0)))
  have HT : Hid (T w.drew) := κ ⟨t0, t1, t2, t3, t4⟩
  have CT := Cn.take_any q.gc q.gw q.gh G.cs a.who l w.drew (κ ⟨HG.out.cs.c, HG.out.cs.cw, HG.out.cs.ch, HG.out.cs.n1, HG.out.cs.n2, HG.out.cs.n3⟩) (by omega) (by omega)
  go_enter Tryz.func151, Tryz.ntmps151
  go_upto_region 1 with fail
  refine Ω T [] ?_
  refine jB 0 HT.out ?_
  refine jA 1 HT.out ?_
  refine jA 2 HT.out ?_
  refine jB 3 HT.out ?_
  refine jA 4 HT.out ?_
  refine jA 5 HT.out ?_
  refine jB 6 HT.out ?_
  refine jB 7 HT.out ?_
  refine jA 8 HT.out ?_
  refine jA 9 HT.out ?_
  refine jB 10 HT.out ?_
  refine jB 11 HT.out ?_
  refine jN 12 fun K' hK => ?_
  go_simp
  refine CT.mono ?_
  rintro e w9 ⟨rfl, hc, hk⟩
  have hk := kept_drew hk
  have F : Fs (· = 2) ρ w ρ w9 := Fs.kept hk HG.out.o2.1 HG.out.o2.2.1 HG.out.o2.2.2
  have H9 : Hid (T w9) := κ ⟨ce F t0 k1.2 (by decide), ce F t1 k2.2 (by decide), ce F t2 ha.out.own (by omega), ce F t3 ha.out.own (by omega), ce F t4 HG.out.o0 (by decide)⟩
  refine hK.out _ _ H9.out ?_
  clear hK K'
  refine jP ?_
  refine jA 13 H9.out ?_
  refine Δ ?_
  clear CT HT H9
  go_wp2_with fail
  go_ret
  exact madeG_mk HG.out hc hk
theorem free1_any (base : Nat) (ρ : Nat → Nat) (q : Gq) (r : Aq) (g0 g b1 b2 : Nat) (l : Int) (G : Gp) (a : Ap) (w : World) (HG : Hid (Gt base ρ w g0 q G)) (ha : Hid (Ac ρ w g0 g r a)) (hv : Vs G) (k1 : B1 ρ w b1 46 #[pv g]) (k2 : B1 ρ w b2 3 #[.int .i64 l]) :
    Calls Tryz.prog 159 #[pv b1, pv b2] w (MadeG base ρ q g0 w (.bool true) { G with cs := (freeF G.cs a.who l).2 }) := by
  have hwl := hv.wl
  have hhl := hv.hl
  have t0 := χ (k1.1.cell 0)
  have t1 := χ (k2.1.cell 0)
  have t2 := χ (ha.out.blk.cell 0)
  have t3 := χ (ha.out.blk.cell 1)
  have t4 := χ (HG.out.blk.cell 7)
  unfold pv at t0 t2 t4 ⊢
  let T : World → Prop := fun w' => w'.cell? (α b1 0) = some (.pointer (some (α g 0))) ∧ w'.cell? (α b2 0) = some (ι l) ∧ w'.cell? (α g 0) = some (.pointer (some (α g0 0))) ∧ w'.cell? (α g 1) = some (ι a.who) ∧ w'.cell? (α g0 7) = some (.pointer (some (α q.gc 0)))
  have HT : Hid (T w.drew) := κ ⟨t0, t1, t2, t3, t4⟩
  have CT := Cn.free_any q.gc q.gw q.gh G.cs a.who l w.drew (κ ⟨HG.out.cs.c, HG.out.cs.cw, HG.out.cs.ch, HG.out.cs.n1, HG.out.cs.n2, HG.out.cs.n3⟩) (by omega) (by omega)
  go_enter Tryz.func159, Tryz.ntmps159
  go_upto_region 1 with fail
  refine Ω T [] ?_
  refine jB 0 HT.out ?_
  refine jA 1 HT.out ?_
  refine jA 2 HT.out ?_
  refine jB 3 HT.out ?_
  refine jA 4 HT.out ?_
  refine jA 5 HT.out ?_
  refine jB 6 HT.out ?_
  refine jB 7 HT.out ?_
  refine jA 8 HT.out ?_
  refine jA 9 HT.out ?_
  refine jB 10 HT.out ?_
  refine jB 11 HT.out ?_
  refine jN 12 fun K' hK => ?_
  go_simp
  refine CT.mono ?_
  rintro e w9 ⟨rfl, hc, hk⟩
  have hk := kept_drew hk
  have F : Fs (· = 2) ρ w ρ w9 := Fs.kept hk HG.out.o2.1 HG.out.o2.2.1 HG.out.o2.2.2
  have H9 : Hid (T w9) := κ ⟨ce F t0 k1.2 (by decide), ce F t1 k2.2 (by decide), ce F t2 ha.out.own (by omega), ce F t3 ha.out.own (by omega), ce F t4 HG.out.o0 (by decide)⟩
  refine hK.out _ _ H9.out ?_
  clear hK K'
  refine jP ?_
  refine Δ ?_
  clear CT HT H9
  go_wp2_with fail
  go_ret
  exact madeG_mk HG.out hc hk
end Gex
end Go.Proofs.YtaeddnjjeholgaaGreat
