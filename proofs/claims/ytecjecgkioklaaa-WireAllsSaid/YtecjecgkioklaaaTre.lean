/- The contracts of package tree: each call answers as the plain functions over lists of pairs say, and makes memory of its own alone. Condition: the list lies in memory, its numbers are of 64 bits. -/
import Derived.Test.YtecjecgkioklaaaRows
import Derived.Test.YtecjecgkioklaaaMem
import Derived.WalkKit
import Derived.ProofKit
import Derived.OpenShut
import Derived.Outline
import Derived.LoopTactic
import Derived.Deep.LoopGhost
import Derived.Lib.Hide
import Derived.BigQuiet
import Derived.Deep.QuietTactic
import Derived.OwnWalk
namespace Go.Proofs.Ytecjecgkioklaaa.Tre
set_option maxRecDepth 100000
open Go.ChangeShapes Go.WideShapes Go.ChangeAt Go.RowKit Mem

/-! ### plain -/
def inR (n : Nat) (k : Int) : Bool := decide (0 ≤ k) && decide (k < n)
theorem inR_t {n : Nat} {k : Int} (h : 0 ≤ k) (h' : k < n) : inR n k = true := by unfold inR; simp [h, h']
theorem inR_f {n : Nat} {k : Int} (h : k < 0 ∨ n ≤ k) : inR n k = false := by unfold inR; simp; omega
theorem inR_of {n : Nat} {k : Int} (h : inR n k = true) : 0 ≤ k ∧ k < n := by unfold inR at h; simpa using h
def top (l : List (Int × Int)) : Nat → Nat → Bool
  | 0, _ => false
  | d + 1, a => nP l a == -1 || top l d (nP l a).toNat
def Par (l : List (Int × Int)) : Prop := ∀ i, i < l.length → -1 ≤ nP l i ∧ nP l i < l.length
def climbF (l : List (Int × Int)) : Nat → Nat → Int × Int
  | 0, _ => (0, -1)
  | g + 1, k => if top l 3 k then climbF l g (k + 1) else (16, k)
def scanF (l : List (Int × Int)) : Nat → Nat → Int × Int
  | 0, _ => climbF l l.length 0
  | g + 1, k => if nP l k = -1 ∨ inR l.length (nP l k) = true then (if 0 ≤ nC l k ∧ nC l k ≤ 4611686018427387904 then scanF l g (k + 1) else (1, k)) else (18, k)
def chk (l : List (Int × Int)) : Int × Int :=
  if 32 < l.length then (11, 0) else if l.length = 0 then (1, 0) else scanF l l.length 0
theorem top_m1 {l : List (Int × Int)} {g a : Nat} (h : nP l a = -1) : top l (g + 1) a = true := by unfold top; simp [h]
theorem top_up {l : List (Int × Int)} {g a : Nat} (h : (nP l a == -1) = false) : top l (g + 1) a = top l g (nP l a).toNat := by
  rw [top, h]; simp
def pathF (l : List (Int × Int)) : Nat → Int → List Int
  | 0, _ => []
  | g + 1, n => if inR l.length n then n :: pathF l g (nP l n.toNat) else []
def fitF (l : List (Int × Int)) : Nat → Int → Bool
  | 0, n => !inR l.length n
  | g + 1, n => if inR l.length n then fitF l g (nP l n.toNat) else true
theorem fit_top {l : List (Int × Int)} (hp : Par l) : ∀ (g a : Nat), a < l.length → fitF l g a = top l g a
  | 0, a, h => by simp [fitF, top, inR_t (n := l.length) (k := a) (by omega) (by omega)]
  | g + 1, a, h => by
    have hb := hp a h
    rw [fitF, if_pos (inR_t (by omega) (by omega)), Int.toNat_natCast]
    by_cases e : nP l a = -1
    · rw [top_m1 e, e]
      have : inR l.length (-1) = false := inR_f (by omega)
      cases g <;> simp [fitF, this]
    · have e' : (nP l a == -1) = false := by simp [e]
      rw [top_up e', ← fit_top hp g _ (by omega)]
      congr 1
      omega

def ToldB (b : Bool) (w : World) (e : Ending) (w' : World) : Prop := e = .returned (.bool b) ∧ w = w'
def Told2 (p : Int × Int) (w : World) (e : Ending) (w' : World) : Prop := e = .returned (.tuple #[.int .i64 p.1, .int .i64 p.2]) ∧ w = w'
def Made2 (p : Int × Int) (w : World) (e : Ending) (w' : World) : Prop := e = .returned (.tuple #[.int .i64 p.1, .int .i64 p.2]) ∧ Below w.heap.size w w'
theorem told2 {p : Int × Int} {a b : Int} {w : World} (h : p = (a, b)) : Told2 p w (.returned (.tuple #[.int .i64 a, .int .i64 b])) w := by subst h; exact ⟨rfl, rfl⟩
theorem made2 {p : Int × Int} {a b : Int} {w w' : World} (h : p = (a, b)) (hb : Below w.heap.size w w') : Made2 p w (.returned (.tuple #[.int .i64 a, .int .i64 b])) w' := by subst h; exact ⟨rfl, hb⟩

/-! ### the calls -/
theorem has_any (A : Option Addr) (n c : Nat) (k : Int) (w : World) :
    Calls Try.prog 80 #[.slice A n c, .int .i64 k] w (ToldB (inR n k) w) := by
  by_cases h0 : 0 ≤ k
  · by_cases h1 : k < n
    · go_enter Try.func80, Try.ntmps80
      go_wp2
      go_ret
      exact ⟨by rw [inR_t h0 h1]; rfl, rfl⟩
    · go_enter Try.func80, Try.ntmps80
      go_wp2
      go_ret
      exact ⟨by rw [inR_f (by omega)]; rfl, rfl⟩
  · go_enter Try.func80, Try.ntmps80
    go_wp2
    go_ret
    exact ⟨by rw [inR_f (by omega)]; rfl, rfl⟩

set_option maxHeartbeats 400000 in
theorem climb_any (b o c : Nat) (l : List (Int × Int)) (w : World) (hn : l.length ≤ 32) (hpar : Hid (Par l))
    (hp : Hid (∀ i, i < l.length → w.cell? ⟨b, o + i * 2, none⟩ = some (.int .i64 (nP l i)))) :
    Calls Try.prog 81 #[.slice (some ⟨b, o, none⟩) l.length c] w (Told2 (climbF l l.length 0) w) := by
  go_enter Try.func81, Try.ntmps81
  go_wp2
  go_step3
  go_wp2
  go_step3
  go_wp2
  go_loopg [8] l.length (fun g s8 w' => ∃ k : Nat, k + g = l.length ∧ s8 = .int .i64 k ∧ Hid (climbF l g k = climbF l l.length 0) ∧ w = w')
  case atStart => exact ⟨0, by omega, rfl, rfl, rfl⟩
  case round =>
    obtain ⟨k, hk, rfl, hall, rfl⟩ := hrel
    obtain ⟨g0, rfl⟩ : ∃ g : Nat, g = gk := ⟨_, rfl⟩
    by_cases hlt : (k : Int) < (l.length : Int)
    · go_wp2
      go_loopg [5, 12] 3 (fun g s5 s12 w' => ∃ a : Nat, a < l.length ∧ s5 = .int .i64 a ∧ s12 = .int .i64 ((3 : Int) - g) ∧ g ≤ 3 ∧ Hid (top l g a = top l 3 k) ∧ w = w')
      case atStart => exact ⟨k, by omega, rfl, rfl, by omega, rfl, rfl⟩
      case round =>
        obtain ⟨a, ha, rfl, rfl, hg, ht, rfl⟩ := hrel
        have hc := hp.out a ha
        have hb := hpar.out a ha
        by_cases hz : gk = 0
        · subst hz
          have ht' : Hid (climbF l l.length 0 = (16, (k : Int))) := by
            show _ = _
            rw [← hall.out, show g0 = (g0 - 1) + 1 by omega, climbF, ← ht.out]; rfl
          go_wp2
          rw [Exit.noGoto_ret]
          go_ret2
          exact told2 ht'.out
        · obtain ⟨g, rfl⟩ : ∃ g, gk = g + 1 := ⟨gk - 1, by omega⟩
          by_cases hm : nP l a = -1
          · have ht' : top l 3 k = true := by rw [← ht.out]; exact top_m1 hm
            have hall' : Hid (climbF l (g0 - 1) (k + 1) = climbF l l.length 0) := by
              show _ = _
              rw [← hall.out, show g0 = (g0 - 1) + 1 by omega, climbF, ht']; rfl
            have hm' : (nP l a == -1) = true := by simp [hm]
            have HM := Lib.hid hm
            clear hm ht' ht
            go_wp2
            go_roundg (g0 - 1)
            case measure => omega
            case rel => exact ⟨k + 1, by omega, by go_num, hall', rfl⟩
          · have hm' : (nP l a == -1) = false := by simp [hm]
            have ht' : Hid (top l g (nP l a).toNat = top l 3 k) := by
              show _ = _; rw [← ht.out]; exact (top_up hm').symm
            go_wp2
            go_roundg g
            case measure => omega
            case rel => exact ⟨(nP l a).toNat, by omega, by congr 1; omega, by congr 1; omega, by omega, ht', rfl⟩
    · have hall' : Hid (climbF l l.length 0 = (0, -1)) := by
        show _ = _
        rw [← hall.out, show g0 = 0 by omega]; rfl
      go_wp2
      try rw [Exit.noGoto_ret]
      go_ret2
      exact told2 hall'.out

theorem scan_18 {l : List (Int × Int)} {g k : Nat} (h : (nP l k != -1) = true) (h' : inR l.length (nP l k) = false) : scanF l (g + 1) k = (18, (k : Int)) := by
  rw [scanF, if_neg]; simp at h; simp [h, h']
theorem scan_1 {l : List (Int × Int)} {g k : Nat} (h : nP l k = -1 ∨ inR l.length (nP l k) = true) (h' : nC l k < 0 ∨ 4611686018427387904 < nC l k) : scanF l (g + 1) k = (1, (k : Int)) := by
  rw [scanF, if_pos h, if_neg (by omega)]
theorem scan_go {l : List (Int × Int)} {g k : Nat} (h : nP l k = -1 ∨ inR l.length (nP l k) = true) (h' : 0 ≤ nC l k) (h'' : nC l k ≤ 4611686018427387904) : scanF l (g + 1) k = scanF l g (k + 1) := by
  rw [scanF, if_pos h, if_pos ⟨h', h''⟩]

set_option maxHeartbeats 1000000 in
theorem check_any (A : Option Addr) (c : Nat) (l : List (Int × Int)) (w : World) (hl : Nds w w.heap.size A l) (hw : Hid (WfN l)) (hmax : (l.length : Int) ≤ 9223372036854775807) :
    Calls Try.prog 44 #[.slice A l.length c] w (Made2 (chk l) w) := by
  by_cases h32 : 32 < l.length
  · go_enter Try.func44, Try.ntmps44
    go_wp2
    go_ret2
    exact made2 (by rw [chk, if_pos h32]) (Below.refl _ _)
  by_cases h0 : l.length = 0
  · have h0' : l = [] := List.eq_nil_of_length_eq_zero h0
    subst h0'
    go_enter Try.func44, Try.ntmps44
    go_wp2
    go_ret2
    exact made2 rfl (Below.refl _ _)
  obtain ⟨b, o, rfl, hb, hc⟩ := hl.at (by omega)
  have HC := Lib.hid hc
  have H0 : ((l.length : Int) == 0) = false := beq_eq_false_iff_ne.2 (by omega)
  have hchk : Hid (chk l = scanF l l.length 0) := by show _ = _; rw [chk, if_neg h32, if_neg h0]
  clear hc hl h0
  go_enter Try.func44, Try.ntmps44
  go_wp2
  go_loopg [14] l.length (fun g s14 w' => ∃ k : Nat, k + g = l.length ∧ s14 = .int .i64 k ∧ Hid (scanF l g k = scanF l l.length 0) ∧ Hid (∀ j, j < k → nP l j = -1 ∨ inR l.length (nP l j) = true) ∧ Below w.heap.size w w')
  case atStart => exact ⟨0, by omega, rfl, rfl, fun j hj => absurd hj (Nat.not_lt_zero j), Below.refl _ _⟩
  case round =>
    obtain ⟨k, hk, rfl, hall, hpar, hbel⟩ := hrel
    by_cases hlt : (k : Int) < (l.length : Int)
    · obtain ⟨g, rfl⟩ : ∃ g, gk = g + 1 := ⟨gk - 1, by omega⟩
      have hc0 : wr.cell? ⟨b, o + k * 2, none⟩ = some (.int .i64 (nP l k)) := (hbel.cell (p := ⟨b, o + k * 2, none⟩) hb).trans (HC.out k (by omega)).1
      have hc1 : wr.cell? ⟨b, o + k * 2 + 1, none⟩ = some (.int .i64 (nC l k)) := (hbel.cell (p := ⟨b, o + k * 2 + 1, none⟩) hb).trans (HC.out k (by omega)).2
      have hbel2 : Below w.heap.size w (wr.alloc (.cells #[.int .i64 (nP l k), .int .i64 (nC l k)] 108)) := hbel.alloc hbel.size _
      by_cases hP : nP l k = -1 ∨ inR l.length (nP l k) = true
      · by_cases hC : 0 ≤ nC l k ∧ nC l k ≤ 4611686018427387904
        · have hall' : Hid (scanF l g (k + 1) = scanF l l.length 0) := (scan_go hP hC.1 hC.2).symm.trans hall.out
          have hpar' : Hid (∀ j, j < k + 1 → nP l j = -1 ∨ inR l.length (nP l j) = true) := fun j hj => by
            by_cases e : j = k
            · subst e; exact hP
            · exact hpar.out j (by omega)
          obtain ⟨hC0, hC1⟩ := hC
          by_cases hm : nP l k = -1
          · have h1 : (nP l k != -1) = false := by simp [hm]
            have h1' : (nP l k == -1) = true := by simp [hm]
            clear hm hP
            go_wp2_with fail
            go_roundg g
            case measure => omega
            case rel => exact ⟨k + 1, by omega, by go_num, hall', hpar', hbel2⟩
          · have h1 : (nP l k != -1) = true := by simp [hm]
            have h1' : (nP l k == -1) = false := by simp [hm]
            have h2 : inR l.length (nP l k) = true := hP.resolve_left hm
            clear hm hP
            go_wp2_with (go_at_call 80; refine (has_any _ _ _ _ _).mono ?_; rintro e w' ⟨rfl, rfl⟩)
            go_roundg g
            case measure => omega
            case rel => exact ⟨k + 1, by omega, by go_num, hall', hpar', hbel2⟩
        · have hres : Hid (scanF l l.length 0 = (1, (k : Int))) := by
            show _ = _
            rw [← hall.out]; exact scan_1 hP (by omega)
          by_cases hm : nP l k = -1
          · have h1 : (nP l k != -1) = false := by simp [hm]
            have h1' : (nP l k == -1) = true := by simp [hm]
            clear hm hP
            by_cases hC0 : nC l k < 0
            · go_wp2_with fail
              go_ret2
              exact made2 (hchk.out.trans hres.out) hbel2
            · have hC1 : 4611686018427387904 < nC l k := by omega
              clear hC
              go_wp2_with fail
              go_ret2
              exact made2 (hchk.out.trans hres.out) hbel2
          · have h1 : (nP l k != -1) = true := by simp [hm]
            have h1' : (nP l k == -1) = false := by simp [hm]
            have h2 : inR l.length (nP l k) = true := hP.resolve_left hm
            clear hm hP
            by_cases hC0 : nC l k < 0
            · go_wp2_with (go_at_call 80; refine (has_any _ _ _ _ _).mono ?_; rintro e w' ⟨rfl, rfl⟩)
              go_ret2
              exact made2 (hchk.out.trans hres.out) hbel2
            · have hC1 : 4611686018427387904 < nC l k := by omega
              clear hC
              go_wp2_with (go_at_call 80; refine (has_any _ _ _ _ _).mono ?_; rintro e w' ⟨rfl, rfl⟩)
              go_ret2
              exact made2 (hchk.out.trans hres.out) hbel2
      · have hm : ¬ nP l k = -1 := fun e => hP (.inl e)
        have h1 : (nP l k != -1) = true := by simp [hm]
        have h1' : (nP l k == -1) = false := by simp [hm]
        have h2 : inR l.length (nP l k) = false := by
          cases h : inR l.length (nP l k)
          · rfl
          · exact absurd (.inr h) hP
        have hres : Hid (scanF l l.length 0 = (18, (k : Int))) := by
          show _ = _
          rw [← hall.out]; exact scan_18 h1 h2
        clear hm hP
        go_wp2_with (go_at_call 80; refine (has_any _ _ _ _ _).mono ?_; rintro e w' ⟨rfl, rfl⟩)
        go_ret2
        exact made2 (hchk.out.trans hres.out) hbel2
    · have hres : Hid (scanF l l.length 0 = climbF l l.length 0) := by
        show _ = _
        rw [← hall.out, show gk = 0 by omega]; rfl
      have hpar' : Hid (Par l) := by
        intro i hi
        rcases hpar.out i (by omega) with h | h
        · omega
        · have := inR_of h; omega
      have hp' : Hid (∀ i, i < l.length → wr.cell? ⟨b, o + i * 2, none⟩ = some (.int .i64 (nP l i))) := fun i hi =>
        (hbel.cell (p := ⟨b, o + i * 2, none⟩) hb).trans (HC.out i hi).1
      go_wp2_with (go_at_call 81; refine (climb_any b o c l _ (by omega) hpar' hp').mono ?_; rintro e w' ⟨rfl, rfl⟩)
      go_ret2
      exact made2 (hchk.out.trans hres.out) hbel

theorem int_info : (Try.prog.info? 3).map (fun i => (i.zero, i.size, i.bytes)) = some (some (.int .i64 0), 1, 8) := by kernel_rfl

/-- a list of numbers in new memory -/
def MadeI (xs : List Int) (w : World) (e : Ending) (w' : World) : Prop := ∃ A c, e = .returned (.slice A xs.length c) ∧ Ris w' w'.heap.size A xs ∧ Below w.heap.size w w'
theorem madeI_mk {xs ys : List Int} {A : Option Addr} {c : Nat} {w w' : World} (h : ys = xs) (hr : Ris w' w'.heap.size A xs) (hb : Below w.heap.size w w') : MadeI ys w (.returned (.slice A xs.length c)) w' := by
  subst h; exact ⟨A, c, rfl, hr, hb⟩
/-- the same, in blocks from w's end on -/
def MadeIF (xs : List Int) (w : World) (e : Ending) (w' : World) : Prop := ∃ A c, e = .returned (.slice A xs.length c) ∧ Ris w' w'.heap.size A xs ∧ (∀ a, A = some a → w.heap.size ≤ a.block) ∧ Below w.heap.size w w'
theorem madeIF_mk {xs ys : List Int} {A : Option Addr} {c : Nat} {w w' : World} (h : ys = xs) (hr : Ris w' w'.heap.size A xs) (hf : ∀ a, A = some a → w.heap.size ≤ a.block) (hb : Below w.heap.size w w') : MadeIF ys w (.returned (.slice A xs.length c)) w' := by
  subst h; exact ⟨A, c, rfl, hr, hf, hb⟩
theorem MadeIF.made {xs : List Int} {w w' : World} {e : Ending} (h : MadeIF xs w e w') : MadeI xs w e w' := by
  obtain ⟨A, c, he, hr, _, hb⟩ := h
  exact ⟨A, c, he, hr, hb⟩
theorem own_fresh {w : World} {base : Nat} {e : TypeId} {size n m c : Nat} {A : Option Addr} {xs : List Value} (h : w.ownsRow base e size (.slice A m c) n xs) : ∀ a, A = some a → base ≤ a.block := by
  rintro a rfl
  rcases h.2 with ⟨h1, _⟩ | ⟨g, cap, cur, h1, h2, _⟩
  · cases h1
  · injection h1 with h1; injection h1 with h1; subst h1; exact h2
theorem pathF_out {l : List (Int × Int)} {g : Nat} {n : Int} (h : inR l.length n = false) : pathF l g n = [] := by
  cases g <;> simp [pathF, h]
theorem pathF_in {l : List (Int × Int)} {g : Nat} {n : Int} (h : inR l.length n = true) : pathF l (g + 1) n = n :: pathF l g (nP l n.toNat) := by
  rw [pathF, if_pos h]

def MadeN (x : Int) (w : World) (e : Ending) (w' : World) : Prop := e = .returned (.int .i64 x) ∧ Below w.heap.size w w'
end Go.Proofs.Ytecjecgkioklaaa.Tre
