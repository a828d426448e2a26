/- The contracts of the reference of layer 3 and of the law's own helpers: each call answers as the plain functions over lists of pairs say, and makes memory of its own alone. Condition: the list lies in memory, its numbers are of 64 bits. -/
import Derived.Test.YtjabfbeioapiaaaTre
namespace Go.Proofs.Ytjabfbeioapiaaa.Ref3
set_option maxRecDepth 100000
open Go.ChangeShapes Go.WideShapes Go.ChangeAt Go.RowKit Mem Tre

def MadeIB (xs : List Int) (b : Bool) (w : World) (e : Ending) (w' : World) : Prop := ∃ A c, e = .returned (.tuple #[.slice A xs.length c, .bool b]) ∧ Ris w' w'.heap.size A xs ∧ Below w.heap.size w w'
theorem madeIB_mk {xs ys : List Int} {b b' : Bool} {A : Option Addr} {c : Nat} {w w' : World} (h : ys = xs) (hb' : b' = b) (hr : Ris w' w'.heap.size A xs) (hb : Below w.heap.size w w') : MadeIB ys b' w (.returned (.tuple #[.slice A xs.length c, .bool b])) w' := by
  subst h; subst hb'; exact ⟨A, c, rfl, hr, hb⟩
theorem fitF_out {l : List (Int × Int)} {g : Nat} {n : Int} (h : inR l.length n = false) : fitF l g n = true := by
  cases g <;> simp [fitF, h]
theorem fitF_in {l : List (Int × Int)} {g : Nat} {n : Int} (h : inR l.length n = true) : fitF l (g + 1) n = fitF l g (nP l n.toNat) := by
  rw [fitF, if_pos h]

set_option maxHeartbeats 1000000 in
theorem rclimb_any (A : Option Addr) (c : Nat) (l : List (Int × Int)) (n : Int) (w : World) (hl : Hid (Nds w w.heap.size A l)) (hw : Hid (WfN l)) (hmax : (l.length : Int) ≤ 9223372036854775807) (hn : inI n) :
    Calls Try.prog 37 #[.slice A l.length c, .int .i64 n] w (MadeIB (pathF l 3 n) (fitF l 3 n) w) := by
  obtain ⟨i0, hi, hz0, hz1, hz2⟩ := info_parts int_info
  go_enter Try.func37, Try.ntmps37
  go_wp2
  go_loopg [1, 6] 3 (fun g s1 s6 w' => ∃ (m : Int) (xs : List Int) (A' : Option Addr) (c' : Nat), xs.length + g = 3 ∧ inI m ∧ s1 = .int .i64 m ∧ s6 = .slice A' xs.length c' ∧ Hid (xs ++ pathF l g m = pathF l 3 n) ∧ Hid (fitF l g m = fitF l 3 n) ∧ Hid (w'.ownsRow w.heap.size 3 1 (.slice A' xs.length c') xs.length (ints xs)) ∧ Below w.heap.size w w')
  case atStart => exact ⟨n, [], none, 0, by simp, hn, rfl, rfl, rfl, rfl, World.ownsRow_nil _ _ _ _, Below.refl _ _⟩
  case round =>
    obtain ⟨m, xs, A', c', hg, hm, rfl, rfl, hres, hfit, hown, hbel⟩ := hrel
    have hris : Hid (Ris wr wr.heap.size A' xs) := Rd.of_own hown.out
    by_cases hin : inR l.length m = true
    · obtain ⟨hr0, hr1⟩ := inR_of hin
      obtain ⟨b, o, rfl, hb, hc⟩ := Nds.at hl.out (by omega)
      by_cases h3 : xs.length < 3
      · obtain ⟨g, rfl⟩ : ∃ g, gk = g + 1 := ⟨gk - 1, by omega⟩
        have hx3 : decide (3 ≤ (xs.length : Int)) = false := by simp; omega
        have hc0 := (hc m.toNat (by omega)).1
        have hp1 := (hw.out m.toNat (by omega)).1
        have hres1 : Hid ((xs ++ [m]) ++ pathF l g (nP l m.toNat) = pathF l 3 n) := by
          show _ = _
          rw [← hres.out, pathF_in hin, List.append_assoc]; rfl
        have hfit1 : Hid (fitF l g (nP l m.toNat) = fitF l 3 n) := by
          show _ = _
          rw [← hfit.out, fitF_in hin]
        have HH := Lib.hid hc
        clear hc hin
        go_wp2_with (first
          | (at_builtin; refine wpList_app1 hown hbel rfl _ _ _ rfl i0 (.int .i64 0) 8 Try.underlying24 hi hz0 hz1 hz2 rfl (by decide) rfl rfl rfl [.int .i64 m] rfl rfl (by simp [Value.oneCell']) (by unfold maxLen; omega) (by omega) (Nat.le_refl _) hbel.size hbel.size ?_; intro A1 c1 w1 hown1 hbel1 hsz1; have hc1 : w1.cell? ⟨b, o + m.toNat * 2, none⟩ = some (.int .i64 (nP l m.toNat)) := (hbel1.cell (p := ⟨b, o + m.toNat * 2, none⟩) hb).trans hc0))
        go_roundg g
        case measure => omega
        case rel => exact ⟨nP l m.toNat, xs ++ [m], A1, c1, by simp; omega, hp1, rfl, by simp, hres1, hfit1, by rw [List.length_append, ints_snoc]; exact hown1, hbel1⟩
      · have hx3 : decide (3 ≤ (xs.length : Int)) = true := by simp; omega
        have hres1 : Hid (pathF l 3 n = xs) := by
          show _ = _
          rw [← hres.out, show gk = 0 by omega]; simp [pathF]
        have hfit1 : Hid (fitF l 3 n = false) := by
          show _ = _
          rw [← hfit.out, show gk = 0 by omega]; simp [fitF, hin]
        clear hc hin
        go_wp2_with fail
        go_ret2
        exact madeIB_mk hres1.out hfit1.out hris.out hbel
    · have hin : inR l.length m = false := by simpa using hin
      have hres1 : Hid (pathF l 3 n = xs) := by
        show _ = _
        rw [← hres.out, pathF_out hin]; simp
      have hfit1 : Hid (fitF l 3 n = true) := by
        show _ = _
        rw [← hfit.out, fitF_out hin]
      have hq : m < 0 ∨ l.length ≤ m := by
        by_cases h0 : m < 0
        · exact .inl h0
        · right
          by_cases h1 : m < l.length
          · have := inR_t (n := l.length) (k := m) (by omega) h1
            rw [this] at hin; cases hin
          · omega
      clear hin
      by_cases h0 : m < 0
      · go_wp2_with fail
        go_ret2
        exact madeIB_mk hres1.out hfit1.out hris.out hbel
      · have h1 : l.length ≤ m := by omega
        have h2 : 0 ≤ m := by omega
        clear hq
        go_wp2_with fail
        go_ret2
        exact madeIB_mk hres1.out hfit1.out hris.out hbel

theorem rpath_any (A : Option Addr) (c : Nat) (l : List (Int × Int)) (n : Int) (w : World) (hl : Hid (Nds w w.heap.size A l)) (hw : Hid (WfN l)) (hmax : (l.length : Int) ≤ 9223372036854775807) (hn : inI n) :
    Calls Try.prog 27 #[.slice A l.length c, .int .i64 n] w (MadeI (pathF l 3 n) w) := by
  go_enter Try.func27, Try.ntmps27
  go_wp2_with (go_at_call 37; refine (rclimb_any _ _ _ _ _ hl hw hmax hn).mono ?_; rintro e w1 ⟨A', c', rfl, hr, hb⟩; have HR := Lib.hid hr; clear hr)
  go_ret
  exact madeI_mk rfl HR.out hb

theorem climbF_go {l : List (Int × Int)} {g k : Nat} (h : top l 3 k = true) : climbF l (g + 1) k = climbF l g (k + 1) := by rw [climbF, if_pos h]
theorem climbF_no {l : List (Int × Int)} {g k : Nat} (h : top l 3 k = false) : climbF l (g + 1) k = (16, (k : Int)) := by rw [climbF, h]; rfl

end Go.Proofs.Ytjabfbeioapiaaa.Ref3
