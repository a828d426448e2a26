/- The contracts of package cells' calls on Cells that lie in memory. Condition: they do, in three blocks of their own. -/
import Derived.Test.YtbpfeokheebmdaaCel
namespace Go.Proofs.Ytbpfeokheebmdaa.Cm
set_option maxRecDepth 100000
open Go.ChangeShapes Go.WideShapes Go.ChangeAt Go.RowKit Mem Cel
set_option linter.unusedVariables false
/-- the world behind a swap of place a of the list at gl, the time at g -/
def swW (g gl : Nat) (xs : List Int) (t a old v : Int) (w : World) : World :=
  if inR xs.length a = true then (if gI xs a.toNat = old then ((w.setCell ⟨g, 2, none⟩ (.int .i64 (wrap64 (t + 1)))).setCell ⟨gl, a.toNat, none⟩ (.int .i64 v)) else (w.setCell ⟨g, 2, none⟩ (.int .i64 (wrap64 (t + 1))))) else w
def ToldSw (g gl : Nat) (xs : List Int) (t a old v : Int) (w : World) (e : Ending) (w' : World) : Prop := e = .returned (.bool (swF xs t a old v).1) ∧ w' = swW g gl xs t a old v w
theorem sw_out {g gl : Nat} {xs : List Int} {t a old v : Int} {w : World} (h : inR xs.length a = false) : ToldSw g gl xs t a old v w (.returned (.bool false)) w := by
  unfold ToldSw swF swW; simp [h]
theorem sw_yes {g gl : Nat} {xs : List Int} {t old v : Int} {i : Nat} {w : World} (h : inR xs.length i = true) (he : gI xs i = old) : ToldSw g gl xs t i old v w (.returned (.bool true)) ((w.setCell ⟨g, 2, none⟩ (.int .i64 (wrap64 (t + 1)))).setCell ⟨gl, i, none⟩ (.int .i64 v)) := by
  unfold ToldSw swF swW; simp [h, he]
theorem sw_no {g gl : Nat} {xs : List Int} {t old v : Int} {i : Nat} {w : World} (h : inR xs.length i = true) (he : ¬ gI xs i = old) : ToldSw g gl xs t i old v w (.returned (.bool false)) (w.setCell ⟨g, 2, none⟩ (.int .i64 (wrap64 (t + 1)))) := by
  unfold ToldSw swF swW; simp [h, he]
def ToldB (b : Bool) (w : World) (e : Ending) (w' : World) : Prop := e = .returned (.bool b) ∧ w = w'

theorem hasW_any (A : Option Addr) (n c : Nat) (k : Int) (w : World) :
    Calls Try.prog 21 #[.slice A n c, .int .i64 k] w (ToldB (inR n k) w) := by
  by_cases h0 : 0 ≤ k
  · by_cases h1 : k < n
    · go_enter Try.func21, Try.ntmps21
      go_wp2
      go_ret
      exact ⟨by rw [inR_t h0 h1]; rfl, rfl⟩
    · go_enter Try.func21, Try.ntmps21
      go_wp2
      go_ret
      exact ⟨by rw [inR_f (by omega)]; rfl, rfl⟩
  · go_enter Try.func21, Try.ntmps21
    go_wp2
    go_ret
    exact ⟨by rw [inR_f (by omega)]; rfl, rfl⟩

theorem hasH_any (A : Option Addr) (n c : Nat) (k : Int) (w : World) :
    Calls Try.prog 22 #[.slice A n c, .int .i64 k] w (ToldB (inR n k) w) := by
  by_cases h0 : 0 ≤ k
  · by_cases h1 : k < n
    · go_enter Try.func22, Try.ntmps22
      go_wp2
      go_ret
      exact ⟨by rw [inR_t h0 h1]; rfl, rfl⟩
    · go_enter Try.func22, Try.ntmps22
      go_wp2
      go_ret
      exact ⟨by rw [inR_f (by omega)]; rfl, rfl⟩
  · go_enter Try.func22, Try.ntmps22
    go_wp2
    go_ret
    exact ⟨by rw [inR_f (by omega)]; rfl, rfl⟩

set_option maxHeartbeats 1000000 in
theorem swapW_any (g gl : Nat) (a b : Value) (t at' old v : Int) (xs : List Int) (w : World) (hk : Hid (Blk w g 51 #[a, b, .int .i64 t])) (hl : Hid (Blk w gl 2 (ints xs).toArray)) (hne : g ≠ gl) (hmax : (xs.length : Int) ≤ 9223372036854775807) :
    Calls Try.prog 23 #[.pointer (some ⟨g, 0, none⟩), .slice (some ⟨gl, 0, none⟩) xs.length xs.length, .int .i64 at', .int .i64 old, .int .i64 v] w
      (ToldSw g gl xs t at' old v w) := by
  have s2 : w.cell? ⟨g, 2, none⟩ = some (.int .i64 t) := hk.out.cell 2
  have z2 : w.frozen? ⟨g, 2, none⟩ = false := hk.out.thaw 2
  cases hr : inR xs.length at' with
  | false =>
    have HR := Lib.hid hr
    go_enter Try.func23, Try.ntmps23
    go_wp2_with (go_at_call 21; refine (hasW_any _ _ _ _ _).mono ?_; rintro e w9 ⟨rfl, rfl⟩)
    go_ret
    exact sw_out HR.out
  | true =>
    obtain ⟨r0, r1⟩ := inR_of hr
    obtain ⟨i, rfl⟩ : ∃ i : Nat, at' = i := ⟨at'.toNat, by omega⟩
    have hi : i < xs.length := by omega
    have k1 : Hid (Blk (w.setCell ⟨g, 2, none⟩ (.int .i64 (wrap64 (t + 1)))) gl 2 (ints xs).toArray) := blk_far hl.out hne.symm _
    have d0 : (w.setCell ⟨g, 2, none⟩ (.int .i64 (wrap64 (t + 1)))).cell? ⟨gl, i, none⟩ = some (.int .i64 (gI xs i)) := blk_ints_cell k1.out hi
    have d1 : (w.setCell ⟨g, 2, none⟩ (.int .i64 (wrap64 (t + 1)))).frozen? ⟨gl, i, none⟩ = false := k1.out.thaw i
    have HR := Lib.hid hr
    by_cases he : gI xs i = old
    · have e1 : Hid ((swF xs t i old v).1 = true) := by show _ = _; unfold swF; simp [hr, he]
      have e2 : (gI xs i != old) = false := by simp [he]
      have HE := Lib.hid he
      clear he r0
      go_enter Try.func23, Try.ntmps23
      go_wp2_with (go_at_call 21; refine (hasW_any _ _ _ _ _).mono ?_; rintro e w9 ⟨rfl, rfl⟩)
      go_ret
      exact sw_yes HR.out HE.out
    · have e1 : Hid ((swF xs t i old v).1 = false) := by show _ = _; unfold swF; simp [hr, he]
      have e2 : (gI xs i != old) = true := by simp [he]
      have HE := Lib.hid he
      clear he r0
      go_enter Try.func23, Try.ntmps23
      go_wp2_with (go_at_call 21; refine (hasW_any _ _ _ _ _).mono ?_; rintro e w9 ⟨rfl, rfl⟩)
      go_ret
      exact sw_no HR.out HE.out

set_option maxHeartbeats 1000000 in
theorem swapH_any (g gl : Nat) (a b : Value) (t at' old v : Int) (xs : List Int) (w : World) (hk : Hid (Blk w g 51 #[a, b, .int .i64 t])) (hl : Hid (Blk w gl 3 (ints xs).toArray)) (hne : g ≠ gl) (hmax : (xs.length : Int) ≤ 9223372036854775807) :
    Calls Try.prog 24 #[.pointer (some ⟨g, 0, none⟩), .slice (some ⟨gl, 0, none⟩) xs.length xs.length, .int .i64 at', .int .i64 old, .int .i64 v] w
      (ToldSw g gl xs t at' old v w) := by
  have s2 : w.cell? ⟨g, 2, none⟩ = some (.int .i64 t) := hk.out.cell 2
  have z2 : w.frozen? ⟨g, 2, none⟩ = false := hk.out.thaw 2
  cases hr : inR xs.length at' with
  | false =>
    have HR := Lib.hid hr
    go_enter Try.func24, Try.ntmps24
    go_wp2_with (go_at_call 22; refine (hasH_any _ _ _ _ _).mono ?_; rintro e w9 ⟨rfl, rfl⟩)
    go_ret
    exact sw_out HR.out
  | true =>
    obtain ⟨r0, r1⟩ := inR_of hr
    obtain ⟨i, rfl⟩ : ∃ i : Nat, at' = i := ⟨at'.toNat, by omega⟩
    have hi : i < xs.length := by omega
    have k1 : Hid (Blk (w.setCell ⟨g, 2, none⟩ (.int .i64 (wrap64 (t + 1)))) gl 3 (ints xs).toArray) := blk_far hl.out hne.symm _
    have d0 : (w.setCell ⟨g, 2, none⟩ (.int .i64 (wrap64 (t + 1)))).cell? ⟨gl, i, none⟩ = some (.int .i64 (gI xs i)) := blk_ints_cell k1.out hi
    have d1 : (w.setCell ⟨g, 2, none⟩ (.int .i64 (wrap64 (t + 1)))).frozen? ⟨gl, i, none⟩ = false := k1.out.thaw i
    have HR := Lib.hid hr
    by_cases he : gI xs i = old
    · have e1 : Hid ((swF xs t i old v).1 = true) := by show _ = _; unfold swF; simp [hr, he]
      have e2 : (gI xs i != old) = false := by simp [he]
      have HE := Lib.hid he
      clear he r0
      go_enter Try.func24, Try.ntmps24
      go_wp2_with (go_at_call 22; refine (hasH_any _ _ _ _ _).mono ?_; rintro e w9 ⟨rfl, rfl⟩)
      go_ret
      exact sw_yes HR.out HE.out
    · have e1 : Hid ((swF xs t i old v).1 = false) := by show _ = _; unfold swF; simp [hr, he]
      have e2 : (gI xs i != old) = true := by simp [he]
      have HE := Lib.hid he
      clear he r0
      go_enter Try.func24, Try.ntmps24
      go_wp2_with (go_at_call 22; refine (hasH_any _ _ _ _ _).mono ?_; rintro e w9 ⟨rfl, rfl⟩)
      go_ret
      exact sw_no HR.out HE.out
end Go.Proofs.Ytbpfeokheebmdaa.Cm
