/- The contract of the law's To: a State of the reference's as the program has it. Condition: the State lies in memory. -/
import Derived.Test.YtjabfbeioapiaaaSm4
namespace Go.Proofs.Ytjabfbeioapiaaa.To4
set_option maxRecDepth 100000
open Go.ChangeShapes Go.WideShapes Go.ChangeAt Go.RowKit Mem Tre Ref3 Law3 Fix3 Crd CrdB CrdC Cpl Own Res Rr4 Sm4
set_option linter.unusedVariables false

theorem rd_grown_empty {w w' : World} {B g : Nat} {A : Option Addr} {xs : List Value} {te : TypeId} (h : Rd w B A xs) (hk : Blk w g te #[]) (hg : w.grownBy w' (some g)) : Rd w' w'.heap.size A xs := by
  rcases h with h | ⟨b, o, hA, hb, hc⟩
  · exact .inl h
  · by_cases hx : xs = []
    · exact .inl hx
    · have h0 : 0 < xs.length := by cases xs with | nil => exact absurd rfl hx | cons a l => simp
      have hc0 := hc 0 _ (List.getElem?_eq_getElem h0)
      have hne : b ≠ g := by
        rintro rfl
        rw [hk.cell] at hc0
        simp at hc0
      have hl := World.block_lt_of_cell? w _ hc0
      refine .inr ⟨b, o, hA, Nat.lt_of_lt_of_le hl hg.size, fun i v hi => ?_⟩
      exact (World.cell?_of_block (w := w) (a := ⟨b, o + i, none⟩) (hg.block b hl (by intro e; injection e with e; exact hne e))).trans (hc i v hi)
theorem below_grown {w0 w w' : World} {g : Nat} (h : Below w0.heap.size w0 w) (hg : w.grownBy w' (some g)) (hl : w0.heap.size ≤ g) : Below w0.heap.size w0 w' :=
  h.grown hg h.size (fun k hk => by injection hk with hk; omega)

def AllInt (xs : List Value) : Prop := ∀ v ∈ xs, ∃ (k : IntKind) (x : Int), v = .int k x
theorem allInt_ints (u : List Int) : AllInt (ints u) := by
  intro v hv
  simp only [ints, List.mem_map] at hv
  obtain ⟨x, _, rfl⟩ := hv
  exact ⟨_, _, rfl⟩
theorem allInt_nds (l : List (Int × Int)) : AllInt (nds l) := by
  intro v hv
  simp only [nds, ndV, List.mem_flatMap] at hv
  obtain ⟨x, _, h⟩ := hv
  simp at h
  rcases h with rfl | rfl <;> exact ⟨_, _, rfl⟩
theorem rd_setBlk {w : World} {B g j n n' c c' : Nat} {A a a' : Option Addr} {xs : List Value} {te : TypeId} (h : Rd w B A xs) (hk : Blk w g te #[.slice a n c, .slice a' n' c']) (hi : AllInt xs) (u : Value) : Rd (w.setCell ⟨g, j, none⟩ u) (w.setCell ⟨g, j, none⟩ u).heap.size A xs := by
  rcases h with h | ⟨b, o, hA, hb, hc⟩
  · exact .inl h
  · by_cases hx : xs = []
    · exact .inl hx
    · have h0 : 0 < xs.length := by cases xs with | nil => exact absurd rfl hx | cons a l => simp
      have hc0 := hc 0 _ (List.getElem?_eq_getElem h0)
      obtain ⟨k, x, hv⟩ := hi _ (List.getElem_mem h0)
      rw [hv] at hc0
      have hne := blk_ne hk hc0
      refine Rd.keep' (.inr ⟨b, o, hA, hb, hc⟩) (Nat.lt_succ_self g) (fun q hq => ?_) u
      rw [hA] at hq
      injection hq with hq
      subst hq
      exact hne
end Go.Proofs.Ytjabfbeioapiaaa.To4
