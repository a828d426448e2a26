/- Books stay short and their numbers of 64 bits, whatever is done: plain facts. No program, no condition. -/
import Derived.Test.YtjabfbeioapiaaaBks
namespace Go.Proofs.Ytjabfbeioapiaaa.Bkq
set_option maxRecDepth 100000
open Go.ChangeShapes Go.WideShapes Go.RowKit Mem Tre Ref3 Law3 Bkp Bks
set_option linter.unusedVariables false
def EOk (e : En) : Prop := inI e.lf ∧ inI e.o.p
def ROk (m : Nat) (r : Ro) : Prop := r.ns.length ≤ m ∧ 0 ≤ r.cnt ∧ r.cnt ≤ m ∧ inI r.sec
structure Fw (m : Nat) (b : Bk) : Prop where
  rl : b.rows.length ≤ 1000
  ol : b.op.length ≤ m
  sh : 0 ≤ b.sh ∧ b.sh ≤ 1000
  ca : 0 ≤ b.ca ∧ b.ca ≤ m
  ro : ∀ r ∈ b.rows, ROk m r
  en : ∀ e ∈ b.op, EOk e
theorem gE_mem {l : List En} {i : Nat} (h : i < l.length) : gE l i ∈ l := by
  simp only [gE, List.getD, List.getElem?_eq_getElem h, Option.getD_some]
  exact List.getElem_mem h
theorem gR_mem {l : List Ro} {i : Nat} (h : i < l.length) : gR l i ∈ l := by
  simp only [gR, List.getD, List.getElem?_eq_getElem h, Option.getD_some]
  exact List.getElem_mem h
theorem gR_ok {m : Nat} {l : List Ro} (h : ∀ r ∈ l, ROk m r) (i : Nat) : ROk m (gR l i) := by
  by_cases hi : i < l.length
  · exact h _ (gR_mem hi)
  · have e : gR l i = ro0 := by simp [gR, List.getD, List.getElem?_eq_none (Nat.le_of_not_lt hi)]
    rw [e]
    exact ⟨Nat.zero_le _, by decide, by show (0 : Int) ≤ m; omega, by decide, by decide⟩
theorem Fw.few {m : Nat} {b : Bk} (h : Fw m b) (hm : m ≤ 1000) : FewB b := by
  refine ⟨h.rl, by have := h.ol; omega, fun i hi => ?_, h.sh, ?_, fun i hi => ?_, fun i hi => (h.ro _ (gR_mem hi)).2.2.2⟩
  · have := (h.ro _ (gR_mem hi)).1; omega
  · have := h.ca; omega
  · have := (h.ro _ (gR_mem hi)).2; omega
theorem Fw.lf {m : Nat} {b : Bk} (h : Fw m b) : ∀ i, i < b.op.length → inI (gE b.op i).lf := fun i hi => (h.en _ (gE_mem hi)).1
theorem Fw.pl {m : Nat} {b : Bk} (h : Fw m b) : ∀ i, i < b.op.length → inI (gE b.op i).o.p ∧ inI (gE b.op i).lf := fun i hi => ⟨(h.en _ (gE_mem hi)).2, (h.en _ (gE_mem hi)).1⟩
theorem Fw.mono {m m' : Nat} {b : Bk} (h : Fw m b) (hm : m ≤ m') : Fw m' b := by
  refine ⟨h.rl, by have := h.ol; omega, h.sh, by have := h.ca; omega, fun r hr => ?_, h.en⟩
  obtain ⟨h1, h2, h3, h4⟩ := h.ro r hr
  exact ⟨by omega, h2, by omega, h4⟩
def beginB (n : Nat) (sh : Int) : Bk := ⟨sh, 0, List.replicate n ro0, []⟩
theorem Fw_begin {n : Nat} {sh : Int} (hn : n ≤ 1000) (h0 : 0 ≤ sh) (h1 : sh ≤ 1000) : Fw 0 (beginB n sh) := by
  refine ⟨by simp [beginB]; exact hn, by simp [beginB], ⟨h0, h1⟩, ⟨(by show (0:Int) ≤ 0; omega), (by show (0:Int) ≤ ((0:Nat):Int); omega)⟩, fun r hr => ?_, fun e he => by simp [beginB] at he⟩
  have e := List.eq_of_mem_replicate hr
  rw [e]
  exact ⟨by decide, by decide, by decide, by decide, by decide⟩
theorem usedF_ok {m : Nat} {r : Ro} (h : ROk m r) (n t wi : Int) (ht : inI t) : ROk (m + 1) (usedF r n t wi) := by
  obtain ⟨h1, h2, h3, h4⟩ := h
  refine ⟨?_, ?_, ?_, ht⟩
  · show (List.drop _ _).length ≤ _
    rw [List.length_drop, List.length_append]
    simp only [List.length_cons, List.length_nil]
    omega
  · show 0 ≤ (if r.sec = t then r.cnt else 0) + 1
    split <;> omega
  · show (if r.sec = t then r.cnt else 0) + 1 ≤ ((m + 1 : Nat) : Int)
    split <;> omega
theorem Fw_add {m : Nat} {b : Bk} (h : Fw m b) (sk wi : Int) (o : Od) (ep : Int) (ht : inI o.t) (hp : inI o.p) (hq : inI o.q) : Fw (m + 1) (addF sk wi b o ep) := by
  refine ⟨?_, ?_, h.sh, ?_, fun r hr => ?_, fun e he => ?_⟩
  · show (List.set _ _ _).length ≤ _
    rw [List.length_set]; exact h.rl
  · show (_ ++ _ : List En).length ≤ _
    rw [List.length_append]
    have := h.ol
    simp only [List.length_cons, List.length_nil]
    omega
  · show 0 ≤ b.ca + 1 ∧ b.ca + 1 ≤ _
    have := h.ca
    omega
  · rcases List.mem_or_eq_of_mem_set hr with h1 | h1
    · obtain ⟨h1, h2, h3, h4⟩ := h.ro r h1
      exact ⟨by omega, h2, by omega, h4⟩
    · rw [h1]
      exact usedF_ok (gR_ok h.ro _) _ _ _ ht
  · have he' : e ∈ b.op ++ [_] := he
    rcases List.mem_append.1 he' with h1 | h1
    · exact h.en e h1
    · simp only [List.mem_cons, List.not_mem_nil, or_false] at h1
      rw [h1]
      exact ⟨hq, hp⟩
theorem delE_mem {l : List En} {i : Nat} {e : En} (h : e ∈ delE l i) : e ∈ l := by
  rcases List.mem_append.1 h with h1 | h1
  · exact List.mem_of_mem_take h1
  · exact List.mem_of_mem_drop h1
theorem delE_le (l : List En) (i : Nat) : (delE l i).length ≤ l.length := by
  unfold delE
  rw [List.length_append, List.length_take, List.length_drop]
  omega
theorem Fw_op {m : Nat} {b : Bk} (h : Fw m b) (op : List En) (hl : op.length ≤ m) (he : ∀ e ∈ op, EOk e) : Fw m ⟨b.sh, b.ca, b.rows, op⟩ := ⟨h.rl, hl, h.sh, h.ca, h.ro, he⟩
theorem Fw_fill {m : Nat} {b : Bk} (h : Fw m b) (k q : Int) : Fw m (fillF b k q).1 := by
  unfold fillF
  split
  · exact h
  · rename_i hq
    split
    · rename_i hp
      split
      · exact h
      · rename_i hl
        split
        · exact Fw_op h _ (by have := delE_le b.op (posE b.op k); have := h.ol; omega) (fun e he => h.en e (delE_mem he))
        · refine Fw_op h _ (by rw [List.length_set]; exact h.ol) (fun e he => ?_)
          rcases List.mem_or_eq_of_mem_set he with h1 | h1
          · exact h.en e h1
          · rw [h1]
            obtain ⟨h2, h3⟩ := h.en _ (gE_mem hp)
            refine ⟨?_, h3⟩
            show inI (_ - q)
            obtain ⟨h4, h5⟩ := h2
            exact ⟨by omega, by omega⟩
    · exact h
theorem Fw_ack {m : Nat} {b : Bk} (h : Fw m b) (k : Int) : Fw m (ackF b k).1 := by
  unfold ackF
  split
  · split
    · exact h
    · exact Fw_op h _ (by have := delE_le b.op (posE b.op k); have := h.ol; omega) (fun e he => h.en e (delE_mem he))
  · exact h
theorem Fw_cancel {m : Nat} {b : Bk} (h : Fw m b) (k : Int) : Fw m (cancelF b k).1 := by
  unfold cancelF
  split
  · rename_i hp
    split
    · exact h
    · refine Fw_op h _ (by rw [List.length_set]; exact h.ol) (fun e he => ?_)
      rcases List.mem_or_eq_of_mem_set he with h1 | h1
      · exact h.en e h1
      · rw [h1]
        exact (h.en _ (gE_mem hp) : EOk (gE b.op (posE b.op k)))
  · exact h
end Go.Proofs.Ytjabfbeioapiaaa.Bkq
