/- Opening an argument that is a slice of bytes; messages in a row, read by place. Over any program. No condition. -/
import Derived.Test.YtkobldddiedmdaaWal
import Derived.Test.YtkobldddiedmdaaFew5
import Derived.Test.YtkobldddiedmdaaOpn
namespace Go.Proofs.Ytkobldddiedmdaa.Wbo
set_option maxRecDepth 100000
open Go.ChangeShapes Go.WideShapes Go.RowKit Mem Opn Wpl Wal Few5
theorem u8_of {x : Int} (h : (Lit.int .u8 x).wf = true) : ((UInt8.ofNat x.toNat).toNat : Int) = x := by
  simp [Lit.wf] at h
  have e : IntKind.u8.max = 255 := rfl
  have e0 : IntKind.u8.min = 0 := rfl
  have h2 : x ≤ IntKind.u8.max := by first | exact h.2 | exact h
  have h1 : IntKind.u8.min ≤ x := by first | exact h.1 | exact h
  rw [UInt8.toNat_ofNat']
  omega
section
variable {H : Type} {enc : TypeId × Value → H} {P : Program} {w : World}
theorem open_bytes {t e : TypeId} {v : Value} {fuel : Nat} {x : DataW H × List MemPlace} {base : Nat} {held : Bool} (ht : P.underlying t = some (.slice e)) (he : P.underlying e = some (.int .u8)) (hc : P.cellsOf e = 1)
    (h : DataW.trod enc P w base (fun _ => true) held fuel t [v] = some x) : ∃ A c l, v = .slice A l.length c ∧ l.length ≤ c ∧ c ≤ maxLen ∧ By w w.heap.size A l := by
  rcases open_ints ht he hc h with ⟨h1, _⟩ | ⟨a, len, cap, zs, h1, _, hl, hm, hz, _, hcell, hwf⟩
  · injection h1 with h1
    exact ⟨none, 0, [], h1, by simp, by unfold maxLen; omega, .inl rfl⟩
  · injection h1 with h1
    simp only [if_true] at hz
    have hlen : ((zs.take len).map fun n => UInt8.ofNat n.toNat).length = len := by rw [List.length_map, List.length_take]; omega
    refine ⟨some a, cap, (zs.take len).map fun n => UInt8.ofNat n.toNat, by rw [hlen]; exact h1, by rw [hlen]; exact hl, hm, ?_⟩
    by_cases h0 : len = 0
    · subst h0; exact .inl (by simp [bts])
    · obtain ⟨ab, ao, asp⟩ := a
      have h00 := hcell 0 (by omega)
      have hs := spot_none h00
      subst hs
      refine .inr ⟨ab, ao, rfl, ?_, ?_⟩
      · have := blk_lt h00
        simpa [Addr.add] using this
      · intro i v hv
        have hil : i < len := by
          have := (List.getElem?_eq_some_iff.1 hv).1
          rwa [bts_len, hlen] at this
        have hci := hcell i (by omega)
        rw [add_lit'] at hci
        rw [hci]
        have hz' : i < zs.length := by omega
        have hw := hwf zs[i] (List.getElem_mem hz')
        have : (bts ((zs.take len).map fun n => UInt8.ofNat n.toNat))[i]? = some (.int .u8 (zs.getD i 0)) := by
          have e8 := u8_of hw
          simp [bts, hil, hz'] at e8 ⊢
          exact e8
        rw [this] at hv
        exact hv
theorem by_cut {B : Nat} {A : Option Addr} {l : List UInt8} (h : By w B A l) (m : Nat) : By w B A (l.take m) := by
  have e : bts l = bts (l.take m) ++ bts (l.drop m) := by rw [← bts_app, List.take_append_drop]
  unfold By at h ⊢
  rw [e] at h
  exact front h
end
def gM (ms : List M) (i : Nat) : M := ms.getD i m0
theorem mrow_get (ms : List M) (i j : Nat) (hi : i < ms.length) (hj : j < 12) : (mrow ms)[i * 12 + j]? = (mvs (gM ms i))[j]? := by
  induction ms generalizing i with
  | nil => simp at hi
  | cons m ms ih =>
    cases i with
    | zero =>
      show (mvs m ++ mrow ms)[0 * 12 + j]? = (mvs m)[j]?
      rw [List.getElem?_append_left (by simp [mvs]; omega)]
      simp
    | succ i =>
      have h := ih i (by simpa using hi)
      show (mvs m ++ mrow ms)[(i + 1) * 12 + j]? = (mvs (gM ms i))[j]?
      rw [List.getElem?_append_right (by simp [mvs]; omega), ← h]
      congr 1
      simp [mvs]
      omega
theorem Ms.at {w : World} {B : Nat} {A : Option Addr} {ms : List M} (h : Rd w B A (mrow ms)) {i : Nat} (hi : i < ms.length) :
    ∃ b o, A = some ⟨b, o, none⟩ ∧ b < B ∧ ∀ j, j < ms.length → w.cell? ⟨b, o + j * 12 + 0, none⟩ = some (.int .i64 (gM ms j).k) ∧ w.cell? ⟨b, o + j * 12 + 1, none⟩ = some (.int .i64 (gM ms j).a) ∧ w.cell? ⟨b, o + j * 12 + 2, none⟩ = some (.int .i64 (gM ms j).s) ∧ w.cell? ⟨b, o + j * 12 + 3, none⟩ = some (.bool (gM ms j).x) ∧ w.cell? ⟨b, o + j * 12 + 4, none⟩ = some (.int .i64 (gM ms j).p) ∧ w.cell? ⟨b, o + j * 12 + 5, none⟩ = some (.int .i64 (gM ms j).q) ∧ w.cell? ⟨b, o + j * 12 + 6, none⟩ = some (.int .i64 (gM ms j).n) ∧ w.cell? ⟨b, o + j * 12 + 7, none⟩ = some (.int .i64 (gM ms j).t) ∧ w.cell? ⟨b, o + j * 12 + 8, none⟩ = some (.int .i64 (gM ms j).i) ∧ w.cell? ⟨b, o + j * 12 + 9, none⟩ = some (.int .i64 (gM ms j).y) ∧ w.cell? ⟨b, o + j * 12 + 10, none⟩ = some (.int .i64 (gM ms j).z) ∧ w.cell? ⟨b, o + j * 12 + 11, none⟩ = some (.int .i64 (gM ms j).v) := by
  obtain ⟨b, o, hA, hb, hc⟩ := Rd.at h (by intro e; have := mrow_len ms; rw [e] at this; simp at this; omega)
  refine ⟨b, o, hA, hb, fun j hj => ?_⟩
  have g : ∀ k, k < 12 → ∀ v, (mvs (gM ms j))[k]? = some v → w.cell? ⟨b, o + j * 12 + k, none⟩ = some v := by
    intro k hk v hv
    rw [Nat.add_assoc]
    exact hc _ _ ((mrow_get ms j k hj hk).trans hv)
  exact ⟨g 0 (by decide) _ rfl, g 1 (by decide) _ rfl, g 2 (by decide) _ rfl, g 3 (by decide) _ rfl, g 4 (by decide) _ rfl, g 5 (by decide) _ rfl, g 6 (by decide) _ rfl, g 7 (by decide) _ rfl, g 8 (by decide) _ rfl, g 9 (by decide) _ rfl, g 10 (by decide) _ rfl, g 11 (by decide) _ rfl⟩
end Go.Proofs.Ytkobldddiedmdaa.Wbo
