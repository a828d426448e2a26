/- Words for a variable that holds a State while a law goes on, and for a node that an amount picks: over any world. No condition. -/
import Derived.Test.YtlipkggcakgcnaaTold4
import Derived.Test.YtlipkggcakgcnaaTo4
import Derived.Test.YtlipkggcakgcnaaOpt
namespace Go.Proofs.Ytlipkggcakgcnaa.Edw
set_option maxRecDepth 100000
open Go.ChangeShapes Go.WideShapes Go.ChangeAt Go.RowKit Mem Tre Ref3 Law3 Fix3 Crd CrdB CrdC Cpl Own Res Rr4 Sm4 Told4 To4 Go.Joins Go.Deep
/-- a variable of the program's takes another State -/
theorem stv_store {W : World} {g n n' c c' : Nat} {te : TypeId} {A A' B B' : Option Addr} {d d' : Nat} {l : List (Int × Int)} {v : List Int} (h : Blk W g te #[.slice A n c, .slice A' n' c']) {m m' : Nat} (h1 : Nds W W.heap.size B l) (h2 : Ris W W.heap.size B' v) :
    StV ((W.setCell ⟨g, 0, none⟩ (.slice B m d)).setCell ⟨g, 1, none⟩ (.slice B' m' d')) g te B B' m m' d d' l v := by
  have k1 : Blk (W.setCell ⟨g, 0, none⟩ (.slice B m d)) g te #[.slice B m d, .slice A' n' c'] := blk_set h 0 _
  exact ⟨blk_set k1 1 _, rd_setBlk (rd_setBlk h1 h (allInt_nds l) _) k1 (allInt_nds l) _, rd_setBlk (rd_setBlk h2 h (allInt_ints v) _) k1 (allInt_ints v) _⟩
/-- another variable stays -/
theorem stv_far {W : World} {g n n' c c' g2 m m' d d' q q' r r' : Nat} {te te2 : TypeId} {A A' B B' E E' : Option Addr} {l : List (Int × Int)} {u : List Int} (h : Blk W g te #[.slice A n c, .slice A' n' c']) (h2 : StV W g2 te2 B B' m m' d d' l u) (hne : g2 ≠ g) :
    StV ((W.setCell ⟨g, 0, none⟩ (.slice E q r)).setCell ⟨g, 1, none⟩ (.slice E' q' r')) g2 te2 B B' m m' d d' l u := by
  have k1 : Blk (W.setCell ⟨g, 0, none⟩ (.slice E q r)) g te #[.slice E q r, .slice A' n' c'] := blk_set h 0 _
  exact ⟨blk_far (blk_far h2.blk (by simpa using hne) _) (by simpa using hne) _, rd_setBlk (rd_setBlk h2.nds h (allInt_nds l) _) k1 (allInt_nds l) _, rd_setBlk (rd_setBlk h2.ris h (allInt_ints u) _) k1 (allInt_ints u) _⟩
theorem stv_drew {W : World} {g n n' c c' : Nat} {te : TypeId} {A A' : Option Addr} {l : List (Int × Int)} {u : List Int} (h : StV W g te A A' n n' c c' l u) : StV W.drew g te A A' n n' c c' l u := ⟨h.blk, h.nds, h.ris⟩
theorem i64_in (x : Int) : inI (IntKind.i64.wrap x) := by unfold inI; rw [IntKind.wrap_i64]; omega
theorem i64_lo (x : Int) : -9223372036854775808 ≤ IntKind.i64.wrap x := (i64_in x).1
theorem i64_hi (x : Int) : IntKind.i64.wrap x ≤ 9223372036854775807 := (i64_in x).2
theorem stv_drewN {W : World} {g n n' c c' : Nat} {te : TypeId} {A A' : Option Addr} {l : List (Int × Int)} {u : List Int} (h : StV W g te A A' n n' c c' l u) (N : Nat) : StV (W.drewN N) g te A A' n n' c c' l u := ⟨h.blk, h.nds, h.ris⟩
theorem nds_store {W : World} {g n n' c c' : Nat} {te : TypeId} {A A' : Option Addr} (h : Blk W g te #[.slice A n c, .slice A' n' c']) {B : Option Addr} {f : List (Int × Int)} (h1 : Nds W W.heap.size B f) (a b : Option Addr) (m m' d d' : Nat) :
    Nds ((W.setCell ⟨g, 0, none⟩ (.slice a m d)).setCell ⟨g, 1, none⟩ (.slice b m' d')) ((W.setCell ⟨g, 0, none⟩ (.slice a m d)).setCell ⟨g, 1, none⟩ (.slice b m' d')).heap.size B f := by
  have k1 : Blk (W.setCell ⟨g, 0, none⟩ (.slice a m d)) g te #[.slice a m d, .slice A' n' c'] := blk_set h 0 _
  exact rd_setBlk (rd_setBlk h1 h (allInt_nds f) _) k1 (allInt_nds f) _

theorem k_in (leaf : Int) (n : Nat) (h0 : 1 ≤ n) (h1 : n ≤ 32) : 0 ≤ wrap64 ((IntKind.u64.wrap leaf).tmod (n : Int)) ∧ wrap64 ((IntKind.u64.wrap leaf).tmod (n : Int)) < n := by
  rw [wrap_u64, Int.tmod_eq_emod_of_nonneg (Int.emod_nonneg _ (by decide))]
  have a := Int.emod_nonneg (leaf % 18446744073709551616) (b := (n : Int)) (by omega)
  have b := Int.emod_lt_of_pos (leaf % 18446744073709551616) (b := (n : Int)) (by omega)
  generalize leaf % 18446744073709551616 % (n : Int) = r at *
  unfold wrap64
  omega

end Go.Proofs.Ytlipkggcakgcnaa.Edw
