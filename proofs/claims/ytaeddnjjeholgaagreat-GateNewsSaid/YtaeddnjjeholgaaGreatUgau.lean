/- Texts side by side. -/
import Derived.Test.YtaeddnjjeholgaaGreatUgat
set_option linter.unusedVariables false
set_option linter.unusedSimpArgs false
set_option maxRecDepth 100000
set_option maxHeartbeats 16000000
namespace Go.Proofs.YtaeddnjjeholgaaGreat
open Kap Lat Lax Go.ChangeShapes Go.WideShapes Go.ChangeAt Go.RowKit Go.Lib Mem Cel Bkp Bks Wpl Hpa Gpl Mdp Cfg Gow Gac Gat Gup Gex Gth
namespace Gmz
abbrev No : Nat → Prop := fun _ => False
section
variable {base : Nat} {ρ : Nat → Nat} {w w' : World} {g0 g : Nat} {q : Gq} {G : Gp} {r : Aq} {a : Ap} {gp : Option Nat} {v : Value}
theorem fx (hb : Below w.heap.size w w') : Fs No ρ w ρ w' := Fs.quiet hb
theorem Gt.ext (h : Gt base ρ w g0 q G) (hb : Below w.heap.size w w') : Gt base ρ w' g0 q G := Gt.fs h (fx hb) (fun k hk => h.new k (Nat.le_trans hb.size hk)) (fun _ _ h => h)
theorem Ac.ext (h : Ac ρ w g0 g r a) (hb : Below w.heap.size w w') : Ac ρ w' g0 g r a := Ac.fs h (fx hb) id id
theorem B1.ext {b : Nat} {te : TypeId} {cs : Array Value} (h : B1 ρ w b te cs) (hb : Below w.heap.size w w') : B1 ρ w' b te cs := B1.fs h (fx hb) id
theorem IsDec.ext {d : Dec} (h : IsDec ρ w g0 g gp d v) (hb : Below w.heap.size w w') : IsDec ρ w' g0 g gp d v := IsDec.fs h (fx hb) id
theorem IsSee.ext {d : See} (h : IsSee ρ w g0 g gp d v) (hb : Below w.heap.size w w') : IsSee ρ w' g0 g gp d v := IsSee.fs h (fx hb) id
theorem IsDn.ext {d : Dn} (h : IsDn ρ w g0 g gp d v) (hb : Below w.heap.size w w') : IsDn ρ w' g0 g gp d v := IsDn.fs h (fx hb) id
theorem IsA0.ext {d : A0} (h : IsA0 ρ w g0 g gp d v) (hb : Below w.heap.size w w') : IsA0 ρ w' g0 g gp d v := IsA0.fs h (fx hb) id
theorem IsAcc.ext {d : Acc} (h : IsAcc ρ w g0 g gp d v) (hb : Below w.heap.size w w') : IsAcc ρ w' g0 g gp d v := IsAcc.fs h (fx hb) id
theorem Are.ext {l : List Acc} {us : List Value} (h : Are (IsAcc ρ w g0 g gp) l us) (hb : Below w.heap.size w w') : Are (IsAcc ρ w' g0 g gp) l us := h.mono fun _ _ k => IsAcc.fs k (fx hb) id
theorem B1.mk {te : TypeId} {cs : Array Value} {b : Nat} (hz : ∀ k, w.heap.size ≤ k → ρ k = 0) (hb : b = w.heap.size) : B1 ρ (w.alloc (.cells cs te)) b te cs := by
  subst hb; exact ⟨Blk.fresh _ _ _, hz _ (Nat.le_refl _)⟩
theorem new_alloc {o : Obj} (hz : ∀ k, w.heap.size ≤ k → ρ k = 0) : ∀ k, (w.alloc o).heap.size ≤ k → ρ k = 0 := fun k hk => hz k (by simp at hk; omega)
end
def MadeA (ρ : Nat → Nat) (g0 g : Nat) (gp : Option Nat) (w : World) (x : Acc) (e : Ending) (w' : World) : Prop := ∃ k cap, e = .returned (.func (.func k) #[] cap) ∧ IsAcc ρ w' g0 g gp x (.func (.func k) #[] cap) ∧ Below w.heap.size w w'
section
variable {ρ : Nat → Nat} {w : World} (g0 : Nat) {g : Nat} (gp : Option Nat) (hz : ∀ k, w.heap.size ≤ k → ρ k = 0)
include hz
theorem take_acc (l : Int) : Calls Tryz.prog 108 #[pv g, .int .i64 l] w (MadeA ρ g0 g gp w (.one (.take l))) := by
  refine (Gmk.take_any l g w).mono ?_
  rintro e w9 ⟨rfl, rfl⟩
  exact ⟨_, _, rfl, ⟨_, _, rfl, B1.ext (B1.mk hz rfl) (β _ _), B1.mk (new_alloc hz) (by simp [Gmk.bx])⟩, γ _ _ _⟩
theorem free_acc (l : Int) : Calls Tryz.prog 118 #[pv g, .int .i64 l] w (MadeA ρ g0 g gp w (.one (.free l))) := by
  refine (Gmk.free_any l g w).mono ?_
  rintro e w9 ⟨rfl, rfl⟩
  exact ⟨_, _, rfl, ⟨_, _, rfl, B1.ext (B1.mk hz rfl) (β _ _), B1.mk (new_alloc hz) (by simp [Gmk.bx])⟩, γ _ _ _⟩
theorem store_acc (l v : Int) : Calls Tryz.prog 142 #[pv g, .int .i64 l, .int .i64 v] w (MadeA ρ g0 g gp w (.one (.store l v))) := by
  refine (Gmk.store_any l v g w).mono ?_
  rintro e w9 ⟨rfl, rfl⟩
  exact ⟨_, _, rfl, ⟨_, _, _, rfl, B1.ext (B1.mk hz rfl) (γ _ _ _), B1.ext (B1.mk (new_alloc hz) (by simp [Gmk.bx])) (β _ _), B1.mk (new_alloc (new_alloc hz)) (by simp [Gmk.bx])⟩, below_step (γ _ _ _) (β _ _)⟩
theorem load_acc (l : Int) (s : See) (k : Nat) (cap : Array Value) (hs : IsSee ρ w g0 g gp s (.func (.func k) #[] cap)) : Calls Tryz.prog 130 #[pv g, .int .i64 l, .func (.func k) #[] cap] w (MadeA ρ g0 g gp w (.one (.load l s))) := by
  refine (Gmk.load_any l k cap g w).mono ?_
  rintro e w9 ⟨rfl, rfl⟩
  exact ⟨_, _, rfl, ⟨_, _, _, _, rfl, B1.mk (new_alloc (new_alloc hz)) (by simp [Gmk.bx]), B1.ext (B1.mk hz rfl) (γ _ _ _), B1.ext (B1.mk (new_alloc hz) (by simp [Gmk.bx])) (β _ _), IsSee.ext hs (below_step (γ _ _ _) (β _ _))⟩, below_step (γ _ _ _) (β _ _)⟩
theorem after_acc (x : A0) (d : Dn) (k j : Nat) (cf cd : Array Value) (hx : IsA0 ρ w g0 g gp x (.func (.func k) #[] cf)) (hd : IsDn ρ w g0 g gp d (.func (.func j) #[] cd)) : Calls Tryz.prog 122 #[.func (.func k) #[] cf, .func (.func j) #[] cd] w (MadeA ρ g0 g gp w (.aft x d)) := by
  refine (Gmk.after_any k j cf cd w).mono ?_
  rintro e w9 ⟨rfl, rfl⟩
  exact ⟨_, _, rfl, ⟨_, _, _, _, rfl, B1.ext (B1.mk hz rfl) (β _ _), B1.mk (new_alloc hz) (by simp [Gmk.bx]), IsA0.ext hx (γ _ _ _), IsDn.ext hd (γ _ _ _)⟩, γ _ _ _⟩
theorem look_acc (p : Int) (d : Dec) (k : Nat) (cap : Array Value) (hd : IsDec ρ w g0 g gp d (.func (.func k) #[] cap)) : Calls Tryz.prog 101 #[pv g, .int .i64 p, .func (.func k) #[] cap] w (MadeA ρ g0 g gp w (.one (.load 0 (.look p d)))) := by
  refine (Gmk.look_any p k cap g w).mono ?_
  rintro e w9 ⟨rfl, rfl⟩
  unfold Gmk.lookW Gmk.bx
  have z1 := new_alloc (o := .cells #[pv g] 46) hz
  have z2 := new_alloc (o := .cells #[.int .i64 p] 3) z1
  have z3 := new_alloc (o := .cells #[.func (.func k) #[] cap] 179) z2
  have z4 := new_alloc (o := .cells #[pv g] 46) z3
  have z5 := new_alloc (o := .cells #[.int .i64 0] 3) z4
  have b3 := below_step (γ w (.cells #[pv g] 46) (.cells #[.int .i64 p] 3)) (β _ (.cells #[.func (.func k) #[] cap] 179))
  have k1 := B1.mk (b := w.heap.size) (te := 46) (cs := #[pv g]) hz rfl
  have k2 := B1.mk (b := w.heap.size + 1) (te := 3) (cs := #[.int .i64 p]) z1 (by simp)
  have k3 := B1.mk (b := w.heap.size + 1 + 1) (te := 179) (cs := #[.func (.func k) #[] cap]) z2 (by simp)
  have k4 := B1.mk (b := w.heap.size + 1 + 1 + 1) (te := 46) (cs := #[pv g]) z3 (by simp)
  have k5 := B1.mk (b := w.heap.size + 1 + 1 + 1 + 1) (te := 3) (cs := #[.int .i64 0]) z4 (by simp)
  have e5 := below_step (γ (((w.alloc (.cells #[pv g] 46)).alloc (.cells #[.int .i64 p] 3)).alloc (.cells #[.func (.func k) #[] cap] 179)) (.cells #[pv g] 46) (.cells #[.int .i64 0] 3)) (β _ (.cells #[.func (.func 145) #[] #[pv w.heap.size, pv (w.heap.size + 1), pv (w.heap.size + 1 + 1)]] 204))
  have hs : IsSee ρ _ g0 g gp (.look p d) (.func (.func 145) #[] #[pv w.heap.size, pv (w.heap.size + 1), pv (w.heap.size + 1 + 1)]) := ⟨_, _, _, _, rfl, B1.ext k1 (below_step (γ _ _ _) e5), B1.ext k2 (below_step (β _ _) e5), B1.ext k3 e5, IsDec.ext hd (below_step b3 e5)⟩
  exact ⟨_, _, rfl, ⟨_, _, _, _, rfl, B1.mk z5 (by simp), B1.ext k4 (γ _ _ _), B1.ext k5 (β _ _), hs⟩, below_step b3 e5⟩
end
end Gmz
namespace Grf
open Gmz
theorem refuse_any (base : Nat) (ρ : Nat → Nat) (q : Gq) (r : Aq) (g0 g : Nat) (c : Int) (G : Gp) (a : Ap) (w : World) (HG : Hid (Gt base ρ w g0 q G)) (ha : Hid (Ac ρ w g0 g r a)) (hmax : a.todo.length ≤ 100000) :
    Calls Tryz.prog 75 #[pv g, .int .i64 c] w (MadeT base ρ q g0 g r.gp w (.tuple #[]) G (thenA a [.one (.load 0 (.look a.place (.refuse c)))])) := by
  have hmf := Gmk.make_f
  go_enter Tryz.func75, Tryz.ntmps75
  have z1 := HG.out.new
  have z2 := new_alloc (o := .cells #[pv g] 46) z1
  have z3 := new_alloc (o := .cells #[.int .i64 c] 37) z2
  have b4 : Below w.heap.size w ((((w).alloc (.cells #[pv g] 46)).alloc (.cells #[.int .i64 c] 37)).drew) := (below_step (β (w) _) (β ((w).alloc (.cells #[pv g] 46)) _)).drew
  have K5 : Hid (B1 ρ ((((w).alloc (.cells #[pv g] 46)).alloc (.cells #[.int .i64 c] 37)).drew) (w.heap.size) 46 #[pv g]) := κ (B1.ext (B1.ext (B1.mk (b := w.heap.size) (te := 46) (cs := #[pv g]) z1 (by simp)) (β ((w).alloc (.cells #[pv g] 46)) _)) (Below.refl _ _).drew)
  have K6 : Hid (B1 ρ ((((w).alloc (.cells #[pv g] 46)).alloc (.cells #[.int .i64 c] 37)).drew) (w.heap.size + 1) 37 #[.int .i64 c]) := κ (B1.ext (B1.mk (b := w.heap.size + 1) (te := 37) (cs := #[.int .i64 c]) z2 (by simp)) (Below.refl _ _).drew)
  have H7 := κ (Gt.ext HG.out b4)
  have H8 := κ (Ac.ext ha.out b4)
  go_upto_region 1 with fail
  obtain ⟨g9, e10⟩ : ∃ x, x = w.heap.size + 1 := ⟨_, rfl⟩
  obtain ⟨g11, e12⟩ : ∃ x, x = w.heap.size := ⟨_, rfl⟩
  simp only [← e10] at K5 K6 ⊢
  simp only [← e12] at K5 K6 ⊢
  clear e10 e12
  have F13 : Hid (Fs (· = g + 8) ρ w ρ ((((w).alloc (.cells #[pv g] 46)).alloc (.cells #[.int .i64 c] 37)).drew)) := κ (Fs.quiet b4)
  let T14 : World → Prop := fun w' => w'.cell? ⟨g11, 0, none⟩ = some (.pointer (some ⟨g, 0, none⟩)) ∧ w'.cell? ⟨g, 2, none⟩ = some (.int .i64 a.place)
  have P15 : Hid (T14 (((w).alloc (.cells #[pv g] 46)).alloc (.cells #[.int .i64 c] 37)).drew) := κ ⟨(K5.out.1.cell 0), (Ac.c2 H8.out :)⟩
  refine Ω T14 [] ?_
  generalize (((w).alloc (.cells #[pv g] 46)).alloc (.cells #[.int .i64 c] 37)).drew = wd at H7 H8 K6 K5 F13 P15 ⊢
  refine jB 0 P15.out ?_
  refine jB 1 P15.out ?_
  refine jB 2 P15.out ?_
  refine jA 3 P15.out ?_
  refine jA 4 P15.out ?_
  refine jB 5 P15.out ?_
  refine jA 6 P15.out ?_
  refine jN 7 fun K' hK => ?_
  go_simp
  refine (look_acc g0 r.gp H7.out.new a.place (.refuse c) 102 #[pv g9, pv g11] ⟨_, _, rfl, K6.out, K5.out⟩).mono ?_
  rintro e w18 ⟨k16, cap17, rfl, i19, b20⟩
  have H21 := κ (Gt.ext H7.out b20)
  have H22 := κ (Ac.ext H8.out b20)
  have H23 := κ (B1.ext K6.out b20)
  have H24 := κ (B1.ext K5.out b20)
  have i19 := κ i19
  have F25 := κ (F13.out.trans (Fs.quiet b20))
  have P26 : Hid (T14 w18) := κ ⟨(H24.out.1.cell 0), (Ac.c2 H22.out :)⟩
  refine hK.out _ _ P26.out ?_
  clear hK K'
  refine jP ?_
  refine jN 8 fun K' hK => ?_
  go_simp
  have b28 := β (w18) (.cells #[(.func (.func k16) #[] cap17)] 126)
  have K29 := κ (Blk.fresh (w18) 126 #[(.func (.func k16) #[] cap17)])
  have H32 := κ (Gt.ext H21.out b28)
  have H33 := κ (Ac.ext H22.out b28)
  have H34 := κ (B1.ext H23.out b28)
  have H35 := κ (B1.ext H24.out b28)
  have L36 : Hid (Are (IsAcc ρ ((w18).alloc (.cells #[(.func (.func k16) #[] cap17)] 126)) g0 g r.gp) [.one (.load 0 (.look a.place (.refuse c)))] [(.func (.func k16) #[] cap17)]) := κ (.cons (IsAcc.ext i19.out b28) (.nil))
  obtain ⟨g30, e31⟩ : ∃ x, x = w18.heap.size := ⟨_, rfl⟩
  simp only [← e31] at K29 ⊢
  clear e31
  have F37 := κ (F25.out.trans (Fs.quiet b28))
  generalize (w18).alloc (.cells #[(.func (.func k16) #[] cap17)] 126) = w27 at H32 H33 H34 H35 L36 K29 F37 ⊢
  have P38 : Hid (T14 w27) := κ ⟨(H35.out.1.cell 0), (Ac.c2 H33.out :)⟩
  refine hK.out _ _ P38.out ?_
  clear hK K'
  refine jP ?_
  refine jN 9 fun K' hK => ?_
  go_simp
  refine (then_any base ρ q r g0 g g30 1 G a _ _ w27 H32 H33 K29 L36 (κ rfl) (by decide) (by omega)).mono ?_
  rintro e w41 ⟨rfl, ρ39, r40, f42, H43, H44, p45⟩
  have H46 := κ (B1.fs H34.out f42 (by omega))
  have H47 := κ (B1.fs H35.out f42 (by omega))
  have H43 := κ H43
  have H44 := κ H44
  have p45 := κ p45
  have F48 := κ (Fs.trans F37.out f42)
  have P49 : Hid (T14 w41) := κ ⟨(H47.out.1.cell 0), (Ac.c2 H44.out :)⟩
  refine hK.out _ _ P49.out ?_
  clear hK K'
  refine jP ?_
  refine Δ ?_
  go_wp2_with fail
  exact bodyPost_ret (v := .tuple #[]) (by simp [results, Tryz.results75, go_sem]) rfl ⟨rfl, ρ39, r40, F48.out, H43.out, H44.out, p45.out⟩
end Grf
namespace Gsn
open Gmz Cn Gsm
theorem nodeLatch_any (base : Nat) (ρ : Nat → Nat) (q : Gq) (g0 : Nat) (n : Int) (G : Gp) (w : World) (HG : Hid (Gt base ρ w g0 q G)) (h0 : 0 ≤ n) (h1 : n ≤ 1000) (s0 : 0 ≤ G.sh) (s1 : G.sh ≤ 1000) : Calls Tryz.prog 37 #[pv g0, .int .i64 n] w (ToldV (.int .i64 (ndL G n)) w) := by
  have t0 := Gt.c0 HG.out
  have e1 : wrap64 (2 + G.sh) = 2 + G.sh := w64 (by omega) (by omega)
  have e2 : wrap64 (2 + G.sh + n) = 2 + G.sh + n := w64 (by omega) (by omega)
  go_enter Tryz.func37, Tryz.ntmps37
  go_wp2
  go_ret
  exact toldV_mk rfl
theorem shardOf_any (base : Nat) (ρ : Nat → Nat) (q : Gq) (g0 : Nat) (n : Int) (G : Gp) (w : World) (HG : Hid (Gt base ρ w g0 q G)) (h0 : 0 ≤ n) (h1 : n ≤ 9223372036854775807) (s0 : 1 ≤ G.bs.length) (s1 : G.bs.length ≤ 1000) : Calls Tryz.prog 119 #[pv g0, .int .i64 n] w (ToldV (.int .i64 (n.tmod G.bs.length)) w) := by
  have t0 := Gt.c8 HG.out
  obtain ⟨m, hm⟩ : ∃ m, m = G.bs.length := ⟨_, rfl⟩
  rw [← hm] at t0 s0 s1 ⊢
  clear hm
  have e0 : ¬ ((m : Int) = 0) := by omega
  have e1 : wrap64 (n.tmod (m : Int)) = n.tmod m := by
    have a1 := Int.tmod_lt_of_pos n (b := (m : Int)) (by omega)
    have a2 : 0 ≤ n.tmod (m : Int) := Int.tmod_nonneg _ h0
    exact w64 (by omega) (by omega)
  go_enter Tryz.func119, Tryz.ntmps119
  go_wp2
  go_ret
  exact toldV_mk (by rw [Int.tmod_eq_emod_of_nonneg h0]; rfl)
def MadeV (v : Value) (w : World) (e : Ending) (w' : World) : Prop := e = .returned v ∧ Below w.heap.size w w'
theorem and_one (v : Nat) (h : v < 9223372036854775808) : bits .and .i64 (v : Int) 1 = ((v % 2 : Nat) : Int) := by
  have h1 : (BitVec.ofInt 64 (v : Int)).toNat = v := by
    rw [BitVec.ofInt_natCast, BitVec.toNat_ofNat]; exact Nat.mod_eq_of_lt (by omega)
  have h2 : (BitVec.ofInt 64 (1 : Int)).toNat = 1 := by decide
  show IntKind.i64.wrap ((BitVec.ofInt 64 (v : Int) &&& BitVec.ofInt 64 (1 : Int)).toNat : Int) = _
  rw [BitVec.toNat_and, h1, h2, Nat.and_one_is_mod]
  rw [IntKind.wrap_i64]
  omega
theorem or_one (v : Nat) (h : v < 4611686018427387904) : bits .or .i64 ((v : Int) * 2) 1 = 2 * (v : Int) + 1 := by
  have h1 : (BitVec.ofInt 64 ((v : Int) * 2)).toNat = v * 2 := by
    rw [show (v : Int) * 2 = ((v * 2 : Nat) : Int) by omega, BitVec.ofInt_natCast, BitVec.toNat_ofNat]; exact Nat.mod_eq_of_lt (by omega)
  have h2 : (BitVec.ofInt 64 (1 : Int)).toNat = 1 := by decide
  have h3 := Nat.two_pow_add_eq_or_of_lt (b := 1) (i := 1) (by decide) v
  show IntKind.i64.wrap ((BitVec.ofInt 64 ((v : Int) * 2) ||| BitVec.ofInt 64 (1 : Int)).toNat : Int) = _
  rw [BitVec.toNat_or, h1, h2, show v * 2 = 2 ^ 1 * v by omega, ← h3]
  rw [IntKind.wrap_i64]
  omega
theorem positionOf_any (v : Int) (w : World) (h0 : 0 ≤ v) (h1 : v ≤ 4611686018427387904) : Calls Tryz.prog 132 #[.int .i64 v] w (MadeV (.agg #[.int .i64 (epW v), .bool (offW v)]) w) := by
  go_enter Tryz.func132, Tryz.ntmps132
  go_wp2
  obtain ⟨n, rfl⟩ : ∃ n : Nat, v = n := ⟨v.toNat, by omega⟩
  have e1 : (bits .and .i64 (n : Int) 1 == 1) = offW n := by
    rw [and_one n (by omega)]
    unfold offW
    by_cases h : n % 2 = 1
    · simp [h]; omega
    · have h' : n % 2 = 0 := by omega
      simp [h']; omega
  rw [e1]
  exact bodyPost_ret (v := .agg #[.int .i64 ((n : Int) / 2), .bool (offW n)]) (by simp [results, Tryz.results132, go_sem]) rfl ⟨rfl, β _ _⟩
theorem word_any (ep : Int) (off : Bool) (w : World) (h0 : 0 ≤ ep) (h1 : ep ≤ 2305843009213693952) : Calls Tryz.prog 169 #[.agg #[.int .i64 ep, .bool off]] w (MadeV (.int .i64 (wordF ep off)) w) := by
  go_enter Tryz.func169, Tryz.ntmps169
  obtain ⟨n, rfl⟩ : ∃ n : Nat, ep = n := ⟨ep.toNat, by omega⟩
  cases off
  · go_wp2
    go_ret
    exact ⟨by show _ = Ending.returned (Value.int .i64 (2 * (n : Int))); rw [Int.mul_comm]; rfl, β _ _⟩
  · have e1 := or_one n (by omega)
    go_wp2
    go_ret
    exact ⟨rfl, β _ _⟩
theorem unlessOff_any (ep c : Int) (off : Bool) (w : World) : Calls Tryz.prog 105 #[.agg #[.int .i64 ep, .bool off], .int .i64 c] w (MadeV (.int .i64 (if off = true then 2 else c)) w) := by
  go_enter Tryz.func105, Tryz.ntmps105
  cases off
  · go_wp2
    go_ret
    exact ⟨rfl, β _ _⟩
  · go_wp2
    go_ret
    exact ⟨rfl, β _ _⟩
theorem hasN_any (A : Option Addr) (n c : Nat) (k : Int) (w : World) : Calls Tryz.prog 49 #[.slice A n c, .int .i64 k] w (ToldV (.bool (inR n k)) w) := by
  by_cases h0 : 0 ≤ k
  · by_cases h1 : k < n
    · go_enter Tryz.func49, Tryz.ntmps49
      go_wp2
      go_ret
      exact toldV_mk (by rw [inR_t h0 h1]; rfl)
    · go_enter Tryz.func49, Tryz.ntmps49
      go_wp2
      go_ret
      exact toldV_mk (by rw [inR_f (by omega)]; rfl)
  · go_enter Tryz.func49, Tryz.ntmps49
    go_wp2
    go_ret
    exact toldV_mk (by rw [inR_f (by omega)]; rfl)
theorem hasA_any (A : Option Addr) (n c : Nat) (k : Int) (w : World) : Calls Tryz.prog 46 #[.slice A n c, .int .i64 k] w (ToldV (.bool (inR n k)) w) := by
  by_cases h0 : 0 ≤ k
  · by_cases h1 : k < n
    · go_enter Tryz.func46, Tryz.ntmps46
      go_wp2
      go_ret
      exact toldV_mk (by rw [inR_t h0 h1]; rfl)
    · go_enter Tryz.func46, Tryz.ntmps46
      go_wp2
      go_ret
      exact toldV_mk (by rw [inR_f (by omega)]; rfl)
  · go_enter Tryz.func46, Tryz.ntmps46
    go_wp2
    go_ret
    exact toldV_mk (by rw [inR_f (by omega)]; rfl)
theorem hasK_any (A : Option Addr) (n c : Nat) (k : Int) (w : World) : Calls Tryz.prog 52 #[.slice A n c, .int .i64 k] w (ToldV (.bool (inR n k)) w) := by
  by_cases h0 : 0 ≤ k
  · by_cases h1 : k < n
    · go_enter Tryz.func52, Tryz.ntmps52
      go_wp2
      go_ret
      exact toldV_mk (by rw [inR_t h0 h1]; rfl)
    · go_enter Tryz.func52, Tryz.ntmps52
      go_wp2
      go_ret
      exact toldV_mk (by rw [inR_f (by omega)]; rfl)
  · go_enter Tryz.func52, Tryz.ntmps52
    go_wp2
    go_ret
    exact toldV_mk (by rw [inR_f (by omega)]; rfl)
theorem over_any (ρ : Nat → Nat) (g0 g : Nat) (r : Aq) (a : Ap) (w : World) (ha : Hid (Ac ρ w g0 g r a)) : Calls Tryz.prog 19 #[pv g] w (ToldV (.bool (decide (a.todo.length = 0))) w) := by
  have t3 := Ac.c3 ha.out
  obtain ⟨n, hn⟩ : ∃ n, n = a.todo.length := ⟨_, rfl⟩
  rw [← hn] at t3 ⊢
  clear hn
  by_cases h : n = 0
  · subst h
    go_enter Tryz.func19, Tryz.ntmps19
    go_wp2
    go_ret
    exact toldV_mk (by simp)
  · have h' : ¬ ((n : Int) = 0) := by omega
    go_enter Tryz.func19, Tryz.ntmps19
    go_wp2
    go_ret
    exact toldV_mk (by simp [h])
theorem over_nil (w : World) : Calls Tryz.prog 19 #[.pointer none] w (ToldV (.bool true) w) := by
  go_enter Tryz.func19, Tryz.ntmps19
  go_wp2
  go_ret
  exact toldV_mk rfl
end Gsn
end Go.Proofs.YtaeddnjjeholgaaGreat
