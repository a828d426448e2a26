/- Plain words for messages and their bytes, over any program: what is laid is taken again, what is taken is laid by just its bytes. No condition. -/
import Derived.Test.YtkobldddiedmdaaMem
namespace Go.Proofs.Ytkobldddiedmdaa.Wpl
set_option maxRecDepth 100000
open Go.RowKit Mem
set_option linter.unusedVariables false

/-! ### bytes -/
def bts (l : List UInt8) : List Value := l.map fun b => Value.int .u8 (b.toNat : Int)
theorem bts_len (l : List UInt8) : (bts l).length = l.length := by simp [bts]
theorem bts_snoc (l : List UInt8) (b : UInt8) : bts (l ++ [b]) = bts l ++ [.int .u8 (b.toNat : Int)] := by simp [bts]
theorem bts_app (l r : List UInt8) : bts (l ++ r) = bts l ++ bts r := by simp [bts]
theorem bts_one (l : List UInt8) : ∀ v ∈ bts l, v.oneCell' = true := by
  intro v hv
  obtain ⟨b, _, rfl⟩ := List.mem_map.1 hv
  simp [Value.oneCell']
def By (w : World) (B : Nat) (A : Option Addr) (l : List UInt8) : Prop := Rd w B A (bts l)
theorem By.at {w : World} {B : Nat} {A : Option Addr} {l : List UInt8} (h : By w B A l) {i : Nat} (hi : i < l.length) :
    ∃ b o, A = some ⟨b, o, none⟩ ∧ b < B ∧ ∀ j (hj : j < l.length), w.cell? ⟨b, o + j, none⟩ = some (.int .u8 (l[j].toNat : Int)) := by
  obtain ⟨b, o, hA, hb, hc⟩ := Rd.at h (by intro e; have := bts_len l; rw [e] at this; simp at this; omega)
  exact ⟨b, o, hA, hb, fun j hj => hc j _ (by simp [bts, hj])⟩
def byt (n i : Nat) : UInt8 := UInt8.ofNat (n / 256 ^ i % 256)
theorem byt_nat (n i : Nat) : (byt n i).toNat = n / 256 ^ i % 256 := by
  unfold byt
  rw [UInt8.toNat_ofNat']
  exact Nat.mod_mod _ _
def putB (n : Nat) : Nat → List UInt8
  | 0 => []
  | s + 1 => byt n s :: putB n s
theorem putB_len (n s : Nat) : (putB n s).length = s := by
  induction s with
  | zero => rfl
  | succ s ih => simp [putB, ih]
def val (l : List UInt8) : Nat := l.foldl (fun a b => a * 256 + b.toNat) 0
theorem val_snoc (l : List UInt8) (b : UInt8) : val (l ++ [b]) = val l * 256 + b.toNat := by simp [val]
theorem fold_val (l : List UInt8) (a : Nat) : l.foldl (fun a b => a * 256 + b.toNat) a = a * 256 ^ l.length + val l := by
  induction l generalizing a with
  | nil => simp [val]
  | cons b l ih =>
    have h2 : val (b :: l) = b.toNat * 256 ^ l.length + val l := by
      show l.foldl _ (0 * 256 + b.toNat) = _
      rw [ih]
      simp
    rw [List.foldl_cons, ih, h2, List.length_cons, Nat.pow_succ, Nat.add_mul, Nat.mul_assoc, Nat.mul_comm 256, Nat.add_assoc]
theorem val_cons (b : UInt8) (l : List UInt8) : val (b :: l) = b.toNat * 256 ^ l.length + val l := by
  show l.foldl _ (0 * 256 + b.toNat) = _
  rw [fold_val]
  simp
theorem val_lt (l : List UInt8) : val l < 256 ^ l.length := by
  induction l with
  | nil => simp [val]
  | cons b l ih =>
    rw [val_cons, List.length_cons, Nat.pow_succ]
    have hb : b.toNat < 256 := b.toNat_lt
    have : (b.toNat + 1) * 256 ^ l.length ≤ 256 * 256 ^ l.length := Nat.mul_le_mul_right _ (by omega)
    rw [Nat.add_mul, Nat.one_mul] at this
    rw [Nat.mul_comm (256 ^ l.length) 256]
    omega
theorem val_putB (n s : Nat) : val (putB n s) = n % 256 ^ s := by
  induction s with
  | zero => simp [putB, val, Nat.mod_one]
  | succ s ih =>
    show val (byt n s :: putB n s) = _
    rw [val_cons, putB_len, ih, byt_nat, Nat.pow_succ, Nat.mod_mul, Nat.mul_comm, Nat.add_comm]
theorem putB_congr {n m s : Nat} (h : n % 256 ^ s = m % 256 ^ s) : putB n s = putB m s := by
  induction s with
  | zero => rfl
  | succ s ih =>
    rw [Nat.pow_succ] at h
    have h1 : n % 256 ^ s = m % 256 ^ s := by
      have a := congrArg (· % 256 ^ s) h
      simpa [Nat.mod_mul_right_mod] using a
    have h2 : n / 256 ^ s % 256 = m / 256 ^ s % 256 := by
      rw [← Nat.mod_mul_right_div_self, ← Nat.mod_mul_right_div_self, h]
    show byt n s :: putB n s = byt m s :: putB m s
    rw [ih h1]
    unfold byt
    rw [h2]
theorem putB_val (l : List UInt8) : putB (val l) l.length = l := by
  induction l with
  | nil => rfl
  | cons b l ih =>
    have hl := val_lt l
    have hb : b.toNat < 256 := b.toNat_lt
    have hp : 0 < 256 ^ l.length := Nat.pow_pos (by decide)
    have e1 : putB (val (b :: l)) l.length = l := by
      have h0 : val (b :: l) % 256 ^ l.length = val l % 256 ^ l.length := by rw [val_cons, Nat.add_comm, Nat.add_mul_mod_self_right]
      rw [putB_congr h0]
      exact ih
    show byt (val (b :: l)) l.length :: putB (val (b :: l)) l.length = _
    rw [e1]
    have e2 : byt (val (b :: l)) l.length = b := by
      apply UInt8.toNat_inj.1
      rw [byt_nat, val_cons, Nat.add_comm, Nat.add_mul_div_right _ _ hp, Nat.div_eq_of_lt hl, Nat.zero_add]
      omega
    rw [e2]
theorem putB_val' {l : List UInt8} {s : Nat} (h : l.length = s) : putB (val l) s = l := by rw [← h]; exact putB_val l

/-! ### messages -/
structure M where
  k : Int
  a : Int
  s : Int
  x : Bool
  p : Int
  q : Int
  n : Int
  t : Int
  i : Int
  y : Int
  z : Int
  v : Int
def mvs (m : M) : List Value := [.int .i64 m.k, .int .i64 m.a, .int .i64 m.s, .bool m.x, .int .i64 m.p, .int .i64 m.q, .int .i64 m.n, .int .i64 m.t, .int .i64 m.i, .int .i64 m.y, .int .i64 m.z, .int .i64 m.v]
def mvl (m : M) : Value := .agg #[.int .i64 m.k, .int .i64 m.a, .int .i64 m.s, .bool m.x, .int .i64 m.p, .int .i64 m.q, .int .i64 m.n, .int .i64 m.t, .int .i64 m.i, .int .i64 m.y, .int .i64 m.z, .int .i64 m.v]
def m0 : M := ⟨0, 0, 0, false, 0, 0, 0, 0, 0, 0, 0, 0⟩
def eqM (m n : M) : Bool := m.k == n.k && (m.a == n.a && (m.s == n.s && (m.x == n.x && (m.p == n.p && (m.q == n.q && (m.n == n.n && m.t == n.t)))))) && (m.i == n.i && (m.y == n.y && (m.z == n.z && m.v == n.v)))
theorem eqM_iff (m n : M) : eqM m n = true ↔ m = n := by
  constructor
  · intro h
    simp only [eqM, Bool.and_eq_true, beq_iff_eq] at h
    obtain ⟨⟨h0, h1, h2, h3, h4, h5, h6, h7⟩, h8, h9, h10, h11⟩ := h
    cases m
    cases n
    simp only at h0 h1 h2 h3 h4 h5 h6 h7 h8 h9 h10 h11
    subst h0 h1 h2 h3 h4 h5 h6 h7 h8 h9 h10 h11
    rfl
  · rintro rfl
    simp [eqM]
theorem eqM_self (m : M) : eqM m m = true := (eqM_iff m m).2 rfl
theorem eqM_comm (m n : M) : eqM m n = eqM n m := by
  by_cases h : m = n
  · subst h; rfl
  · have h1 : eqM m n = false := by cases e : eqM m n with | false => rfl | true => exact absurd ((eqM_iff _ _).1 e) h
    have h2 : eqM n m = false := by cases e : eqM n m with | false => rfl | true => exact absurd ((eqM_iff _ _).1 e).symm h
    rw [h1, h2]
def alM (m : M) : M :=
  if m.k = 0 then { m0 with k := m.k, a := m.a, s := m.s, x := m.x, p := m.p, q := m.q, n := m.n, t := m.t }
  else if m.k = 1 ∨ m.k = 3 then { m0 with k := m.k, i := m.i }
  else if m.k = 2 then { m0 with k := m.k, i := m.i, y := m.y }
  else if m.k = 6 then { m0 with k := m.k, z := m.z, v := m.v }
  else { m0 with k := m.k }
def fitP (m : M) : Prop := (0 ≤ m.a ∧ m.a ≤ 65535) ∧ (0 ≤ m.s ∧ m.s ≤ 65535) ∧ (0 ≤ m.z ∧ m.z ≤ 65535) ∧ (0 ≤ m.i ∧ m.i ≤ 4294967295) ∧ 0 ≤ m.p ∧ 0 ≤ m.q ∧ 0 ≤ m.n ∧ 0 ≤ m.t ∧ 0 ≤ m.y ∧ 0 ≤ m.v
def fitM (m : M) : Bool := decide ((0 ≤ m.a ∧ m.a ≤ 65535) ∧ (0 ≤ m.s ∧ m.s ≤ 65535) ∧ (0 ≤ m.z ∧ m.z ≤ 65535) ∧ (0 ≤ m.i ∧ m.i ≤ 4294967295) ∧ 0 ≤ m.p ∧ 0 ≤ m.q ∧ 0 ≤ m.n ∧ 0 ≤ m.t ∧ 0 ≤ m.y ∧ 0 ≤ m.v)
theorem fitM_of {m : M} (h : fitM m = true) : fitP m := by
  unfold fitM at h
  unfold fitP
  simp only [decide_eq_true_eq] at h
  exact h
theorem fitM_t {m : M} (h : fitP m) : fitM m = true := by
  unfold fitM
  unfold fitP at h
  simp only [decide_eq_true_eq]
  exact h
def rightM (m : M) : Bool := (decide (0 ≤ m.k) && decide (m.k ≤ 6)) && (eqM m (alM m) && fitM m)
theorem rightM_of {m : M} (h : rightM m = true) : 0 ≤ m.k ∧ m.k ≤ 6 ∧ m = alM m ∧ fitP m := by
  unfold rightM at h
  simp only [Bool.and_eq_true, decide_eq_true_eq] at h
  exact ⟨h.1.1, h.1.2, (eqM_iff _ _).1 h.2.1, fitM_of h.2.2⟩
theorem rightM_t {m : M} (h0 : 0 ≤ m.k) (h1 : m.k ≤ 6) (h2 : m = alM m) (h3 : fitP m) : rightM m = true := by
  unfold rightM
  rw [(eqM_iff _ _).2 h2, fitM_t h3]
  simp [h0, h1]
def WfM (m : M) : Prop := inI m.k ∧ inI m.a ∧ inI m.s ∧ inI m.p ∧ inI m.q ∧ inI m.n ∧ inI m.t ∧ inI m.i ∧ inI m.y ∧ inI m.z ∧ inI m.v
def bitB (x : Bool) : UInt8 := if x then 1 else 0
def ordB (m : M) : List UInt8 := putB m.a.toNat 2 ++ (putB m.s.toNat 2 ++ ([bitB m.x] ++ (putB m.p.toNat 8 ++ (putB m.q.toNat 8 ++ (putB m.n.toNat 8 ++ putB m.t.toNat 8)))))
def bodB (m : M) : List UInt8 :=
  if m.k = 0 then ordB m
  else if m.k = 1 ∨ m.k = 3 then putB m.i.toNat 4
  else if m.k = 2 then putB m.i.toNat 4 ++ putB m.y.toNat 8
  else if m.k = 6 then putB m.z.toNat 2 ++ putB m.v.toNat 8
  else []
def encP (m : M) : List UInt8 := byt m.k.toNat 0 :: bodB m
def encB (m : M) : List UInt8 := if rightM m = true then encP m else []

/-! ### what is taken -/
def fld (l : List UInt8) (o s : Nat) : Nat := val ((l.drop o).take s)
theorem fld_lt (l : List UInt8) (o s : Nat) : fld l o s < 256 ^ s := by
  have h := val_lt ((l.drop o).take s)
  have h2 : ((l.drop o).take s).length ≤ s := List.length_take_le _ _
  have : 256 ^ ((l.drop o).take s).length ≤ 256 ^ s := Nat.pow_le_pow_right (by decide) h2
  unfold fld
  omega
def lenK (k : Nat) : Nat := if k = 0 then 38 else if k = 1 ∨ k = 3 then 5 else if k = 2 then 13 else if k = 6 then 11 else 1
def big63 : Nat := 9223372036854775808
def okD (l : List UInt8) : Prop :=
  1 ≤ l.length ∧ fld l 0 1 ≤ 6 ∧ lenK (fld l 0 1) ≤ l.length ∧
  (fld l 0 1 = 0 → fld l 5 1 ≤ 1 ∧ fld l 6 8 < big63 ∧ fld l 14 8 < big63 ∧ fld l 22 8 < big63 ∧ fld l 30 8 < big63) ∧
  (fld l 0 1 = 2 → fld l 5 8 < big63) ∧ (fld l 0 1 = 6 → fld l 3 8 < big63)
def msgD (l : List UInt8) : M :=
  if fld l 0 1 = 0 then { m0 with k := 0, a := fld l 1 2, s := fld l 3 2, x := decide (fld l 5 1 = 1), p := fld l 6 8, q := fld l 14 8, n := fld l 22 8, t := fld l 30 8 }
  else if fld l 0 1 = 1 ∨ fld l 0 1 = 3 then { m0 with k := fld l 0 1, i := fld l 1 4 }
  else if fld l 0 1 = 2 then { m0 with k := fld l 0 1, i := fld l 1 4, y := fld l 5 8 }
  else if fld l 0 1 = 6 then { m0 with k := fld l 0 1, z := fld l 1 2, v := fld l 3 8 }
  else { m0 with k := fld l 0 1 }
theorem seg (l : List UInt8) (o s : Nat) : l.take (o + s) = l.take o ++ (l.drop o).take s := by rw [List.take_add]
theorem seg_put {l : List UInt8} {o s : Nat} (h : o + s ≤ l.length) : putB (fld l o s) s = (l.drop o).take s :=
  putB_val' (by rw [List.length_take, List.length_drop]; omega)
theorem seg_one {l : List UInt8} {o : Nat} (h : o < l.length) : (l.drop o).take 1 = [byt (fld l o 1) 0] := by
  have := seg_put (l := l) (o := o) (s := 1) (by omega)
  rw [← this]
  rfl
theorem nat_int (n : Nat) : ((n : Int)).toNat = n := Int.toNat_natCast n
theorem one_of {l : List UInt8} {o : Nat} (h : o < l.length) (h' : fld l o 1 = 0 ∨ fld l o 1 = 1) : [bitB (decide (((fld l o 1 : Nat) : Nat) = 1))] = (l.drop o).take 1 := by
  rw [seg_one h]
  rcases h' with h' | h' <;> rw [h'] <;> rfl
theorem tk (l : List UInt8) (o s e : Nat) (he : o + s = e) (xs : List UInt8) (h : xs = (l.drop o).take s) : l.take o ++ xs = l.take e := by subst he; rw [seg, h]
theorem enc_dec {l : List UInt8} (h : okD l) : rightM (msgD l) = true ∧ encP (msgD l) = l.take (lenK (fld l 0 1)) := by
  obtain ⟨h1, hk, hn, hc0, hc2, hc6⟩ := h
  have e0 : ∀ k : Nat, fld l 0 1 = k → [byt k 0] = l.take 1 := by
    intro k hk
    rw [← hk]
    have := seg_one (l := l) (o := 0) (by omega)
    simpa using this.symm
  have b12 := fld_lt l 1 2
  have b32 := fld_lt l 3 2
  have b14 := fld_lt l 1 4
  unfold big63 at hc0 hc2 hc6
  by_cases k0 : fld l 0 1 = 0
  · obtain ⟨c1, c2, c3, c4, c5⟩ := hc0 k0
    have hm : msgD l = { m0 with k := 0, a := fld l 1 2, s := fld l 3 2, x := decide (fld l 5 1 = 1), p := fld l 6 8, q := fld l 14 8, n := fld l 22 8, t := fld l 30 8 } := by unfold msgD; rw [if_pos k0]
    have hlen : lenK (fld l 0 1) = 38 := by rw [k0]; rfl
    rw [hlen] at hn ⊢
    rw [hm]
    refine ⟨rightM_t (by simp) (by simp) (by simp [alM, m0]) (by unfold fitP; simp [m0]; omega), ?_⟩
    show [byt 0 0] ++ (putB ((fld l 1 2 : Nat) : Int).toNat 2 ++ (putB ((fld l 3 2 : Nat) : Int).toNat 2 ++ ([bitB (decide (fld l 5 1 = 1))] ++ (putB ((fld l 6 8 : Nat) : Int).toNat 8 ++ (putB ((fld l 14 8 : Nat) : Int).toNat 8 ++ (putB ((fld l 22 8 : Nat) : Int).toNat 8 ++ putB ((fld l 30 8 : Nat) : Int).toNat 8)))))) = _
    simp only [nat_int, ← List.append_assoc]
    rw [e0 0 k0, tk l 1 2 3 rfl _ (seg_put (by omega)), tk l 3 2 5 rfl _ (seg_put (by omega)), tk l 5 1 6 rfl _ (one_of (by omega) (by omega)), tk l 6 8 14 rfl _ (seg_put (by omega)), tk l 14 8 22 rfl _ (seg_put (by omega)), tk l 22 8 30 rfl _ (seg_put (by omega)), tk l 30 8 38 rfl _ (seg_put (by omega))]
  · by_cases k1 : fld l 0 1 = 1 ∨ fld l 0 1 = 3
    · have hm : msgD l = { m0 with k := fld l 0 1, i := fld l 1 4 } := by unfold msgD; rw [if_neg k0, if_pos k1]
      have hlen : lenK (fld l 0 1) = 5 := by unfold lenK; rw [if_neg k0, if_pos k1]
      have hk1 : ((fld l 0 1 : Nat) : Int) = 1 ∨ ((fld l 0 1 : Nat) : Int) = 3 := by omega
      have hk0 : ¬ ((fld l 0 1 : Nat) : Int) = 0 := by omega
      rw [hlen] at hn ⊢
      rw [hm]
      refine ⟨rightM_t (by show (0 : Int) ≤ ((fld l 0 1 : Nat) : Int); omega) (by show ((fld l 0 1 : Nat) : Int) ≤ 6; omega) (by unfold alM; rw [if_neg hk0, if_pos hk1]) (by unfold fitP; simp [m0]; omega), ?_⟩
      show [byt ((fld l 0 1 : Nat) : Int).toNat 0] ++ bodB _ = _
      unfold bodB
      rw [if_neg hk0, if_pos hk1]
      show [byt ((fld l 0 1 : Nat) : Int).toNat 0] ++ putB ((fld l 1 4 : Nat) : Int).toNat 4 = _
      simp only [nat_int]
      rw [e0 _ rfl, tk l 1 4 5 rfl _ (seg_put (by omega))]
    · by_cases k2 : fld l 0 1 = 2
      · have c1 := hc2 k2
        have hm : msgD l = { m0 with k := fld l 0 1, i := fld l 1 4, y := fld l 5 8 } := by unfold msgD; rw [if_neg k0, if_neg k1, if_pos k2]
        have hlen : lenK (fld l 0 1) = 13 := by rw [k2]; rfl
        have hk1 : ¬ (((fld l 0 1 : Nat) : Int) = 1 ∨ ((fld l 0 1 : Nat) : Int) = 3) := by omega
        have hk0 : ¬ ((fld l 0 1 : Nat) : Int) = 0 := by omega
        have hk2 : ((fld l 0 1 : Nat) : Int) = 2 := by omega
        rw [hlen] at hn ⊢
        rw [hm]
        refine ⟨rightM_t (by show (0 : Int) ≤ ((fld l 0 1 : Nat) : Int); omega) (by show ((fld l 0 1 : Nat) : Int) ≤ 6; omega) (by unfold alM; rw [if_neg hk0, if_neg hk1, if_pos hk2]) (by unfold fitP; simp [m0]; omega), ?_⟩
        show [byt ((fld l 0 1 : Nat) : Int).toNat 0] ++ bodB _ = _
        unfold bodB
        rw [if_neg hk0, if_neg hk1, if_pos hk2]
        show [byt ((fld l 0 1 : Nat) : Int).toNat 0] ++ (putB ((fld l 1 4 : Nat) : Int).toNat 4 ++ putB ((fld l 5 8 : Nat) : Int).toNat 8) = _
        simp only [nat_int, ← List.append_assoc]
        rw [e0 _ rfl, tk l 1 4 5 rfl _ (seg_put (by omega)), tk l 5 8 13 rfl _ (seg_put (by omega))]
      · by_cases k6 : fld l 0 1 = 6
        · have c1 := hc6 k6
          have hm : msgD l = { m0 with k := fld l 0 1, z := fld l 1 2, v := fld l 3 8 } := by unfold msgD; rw [if_neg k0, if_neg k1, if_neg k2, if_pos k6]
          have hlen : lenK (fld l 0 1) = 11 := by rw [k6]; rfl
          have hk1 : ¬ (((fld l 0 1 : Nat) : Int) = 1 ∨ ((fld l 0 1 : Nat) : Int) = 3) := by omega
          have hk0 : ¬ ((fld l 0 1 : Nat) : Int) = 0 := by omega
          have hk2 : ¬ ((fld l 0 1 : Nat) : Int) = 2 := by omega
          have hk6 : ((fld l 0 1 : Nat) : Int) = 6 := by omega
          rw [hlen] at hn ⊢
          rw [hm]
          refine ⟨rightM_t (by show (0 : Int) ≤ ((fld l 0 1 : Nat) : Int); omega) (by show ((fld l 0 1 : Nat) : Int) ≤ 6; omega) (by unfold alM; rw [if_neg hk0, if_neg hk1, if_neg hk2, if_pos hk6]) (by unfold fitP; simp [m0]; omega), ?_⟩
          show [byt ((fld l 0 1 : Nat) : Int).toNat 0] ++ bodB _ = _
          unfold bodB
          rw [if_neg hk0, if_neg hk1, if_neg hk2, if_pos hk6]
          show [byt ((fld l 0 1 : Nat) : Int).toNat 0] ++ (putB ((fld l 1 2 : Nat) : Int).toNat 2 ++ putB ((fld l 3 8 : Nat) : Int).toNat 8) = _
          simp only [nat_int, ← List.append_assoc]
          rw [e0 _ rfl, tk l 1 2 3 rfl _ (seg_put (by omega)), tk l 3 8 11 rfl _ (seg_put (by omega))]
        · have hm : msgD l = { m0 with k := fld l 0 1 } := by unfold msgD; rw [if_neg k0, if_neg k1, if_neg k2, if_neg k6]
          have hlen : lenK (fld l 0 1) = 1 := by unfold lenK; rw [if_neg k0, if_neg k1, if_neg k2, if_neg k6]
          have hk1 : ¬ (((fld l 0 1 : Nat) : Int) = 1 ∨ ((fld l 0 1 : Nat) : Int) = 3) := by omega
          have hk0 : ¬ ((fld l 0 1 : Nat) : Int) = 0 := by omega
          have hk2 : ¬ ((fld l 0 1 : Nat) : Int) = 2 := by omega
          have hk6 : ¬ ((fld l 0 1 : Nat) : Int) = 6 := by omega
          rw [hlen] at hn ⊢
          rw [hm]
          refine ⟨rightM_t (by show (0 : Int) ≤ ((fld l 0 1 : Nat) : Int); omega) (by show ((fld l 0 1 : Nat) : Int) ≤ 6; omega) (by unfold alM; rw [if_neg hk0, if_neg hk1, if_neg hk2, if_neg hk6]) (by unfold fitP; simp [m0]), ?_⟩
          show [byt ((fld l 0 1 : Nat) : Int).toNat 0] ++ bodB _ = _
          unfold bodB
          rw [if_neg hk0, if_neg hk1, if_neg hk2, if_neg hk6]
          simp only [nat_int, List.append_nil]
          rw [e0 _ rfl]
/-- a field behind what stands ahead of it -/
theorem fld_at {l x z : List UInt8} {n s o : Nat} (h : l = x ++ (putB n s ++ z)) (hx : x.length = o) (hn : n < 256 ^ s) : fld l o s = n := by
  subst h
  unfold fld
  rw [List.drop_append_of_le_length (by omega), List.drop_of_length_le (by omega), List.nil_append, List.take_append_of_le_length (by rw [putB_len]; omega), List.take_of_length_le (by rw [putB_len]; omega), val_putB, Nat.mod_eq_of_lt hn]
theorem bit_put (x : Bool) : [bitB x] = putB (if x then 1 else 0) 1 := by cases x <;> rfl
theorem nn {x : Int} (h : 0 ≤ x) : ((x.toNat : Nat) : Int) = x := Int.toNat_of_nonneg h
theorem lt2 {x : Int} (h : 0 ≤ x ∧ x ≤ 65535) : x.toNat < 256 ^ 2 := by show x.toNat < 65536; omega
theorem lt4 {x : Int} (h : 0 ≤ x ∧ x ≤ 4294967295) : x.toNat < 256 ^ 4 := by show x.toNat < 4294967296; omega
theorem lt8 {x : Int} (h : inI x) : x.toNat < 256 ^ 8 := by have := h.2; show x.toNat < 18446744073709551616; omega
theorem ltb {x : Int} (h : inI x) : x.toNat < big63 := by have := h.2; unfold big63; omega
theorem dec_enc {m : M} (r : List UInt8) (hw : WfM m) (h : rightM m = true) : okD (encP m ++ r) ∧ msgD (encP m ++ r) = m ∧ lenK (fld (encP m ++ r) 0 1) = (encP m).length := by
  obtain ⟨hk0, hk6, hal, ha, hs, hz, hi, hp, hq, hn, ht, hy, hv⟩ := rightM_of h
  obtain ⟨_, _, _, ip, iq, iN, it, _, iy, _, iv⟩ := hw
  have f0 : ∀ b : List UInt8, fld (encP m ++ b) 0 1 = m.k.toNat := fun b => fld_at (x := []) (z := bodB m ++ b) (by simp [encP, putB]) rfl (by show m.k.toNat < 256; omega)
  have f0 := f0 r
  by_cases k0 : m.k = 0
  · have hb : bodB m = ordB m := by unfold bodB; rw [if_pos k0]
    have e0 : fld (encP m ++ r) 0 1 = 0 := by rw [f0, k0]; rfl
    have g1 : fld (encP m ++ r) 1 2 = m.a.toNat := fld_at (x := [byt m.k.toNat 0]) (z := putB m.s.toNat 2 ++ ([bitB m.x] ++ (putB m.p.toNat 8 ++ (putB m.q.toNat 8 ++ (putB m.n.toNat 8 ++ (putB m.t.toNat 8 ++ r)))))) (by simp [encP, hb, ordB]) rfl (lt2 ha)
    have g2 : fld (encP m ++ r) 3 2 = m.s.toNat := fld_at (x := [byt m.k.toNat 0] ++ putB m.a.toNat 2) (z := [bitB m.x] ++ (putB m.p.toNat 8 ++ (putB m.q.toNat 8 ++ (putB m.n.toNat 8 ++ (putB m.t.toNat 8 ++ r))))) (by simp [encP, hb, ordB]) (by simp [putB_len]) (lt2 hs)
    have g3 : fld (encP m ++ r) 5 1 = (if m.x then 1 else 0) := fld_at (x := [byt m.k.toNat 0] ++ (putB m.a.toNat 2 ++ putB m.s.toNat 2)) (z := putB m.p.toNat 8 ++ (putB m.q.toNat 8 ++ (putB m.n.toNat 8 ++ (putB m.t.toNat 8 ++ r)))) (by rw [← bit_put]; simp [encP, hb, ordB]) (by simp [putB_len]) (by split <;> decide)
    have g4 : fld (encP m ++ r) 6 8 = m.p.toNat := fld_at (x := [byt m.k.toNat 0] ++ (putB m.a.toNat 2 ++ (putB m.s.toNat 2 ++ [bitB m.x]))) (z := putB m.q.toNat 8 ++ (putB m.n.toNat 8 ++ (putB m.t.toNat 8 ++ r))) (by simp [encP, hb, ordB]) (by simp [putB_len]) (lt8 ip)
    have g5 : fld (encP m ++ r) 14 8 = m.q.toNat := fld_at (x := [byt m.k.toNat 0] ++ (putB m.a.toNat 2 ++ (putB m.s.toNat 2 ++ ([bitB m.x] ++ putB m.p.toNat 8)))) (z := putB m.n.toNat 8 ++ (putB m.t.toNat 8 ++ r)) (by simp [encP, hb, ordB]) (by simp [putB_len]) (lt8 iq)
    have g6 : fld (encP m ++ r) 22 8 = m.n.toNat := fld_at (x := [byt m.k.toNat 0] ++ (putB m.a.toNat 2 ++ (putB m.s.toNat 2 ++ ([bitB m.x] ++ (putB m.p.toNat 8 ++ putB m.q.toNat 8))))) (z := putB m.t.toNat 8 ++ r) (by simp [encP, hb, ordB]) (by simp [putB_len]) (lt8 iN)
    have g7 : fld (encP m ++ r) 30 8 = m.t.toNat := fld_at (x := [byt m.k.toNat 0] ++ (putB m.a.toNat 2 ++ (putB m.s.toNat 2 ++ ([bitB m.x] ++ (putB m.p.toNat 8 ++ (putB m.q.toNat 8 ++ putB m.n.toNat 8)))))) (z := r) (by simp [encP, hb, ordB]) (by simp [putB_len]) (lt8 it)
    have hlen : (encP m).length = 38 := by simp [encP, hb, ordB, putB_len]
    refine ⟨⟨by simp [encP], by omega, by rw [e0, List.length_append, hlen]; show 38 ≤ 38 + r.length; omega, fun _ => ⟨by rw [g3]; split <;> omega, by rw [g4]; exact ltb ip, by rw [g5]; exact ltb iq, by rw [g6]; exact ltb iN, by rw [g7]; exact ltb it⟩, fun h => by omega, fun h => by omega⟩, ?_, by rw [e0, hlen]; rfl⟩
    refine Eq.trans ?_ hal.symm
    unfold msgD alM
    rw [if_pos e0, if_pos k0, g1, g2, g3, g4, g5, g6, g7, nn ha.1, nn hs.1, nn hp, nn hq, nn hn, nn ht, k0]
    cases m.x <;> rfl
  · have e0 : ¬ fld (encP m ++ r) 0 1 = 0 := by rw [f0]; omega
    by_cases k1 : m.k = 1 ∨ m.k = 3
    · have hb : bodB m = putB m.i.toNat 4 := by unfold bodB; rw [if_neg k0, if_pos k1]
      have e1 : fld (encP m ++ r) 0 1 = 1 ∨ fld (encP m ++ r) 0 1 = 3 := by rw [f0]; omega
      have g1 : fld (encP m ++ r) 1 4 = m.i.toNat := fld_at (x := [byt m.k.toNat 0]) (z := r) (by simp [encP, hb]) rfl (lt4 hi)
      have hlen : (encP m).length = 5 := by simp [encP, hb, putB_len]
      have hl : lenK (fld (encP m ++ r) 0 1) = 5 := by unfold lenK; rw [if_neg e0, if_pos e1]
      refine ⟨⟨by simp [encP], by omega, by rw [hl, List.length_append, hlen]; omega, fun h => by omega, fun h => by omega, fun h => by omega⟩, ?_, by rw [hl, hlen]⟩
      refine Eq.trans ?_ hal.symm
      unfold msgD alM
      rw [if_neg e0, if_pos e1, if_neg k0, if_pos k1, g1, f0, nn hk0, nn hi.1]
    · have e1 : ¬ (fld (encP m ++ r) 0 1 = 1 ∨ fld (encP m ++ r) 0 1 = 3) := by rw [f0]; omega
      by_cases k2 : m.k = 2
      · have hb : bodB m = putB m.i.toNat 4 ++ putB m.y.toNat 8 := by unfold bodB; rw [if_neg k0, if_neg k1, if_pos k2]
        have e2 : fld (encP m ++ r) 0 1 = 2 := by rw [f0]; omega
        have g1 : fld (encP m ++ r) 1 4 = m.i.toNat := fld_at (x := [byt m.k.toNat 0]) (z := putB m.y.toNat 8 ++ r) (by simp [encP, hb]) rfl (lt4 hi)
        have g2 : fld (encP m ++ r) 5 8 = m.y.toNat := fld_at (x := [byt m.k.toNat 0] ++ putB m.i.toNat 4) (z := r) (by simp [encP, hb]) (by simp [putB_len]) (lt8 iy)
        have hlen : (encP m).length = 13 := by simp [encP, hb, putB_len]
        have hl : lenK (fld (encP m ++ r) 0 1) = 13 := by rw [e2]; rfl
        refine ⟨⟨by simp [encP], by omega, by rw [hl, List.length_append, hlen]; omega, fun h => by omega, fun _ => by rw [g2]; exact ltb iy, fun h => by omega⟩, ?_, by rw [hl, hlen]⟩
        refine Eq.trans ?_ hal.symm
        unfold msgD alM
        rw [if_neg e0, if_neg e1, if_pos e2, if_neg k0, if_neg k1, if_pos k2, g1, g2, f0, nn hk0, nn hi.1, nn hy]
      · have e2 : ¬ fld (encP m ++ r) 0 1 = 2 := by rw [f0]; omega
        by_cases k6 : m.k = 6
        · have hb : bodB m = putB m.z.toNat 2 ++ putB m.v.toNat 8 := by unfold bodB; rw [if_neg k0, if_neg k1, if_neg k2, if_pos k6]
          have e6 : fld (encP m ++ r) 0 1 = 6 := by rw [f0]; omega
          have g1 : fld (encP m ++ r) 1 2 = m.z.toNat := fld_at (x := [byt m.k.toNat 0]) (z := putB m.v.toNat 8 ++ r) (by simp [encP, hb]) rfl (lt2 hz)
          have g2 : fld (encP m ++ r) 3 8 = m.v.toNat := fld_at (x := [byt m.k.toNat 0] ++ putB m.z.toNat 2) (z := r) (by simp [encP, hb]) (by simp [putB_len]) (lt8 iv)
          have hlen : (encP m).length = 11 := by simp [encP, hb, putB_len]
          have hl : lenK (fld (encP m ++ r) 0 1) = 11 := by rw [e6]; rfl
          refine ⟨⟨by simp [encP], by omega, by rw [hl, List.length_append, hlen]; omega, fun h => by omega, fun h => by omega, fun _ => by rw [g2]; exact ltb iv⟩, ?_, by rw [hl, hlen]⟩
          refine Eq.trans ?_ hal.symm
          unfold msgD alM
          rw [if_neg e0, if_neg e1, if_neg e2, if_pos e6, if_neg k0, if_neg k1, if_neg k2, if_pos k6, g1, g2, f0, nn hk0, nn hz.1, nn hv]
        · have e6 : ¬ fld (encP m ++ r) 0 1 = 6 := by rw [f0]; omega
          have hb : bodB m = [] := by unfold bodB; rw [if_neg k0, if_neg k1, if_neg k2, if_neg k6]
          have hlen : (encP m).length = 1 := by simp [encP, hb]
          have hl : lenK (fld (encP m ++ r) 0 1) = 1 := by unfold lenK; rw [if_neg e0, if_neg e1, if_neg e2, if_neg e6]
          refine ⟨⟨by simp [encP], by rw [f0]; omega, by rw [hl, List.length_append, hlen]; omega, fun h => by omega, fun h => by omega, fun h => by omega⟩, ?_, by rw [hl, hlen]⟩
          refine Eq.trans ?_ hal.symm
          unfold msgD alM
          rw [if_neg e0, if_neg e1, if_neg e2, if_neg e6, if_neg k0, if_neg k1, if_neg k2, if_neg k6, f0, nn hk0]
end Go.Proofs.Ytkobldddiedmdaa.Wpl
