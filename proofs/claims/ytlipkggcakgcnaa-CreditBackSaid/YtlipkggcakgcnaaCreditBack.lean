/- For every list of nodes, leaf, cap and amounts the law CreditBack returns true, and changes nothing: what was reserved and released is as it was. No condition. -/
import Derived.Test.YtlipkggcakgcnaaEpl
import Derived.Test.YtlipkggcakgcnaaFr4
import Derived.Test.YtlipkggcakgcnaaEdw
import Derived.Test.YtlipkggcakgcnaaBpl
import Derived.Test.YtlipkggcakgcnaaRsf
import Derived.Deep.DeepCutAuto
import Derived.Deep.CutBlock
namespace Go.Proofs.Ytlipkggcakgcnaa.creditBack
set_option maxRecDepth 100000
open Go.ChangeShapes Go.WideShapes Go.ChangeAt Go.RowKit Mem Tre Ref3 Law3 Fix3 Crd CrdB CrdC Cpl Own Res Rel Lim Rsf Rr4 Sm4 Told4 To4 Fr4 Opn Opt Edw Epl Bpl Go.Joins Go.Deep
set_option linter.unusedVariables false

theorem own : ownKnob Try.prog.godebug = none := by kernel_rfl
theorem laidOut : laidOutB Try.prog = true := by kernel_rfl

theorem wpList_app1G {P : Program} {w : World} {ops : Array Oper} {rest : List Oper} {o : Oper} {a : Act} {Q : Exit → Act → World → Prop} {base : Nat} {e te : TypeId} {size n : Nat} {v : Value} {xs : List Value} {cs : Array Value}
    (hown : Hid (w.ownsRow base e size v n xs)) (hgd : o.guard = none) (s x : Operand) (t : TypeId)
    (ho : o.op = .call { callee := .builtin .append, args := #[s, x], argTypes := #[t, t] })
    (i : TypeInfo) (z : Value) (bytes : Nat) (ht : P.underlying t = some (.slice e)) (hi : P.info? e = some i) (hz : i.zero = some z)
    (hsize : i.size = size) (hby : i.bytes = bytes) (hzs : z.cells.size = size) (hsz : 0 < size)
    (hs : a.eval s = v) {gb : Nat} (hx : a.eval x = .slice (some ⟨gb, 0, none⟩) 1 1) (hgb : gb = w.heap.size) (news : List Value) (hn : cs.toList = news) (hl : news.length = size) (h1 : ∀ u ∈ news, u.oneCell' = true)
    (h63 : n + 1 ≤ maxLen) (hbytes : (n + 1) * bytes ≤ 140737488355328) (hbase : base ≤ w.heap.size)
    (h : ∀ A' c' w', Hid (w'.ownsRow base e size (.slice A' (n + 1) c') (n + 1) (xs ++ news)) → (w.alloc (.cells cs te)).grownBy w' v.ownBlock → wpList P ops Q rest (a.put o.dst (.slice A' (n + 1) c')) w') :
    wpList P ops Q (o :: rest) a (w.alloc (.cells cs te)) := by
  subst hgb
  refine wpList_append_own _ hgd s x t ho base e i z size bytes ht hi hz hsize hby hzs hsz v n xs hs (World.ownsRow.alloc hown.out _) ⟨w.heap.size, 0, none⟩ 1 1 news hx (by omega) (one_cells hn) h1 h63 hbytes (by simp; omega) ?_
  intro v' w' hown' hg _
  obtain ⟨A', c', rfl, _⟩ := own_form hown'
  exact h A' c' w' hown' hg

theorem rd_lt {w : World} {B : Nat} {A : Option Addr} {xs : List Value} (h : Rd w B A xs) (hx : xs ≠ []) (a : Addr) (ha : A = some a) : a.block < B := by
  obtain ⟨b, o, hA, hb, _⟩ := Rd.at h hx
  rw [ha] at hA
  injection hA with hA
  subst hA
  exact hb
theorem nds_ne {F : List (Int × Int)} (h : 1 ≤ F.length) : nds F ≠ [] := by
  intro e; have := nds_len F; rw [e] at this; simp at this; omega
theorem ints_ne {F : List Int} (h : 1 ≤ F.length) : ints F ≠ [] := by
  intro e; have := ints_len F; rw [e] at this; simp at this; omega
theorem rd_grown {w w' : World} {B : Nat} {A : Option Addr} {xs : List Value} {row : Option Nat} (h : Rd w B A xs) (hB : B ≤ w.heap.size) (hg : w.grownBy w' row) (hne : ∀ a, A = some a → some a.block ≠ row) : Rd w' w'.heap.size A xs := by
  rcases h with h | ⟨b, o, hA, hb, hc⟩
  · exact .inl h
  · refine .inr ⟨b, o, hA, by have := hg.size; omega, fun i v hv => ?_⟩
    exact (World.cell?_of_block (w := w) (a := ⟨b, o + i, none⟩) (hg.block b (by omega) (hne _ hA))).trans (hc i v hv)
theorem stv_grown {W W' : World} {g : Nat} {te : TypeId} {A A' : Option Addr} {n n' c c' : Nat} {l : List (Int × Int)} {u : List Int} {row : Option Nat} (h : StV W g te A A' n n' c c' l u) (hg : W.grownBy W' row) (h0 : some g ≠ row) (h1 : ∀ a, A = some a → some a.block ≠ row) (h2 : ∀ a, A' = some a → some a.block ≠ row) : StV W' g te A A' n n' c c' l u :=
  ⟨Blk_grown h.blk hg h0, rd_grown h.nds (Nat.le_refl _) hg h1, rd_grown h.ris (Nat.le_refl _) hg h2⟩
/-- a row of the call's own lies at or behind its base, and below the world's end -/
theorem row_ne {w : World} {base : Nat} {e : TypeId} {size n : Nat} {v : Value} {xs : List Value} (h : w.ownsRow base e size v n xs) {g : Nat} (hg : g < base ∨ w.heap.size ≤ g) : some g ≠ v.ownBlock := by
  intro e
  have := World.ownsRow.lt h g e.symm
  omega
theorem i64_info : (Try.prog.info? 2).map (fun i => (i.zero, i.size, i.bytes)) = some (some (.int .i64 0), 1, 8) := by kernel_rfl
theorem same_n (A A' B B' : Option Addr) (c c' d d' : Nat) (l : List (Int × Int)) (u y : List Int) (w : World) (e : y = u) (hl : Hid (Nds w w.heap.size A l)) (hu : Hid (Ris w w.heap.size A' y)) (hl2 : Hid (Nds w w.heap.size B l)) (hu2 : Hid (Ris w w.heap.size B' u)) (hmax : (l.length : Int) ≤ 1000000) (hmay : (u.length : Int) ≤ 1000000) :
    Calls Try.prog 17 #[.agg #[.slice A l.length c, .slice A' y.length c'], .agg #[.slice B l.length d, .slice B' u.length d']] w (MadeB true w) := by subst e; exact same_any A A' B B' c c' d d' l y w hl hu hl2 hu2 hmax hmay
theorem limit_z (A A' : Option Addr) (c c' : Nat) (l l' : List (Int × Int)) (u : List Int) (n x : Int) (w : World) (h1 : limF l n x = 0) (h2 : limL l n x = l') (hl : Hid (Nds w w.heap.size A l)) (hu : Hid (Ris w w.heap.size A' u)) (hg : GoodSt l u) (hn : inI n) (hx0 : -9223372036854775808 ≤ x) (hx1 : x ≤ 9223372036854775807) :
    Calls Try.prog 23 #[.agg #[.slice A l.length c, .slice A' u.length c'], .int .i64 n, .int .i64 x] w (MadeLim l' u 0 w) := by
  have h := limit_any A A' c c' l u n x w hl hu hg hn hx0 hx1
  rw [h1, h2] at h
  exact h
theorem up_bd {l : List (Int × Int)} {u : List Int} {K S : Int} (hk : inR l.length K = true) (hu : u = upF l K S) (hg : GoodSt l u) : S ≤ 4611686018427387904 := by
  have hp : 0 < (pathF l 3 K).length := by rw [pathF_in hk]; simp
  have e := upF_at (S := S) hp
  have e0 : gI (pathF l 3 K) 0 = K := by rw [pathF_in hk]; rfl
  rw [e0] at e
  have hk2 := inR_of hk
  have h := hg.uok K.toNat (by rw [hg.len]; omega)
  rw [hu, e] at h
  exact h.2
theorem nds_cells {w : World} {B b o : Nat} {l : List (Int × Int)} (h : Nds w B (some ⟨b, o, none⟩) l) (j : Nat) (hj : j < l.length) : w.cell? ⟨b, o + j * 2, none⟩ = some (.int .i64 (nP l j)) ∧ w.cell? ⟨b, o + j * 2 + 1, none⟩ = some (.int .i64 (nC l j)) := by
  obtain ⟨b2, o2, he, _, hc⟩ := Nds.at h (by omega)
  injection he with he
  injection he with h1 h2
  subst h1; subst h2
  exact hc j hj
theorem good_lim {l : List (Int × Int)} {u : List Int} (h : GoodSt l u) (n x : Int) : GoodSt (limL l n x) u :=
  ⟨(okt_lim h.okt n x).1, by rw [(okt_lim h.okt n x).2]; exact h.one, by rw [(okt_lim h.okt n x).2]; exact h.few, by rw [(okt_lim h.okt n x).2]; exact h.len, h.uok⟩
theorem good_rel {l : List (Int × Int)} {u : List Int} (h : GoodSt l u) (n x : Int) : GoodSt l (relU l u n x) :=
  ⟨h.okt, h.one, h.few, (uok_rel h.uok n x).2.trans h.len, (uok_rel h.uok n x).1⟩
theorem stv_store' {W : World} {g n n' c c' : Nat} {te : TypeId} {A A' B B' : Option Addr} {d d' : Nat} {l : List (Int × Int)} {v : List Int} (h : Blk W g te #[.slice A n c, .slice A' n' c']) {m m' : Nat} (h1 : Nds W W.heap.size B l) (h2 : Ris W W.heap.size B' v) :
    StV ((W.setCell ⟨g, 0, none⟩ (.slice B m d)).setCell ⟨g, 1, none⟩ (.slice B' m' d')) g te B B' m m' d d' l v := Edw.stv_store h h1 h2

set_option maxRecDepth 100000 in
set_option maxHeartbeats 8000000 in
theorem inner (A A' : Option Addr) (c c' : Nat) (l : List (Int × Int)) (lf cp : Int) (am : List Int) (w : World) (hl : Hid (Nds w w.heap.size A l)) (hw : Hid (WfN l)) (ha : Hid (Ris w w.heap.size A' am)) (hwa : Hid (WfI am)) (hmax : (l.length : Int) ≤ 9223372036854775807) (hmay : (am.length : Int) ≤ 9223372036854775807) (hlf : inI lf) (hcp : inI cp) :
    Calls Try.prog 4 #[.slice A l.length c, .agg #[.int .i64 lf, .int .i64 cp], .slice A' am.length c'] w (MadeB true w) := by
  obtain ⟨j0, hj, hj0, hj1, hj2⟩ := info_parts i64_info
  obtain ⟨F, hF⟩ : ∃ F, F = fixF l := ⟨_, rfl⟩
  have HF := Lib.hid hF
  have o1 : Hid (Okt F) := by rw [hF]; exact okt_fixF l
  have o2 : F.length ≤ 10 := by rw [hF]; exact (fixF_len l).2
  have o3 : 1 ≤ F.length := by rw [hF]; exact (fixF_len l).1
  have o4 : Hid (WfN F) := okt_wf o1.out (by omega)
  obtain ⟨hlf0, hlf1⟩ := hlf
  obtain ⟨hcp0, hcp1⟩ := hcp
  clear hF
  go_enter Try.func4, Try.ntmps4
  go_wp2_with fail
  have k0 : Hid (Blk (w.alloc (.cells #[.int .i64 lf, .int .i64 cp] 55)) w.heap.size 55 #[.int .i64 lf, .int .i64 cp]) := Blk.fresh w _ _
  have l0 : Hid (Nds (w.alloc (.cells #[.int .i64 lf, .int .i64 cp] 55)) (w.alloc (.cells #[.int .i64 lf, .int .i64 cp] 55)).heap.size A l) := Rd.below' hl.out ((Below.refl _ _).alloc (Nat.le_refl _) _) (by simp)
  have b0 : Below w.heap.size w (w.alloc (.cells #[.int .i64 lf, .int .i64 cp] 55)) := (Below.refl _ _).alloc (Nat.le_refl _) _
  generalize hw0 : w.alloc (.cells #[.int .i64 lf, .int .i64 cp] 55) = w0 at k0 l0 b0 ⊢
  clear hw0
  have q0 : w0.cell? ⟨w.heap.size, 0, none⟩ = some (.int .i64 lf) := k0.out.cell 0
  have q1 : w0.cell? ⟨w.heap.size, 1, none⟩ = some (.int .i64 cp) := k0.out.cell 1
  go_quiet (fail)
  have l1 : Hid (Nds (w0.drewN nq) (w0.drewN nq).heap.size A l) := l0.out
  have b1 : Below w.heap.size w (w0.drewN nq) := Below.drewN' b0 nq
  generalize w0.drewN nq = wd at l1 b1 ⊢
  clear k0 l0 b0 q0 q1
  go_wp2_with fail
  refine (fix_any A c l wd l1 hw hmax).mono ?_
  rintro e w1 ⟨A1, c1, rfl, hr1, hb1'⟩
  have hb1 := below_step b1 hb1'
  rw [← HF.out] at hr1 ⊢
  have r1 : Hid (Nds w1 w1.heap.size A1 F) := hr1
  clear hr1 hb1' l1 b1
  go_wp2_with fail
  refine (to_any A1 c1 F w1 r1 o4 (by omega)).mono ?_
  rintro e w2 ⟨A2, c2, rfl, hr2, hb2⟩
  have r2 : Hid (Nds w2 w2.heap.size A2 F) := hr2
  have r1' : Hid (Nds w2 w2.heap.size A1 F) := Rd.below' r1.out hb2 hb2.size
  have b2 := below_step hb1 hb2
  clear hr2 r1 hb1 hb2
  go_wp2_with fail
  refine (begin_any A2 c2 F w2 r2 (by omega)).mono ?_
  rintro e w3 ⟨A3, c3, A4, c4, rfl, hn3, hu3, hb3⟩
  have b3 := below_step b2 hb3
  obtain ⟨u0, hu0⟩ : ∃ u, u = zeros F.length := ⟨_, rfl⟩
  rw [← hu0] at hu3 ⊢
  have hg0 : Hid (GoodSt F u0) := by rw [hu0]; exact good_begin o1.out o3 (by omega)
  have hz : Hid (u0 = upF F (wrap64 ((IntKind.u64.wrap lf).tmod (F.length : Int))) 0) := by rw [upF_zero]; exact hu0
  have v3 : Hid (StV (w3.alloc (.cells #[.slice A3 F.length c3, .slice A4 u0.length c4] 31)) w3.heap.size 31 A3 A4 F.length u0.length c3 c4 F u0) := StV.new hn3 hu3
  have n3 : Hid (Nds (w3.alloc (.cells #[.slice A3 F.length c3, .slice A4 u0.length c4] 31)) (w3.alloc (.cells #[.slice A3 F.length c3, .slice A4 u0.length c4] 31)).heap.size A1 F) := Rd.below' (Rd.below' r1'.out hb3 hb3.size) ((Below.refl _ _).alloc (Nat.le_refl _) _) (by simp)
  have b3' : Below w.heap.size w (w3.alloc (.cells #[.slice A3 F.length c3, .slice A4 u0.length c4] 31)) := b3.alloc b3.size _
  have hgs : w.heap.size ≤ w3.heap.size := b3.size
  clear hu0 hn3 hu3 r2 r1' b2 hb3 b3
  go_wp2_with fail
  generalize w3.alloc (.cells #[.slice A3 F.length c3, .slice A4 u0.length c4] 31) = w4 at v3 n3 b3' ⊢
  generalize w3.heap.size = gS at v3 hgs ⊢
  have hul : u0.length = F.length := hg0.out.len
  have hK := k_in lf F.length o3 (by omega)
  generalize wrap64 ((IntKind.u64.wrap lf).tmod (F.length : Int)) = K at hK hz ⊢
  obtain ⟨hK0, hK1⟩ := hK
  refine (from_any A3 A4 c3 c4 F u0 w4 v3.out.nds v3.out.ris (by omega) (by omega)).mono ?_
  rintro e w5 ⟨B1, d1, B2, d2, rfl, hn5, hu5, hb5⟩
  have v5 : Hid (StV (w5.alloc (.cells #[.slice B1 F.length d1, .slice B2 u0.length d2] 26)) gS 31 A3 A4 F.length u0.length c3 c4 F u0) := (v3.out.below hb5).alloc _
  have x5 : Hid (StV (w5.alloc (.cells #[.slice B1 F.length d1, .slice B2 u0.length d2] 26)) w5.heap.size 26 B1 B2 F.length u0.length d1 d2 F u0) := StV.new hn5 hu5
  have n5 : Hid (Nds (w5.alloc (.cells #[.slice B1 F.length d1, .slice B2 u0.length d2] 26)) (w5.alloc (.cells #[.slice B1 F.length d1, .slice B2 u0.length d2] 26)).heap.size A1 F) := Rd.below' (Rd.below' n3.out hb5 hb5.size) ((Below.refl _ _).alloc (Nat.le_refl _) _) (by simp)
  have b5 : Below w.heap.size w (w5.alloc (.cells #[.slice B1 F.length d1, .slice B2 u0.length d2] 26)) := (below_step b3' hb5).alloc (below_step b3' hb5).size _
  have hgx : w.heap.size ≤ w5.heap.size := (below_step b3' hb5).size
  have HB1 : Hid (∀ a, B1 = some a → a.block < w5.heap.size) := rd_lt hn5 (nds_ne o3)
  have HB2 : Hid (∀ a, B2 = some a → a.block < w5.heap.size) := rd_lt hu5 (ints_ne (by omega))
  have HA1 : Hid (∀ a, A1 = some a → a.block < w5.heap.size) := fun a h => by have := rd_lt n3.out (nds_ne o3) a h; have := hb5.size; omega
  have hlt : gS < w5.heap.size := by have := v3.out.blk.lt; have := hb5.size; omega
  have HUL := Lib.hid hul
  clear hul
  clear v3 n3 b3' hn5 hu5 hb5
  go_wp2_with fail
  generalize w5.alloc (.cells #[.slice B1 F.length d1, .slice B2 u0.length d2] 26) = w6 at v5 x5 n5 b5 ⊢
  generalize w5.heap.size = gX at x5 hgx hlt HB1 HB2 HA1 ⊢
  go_loopg [13, 14] (min am.length 20) (fun g s13 s14 w' => ∃ (i m : Nat) (A5 A6 A7 : Option Addr) (c5 c6 c7 : Nat) (u had : List Int), i + g = min am.length 20 ∧ m ≤ i ∧ s14 = .int .i64 i ∧ s13 = .slice A7 m c7 ∧ Hid (had.length = m) ∧ Hid (w'.ownsRow (gX + 1) 2 1 (.slice A7 m c7) m (ints had)) ∧ Hid (∀ x ∈ had, 0 ≤ x) ∧ Hid (u = upF F K had.sum) ∧ Hid (GoodSt F u) ∧ Hid (StV w' gS 31 A5 A6 F.length u.length c5 c6 F u) ∧ Hid (StV w' gX 26 B1 B2 F.length u0.length d1 d2 F u0) ∧ Hid (Nds w' w'.heap.size A1 F) ∧ Below w.heap.size w w')
  case atStart => exact ⟨0, 0, A3, A4, none, c3, c4, 0, u0, [], by omega, by omega, rfl, rfl, rfl, World.ownsRow_nil _ _ _ _, fun x hx => by simp at hx, hz, hg0, v5, x5, n5, b5⟩
  case round =>
    obtain ⟨i, m, A5, A6, A7, c5, c6, c7, u, had, hi, hmi, rfl, rfl, hm, hrow, hpos, hu, hg, v, x, nn, bl⟩ := hrel
    have s0 : wr.cell? ⟨gS, 0, none⟩ = some (.slice A5 F.length c5) := v.out.c0
    have s1 : wr.cell? ⟨gS, 1, none⟩ = some (.slice A6 u.length c6) := v.out.c1
    by_cases hlt' : i < am.length ∧ i < 20
    · obtain ⟨g, rfl⟩ : ∃ g, gk = g + 1 := ⟨gk - 1, by omega⟩
      obtain ⟨hlt1, hlt2⟩ := hlt'
      obtain ⟨b, o, rfl, hb, hcc⟩ := Ris.at (i := i) ha.out hlt1
      have d0 : wr.cell? ⟨b, o + i, none⟩ = some (.int .i64 (gI am i)) := (bl.cell (p := ⟨b, o + i, none⟩) hb).trans (hcc i hlt1)
      have t1 : decide ((i : Int) < 20) = true := by simp; omega
      have t2 : decide ((i : Int) < (am.length : Int)) = true := by simp; omega
      have HI := Lib.hid hi
      clear hcc hi
      have hKi : inI K := ⟨by omega, by omega⟩
      have hai : inI (gI am i) := hwa.out i hlt1
      obtain ⟨ha0, ha1⟩ := hai
      have hbw : b < wr.heap.size := by have := bl.size; omega
      have hgw : gS < wr.heap.size := v.out.blk.lt
      have d0z : (wr.alloc (.cells #[.slice none 0 0, .slice none 0 0] 31)).drew.cell? ⟨b, o + i, none⟩ = some (.int .i64 (gI am i)) := (World.cell?_alloc_lt wr _ ⟨b, o + i, none⟩ hbw).trans d0
      have v1 : Hid (StV wr.drew gS 31 A5 A6 F.length u.length c5 c6 F u) := stv_drew v.out
      have v2 : Hid (StV (wr.alloc (.cells #[.slice none 0 0, .slice none 0 0] 31)).drew gS 31 A5 A6 F.length u.length c5 c6 F u) := stv_drew (v.out.alloc _)
      have z2 : Hid (Blk (wr.alloc (.cells #[.slice none 0 0, .slice none 0 0] 31)).drew wr.heap.size 31 #[.slice none 0 0, .slice none 0 0]) := Blk.fresh wr _ _
      generalize hXX : gI am i = X at *
      have HXX := Lib.hid hXX
      clear hXX
      go_upto_region 10 with fail
      have dS0 : wr.cell? ⟨gS, 0, none⟩ = some (.slice A5 F.length c5) := v.out.c0
      have dS1 : wr.cell? ⟨gS, 1, none⟩ = some (.slice A6 u.length c6) := v.out.c1
      have hgl : gS < wr.heap.size := v.out.blk.lt
      go_cut [15, 16, 17] (fun sa sb sc wx => ∃ (gT : Nat) (B5 B6 : Option Addr) (d5 d6 : Nat), sa = .pointer (some ⟨gT, 0, none⟩) ∧ sb = .int .i64 (resF F u K X).1 ∧ sc = .int .i64 (resF F u K X).2 ∧ Hid (StV wx gT 31 B5 B6 F.length (resU F u K X).length d5 d6 F (resU F u K X)) ∧ Below wr.heap.size wr wx ∧ wr.heap.size ≤ gT ∧ Hid (∀ a, B5 = some a → wr.heap.size ≤ a.block) ∧ Hid (∀ a, B6 = some a → wr.heap.size ≤ a.block))
      case first =>
        have d0z : (wr.alloc (.cells #[.slice none 0 0, .slice none 0 0] 31)).drew.cell? ⟨b, o + i, none⟩ = some (.int .i64 X) := (World.cell?_alloc_lt wr _ ⟨b, o + i, none⟩ hbw).trans d0
        have v1 : Hid (StV wr.drew gS 31 A5 A6 F.length u.length c5 c6 F u) := stv_drew v.out
        have v2 : Hid (StV (wr.alloc (.cells #[.slice none 0 0, .slice none 0 0] 31)).drew gS 31 A5 A6 F.length u.length c5 c6 F u) := stv_drew (v.out.alloc _)
        have z2 : Hid (Blk (wr.alloc (.cells #[.slice none 0 0, .slice none 0 0] 31)).drew wr.heap.size 31 #[.slice none 0 0, .slice none 0 0]) := Blk.fresh wr _ _
        have hcb : b < wr.heap.size := hbw
        have cne : b ≠ wr.heap.size := by omega
        go_region_held3 (fun w' => w'.cell? ⟨gS, 0, none⟩ = some (.slice A5 F.length c5) ∧ w'.cell? ⟨gS, 1, none⟩ = some (.slice A6 u.length c6) ∧ w'.cell? ⟨b, o + i, none⟩ = some (.int .i64 X))
          (first | go_keep | (exact ⟨x0, x1, x2⟩) | (exact ⟨y0 _ _, y1 _ _, y2 _ _⟩))
          (first | (go_at_call 19; (with_reducible refine (reserve_fresh A5 A6 c5 c6 F u _ _ (wr.drew) (Lib.hid v1.out.nds) (Lib.hid v1.out.ris) hg.out hKi ha0 ha1).mono ?_); rintro e w5 ⟨B5, d5, B6, d6, rfl, hn5, hu5, hb5, fa5, fb5⟩; have vv := Lib.hid (v1.out.below hb5); have x0 : w5.cell? ⟨gS, 0, none⟩ = some (.slice A5 F.length c5) := vv.out.c0; have x1 : w5.cell? ⟨gS, 1, none⟩ = some (.slice A6 u.length c6) := vv.out.c1; have x2 : w5.cell? ⟨b, o + i, none⟩ = some (.int .i64 X) := cell_later hb5 d0) | (go_at_call 19; (with_reducible refine (reserve_fresh A5 A6 c5 c6 F u _ _ ((wr.alloc (.cells #[.slice none 0 0, .slice none 0 0] 31)).drew) (Lib.hid v2.out.nds) (Lib.hid v2.out.ris) hg.out hKi ha0 ha1).mono ?_); rintro e w5 ⟨B5, d5, B6, d6, rfl, hn5, hu5, hb5, fa5, fb5⟩; have vv := Lib.hid (v2.out.below hb5); have zz := Lib.hid (Blk.below' z2.out hb5); have x0 : w5.cell? ⟨gS, 0, none⟩ = some (.slice A5 F.length c5) := vv.out.c0; have x1 : w5.cell? ⟨gS, 1, none⟩ = some (.slice A6 u.length c6) := vv.out.c1; have x2 : w5.cell? ⟨b, o + i, none⟩ = some (.int .i64 X) := cell_later hb5 (d0z); have r0 : w5.cell? ⟨wr.heap.size, 0, none⟩ = some (.slice none 0 0) := zz.out.cell 0; have r1 : w5.cell? ⟨wr.heap.size, 1, none⟩ = some (.slice none 0 0) := zz.out.cell 1; have r2 : w5.frozen? ⟨wr.heap.size, 0, none⟩ = false := zz.out.thaw 0; have r3 : w5.frozen? ⟨wr.heap.size, 1, none⟩ = false := zz.out.thaw 1; have y0 : ∀ x y, ((w5.setCell ⟨wr.heap.size, 0, none⟩ x).setCell ⟨wr.heap.size, 1, none⟩ y).cell? ⟨gS, 0, none⟩ = some (.slice A5 F.length c5) := fun x y => (blk_far (blk_far vv.out.blk (p := ⟨wr.heap.size, 0, none⟩) (by simp; omega) x) (p := ⟨wr.heap.size, 1, none⟩) (by simp; omega) y).cell 0; have y1 : ∀ x y, ((w5.setCell ⟨wr.heap.size, 0, none⟩ x).setCell ⟨wr.heap.size, 1, none⟩ y).cell? ⟨gS, 1, none⟩ = some (.slice A6 u.length c6) := fun x y => (blk_far (blk_far vv.out.blk (p := ⟨wr.heap.size, 0, none⟩) (by simp; omega) x) (p := ⟨wr.heap.size, 1, none⟩) (by simp; omega) y).cell 1; have y2 : ∀ x y, ((w5.setCell ⟨wr.heap.size, 0, none⟩ x).setCell ⟨wr.heap.size, 1, none⟩ y).cell? ⟨b, o + i, none⟩ = some (.int .i64 X) := fun x y => far2 x2 cne 0))
        have hT : Hid (StV (w5.alloc (.cells #[.slice B5 F.length d5, .slice B6 (resU F u K X).length d6] 31)) w5.heap.size 31 B5 B6 F.length (resU F u K X).length d5 d6 F (resU F u K X)) := StV.new hn5 hu5
        have hD : Below wr.heap.size wr (w5.alloc (.cells #[.slice B5 F.length d5, .slice B6 (resU F u K X).length d6] 31)) := (below_step ((Below.refl wr.heap.size wr).drew) hb5).alloc (below_step ((Below.refl wr.heap.size wr).drew) hb5).size _
        go_wp2_with fail
        go_meet
        exact ⟨w5.heap.size, B5, B6, d5, d6, rfl, rfl, rfl, hT, hD, (below_step ((Below.refl _ _).drew) hb5).size, fa5, fb5⟩
        have hT : Hid (StV ((w5.setCell ⟨wr.heap.size, 0, none⟩ (.slice B5 F.length d5)).setCell ⟨wr.heap.size, 1, none⟩ (.slice B6 (resU F u K X).length d6)) wr.heap.size 31 B5 B6 F.length (resU F u K X).length d5 d6 F (resU F u K X)) := stv_store zz.out hn5 hu5
        have hD0 : Below wr.heap.size wr w5 := below_step (((Below.refl wr.heap.size wr).alloc (Nat.le_refl _) (.cells #[.slice none 0 0, .slice none 0 0] 31)).drew) hb5
        have hD : Below wr.heap.size wr ((w5.setCell ⟨wr.heap.size, 0, none⟩ (.slice B5 F.length d5)).setCell ⟨wr.heap.size, 1, none⟩ (.slice B6 (resU F u K X).length d6)) := (hD0.setCell (p := ⟨wr.heap.size, 0, none⟩) (Nat.le_refl _) _).setCell (p := ⟨wr.heap.size, 1, none⟩) (Nat.le_refl _) _
        go_wp2_with fail
        go_meet
        exact ⟨wr.heap.size, B5, B6, d5, d6, rfl, rfl, rfl, hT, hD, Nat.le_refl _, fun a h => Nat.le_trans (by simp) (fa5 a h), fun a h => Nat.le_trans (by simp) (fb5 a h)⟩
      case rest =>
        obtain ⟨gT, B5, B6, d5, d6, rfl, rfl, rfl, hT, hD, hgT, fa, fb⟩ := hcut
        rename World => wA
        have vA := Lib.hid (v.out.below hD)
        have xA := Lib.hid (x.out.below hD)
        have nA : Hid (Nds wA wA.heap.size A1 F) := Rd.below' nn.out hD hD.size
        have rowA := own_below hrow hD
        have bA := below_step bl hD
        have d0A : wA.cell? ⟨b, o + i, none⟩ = some (.int .i64 X) := (hD.cell (p := ⟨b, o + i, none⟩) hbw).trans d0
        have hbA : b < wA.heap.size := Nat.lt_of_lt_of_le hbw hD.size
        have hXl : gX < wr.heap.size := x.out.blk.lt
        have hXA : gX + 1 ≤ wA.heap.size := Nat.le_trans hXl hD.size
        have HT := Lib.hid hT.out
        by_cases hcode : (resF F u K X).1 = 0
        · have q1 : ((resF F u K X).1 != 0) = false := by simp [hcode]
          have hu' : Hid (resU F u K X = upF F K (had ++ [X]).sum) := by
            show _ = _
            rw [sum_snoc]
            have h := hcode
            rw [hu.out] at h ⊢
            exact res_up h
          have hX0 : Hid (∀ y ∈ had ++ [X], 0 ≤ y) := fun y hy => by
            rcases List.mem_append.1 hy with hy | hy
            · exact hpos.out y hy
            · rw [List.mem_singleton.1 hy]; exact res_nonneg hcode
          have hgN : Hid (GoodSt F (resU F u K X)) := good_res hg.out K X
          clear hcode
          generalize resU F u K X = u' at *
          have h63 : m + 1 ≤ maxLen := by unfold maxLen; omega
          have hby : (m + 1) * 8 ≤ 140737488355328 := by omega
          go_upto_region 16 with (at_builtin; refine wpList_app1G rowA rfl _ _ _ rfl j0 (.int .i64 0) 8 Try.underlying24 hj hj0 hj1 hj2 rfl (by decide) rfl rfl rfl [.int .i64 X] rfl rfl (by simp [Value.oneCell']) h63 hby hXA ?_; intro A8 c8 w8 hown8 hgr8)
          have t8 := Lib.hid (stv_grown (hT.out.alloc _) hgr8 (row_ne hrow.out (.inr hgT)) (fun a h => row_ne hrow.out (.inr (fa.out a h))) (fun a h => row_ne hrow.out (.inr (fb.out a h))))
          have x8 := Lib.hid (stv_grown (xA.out.alloc _) hgr8 (row_ne hrow.out (.inl (Nat.lt_succ_self gX))) (fun a h => row_ne hrow.out (.inl (Nat.lt_succ_of_lt (HB1.out a h)))) (fun a h => row_ne hrow.out (.inl (Nat.lt_succ_of_lt (HB2.out a h)))))
          have n8 : Hid (Nds w8 w8.heap.size A1 F) := rd_grown (Rd.below' nA.out ((Below.refl _ _).alloc (Nat.le_refl _) _) (by simp)) (Nat.le_refl _) hgr8 (fun a h => row_ne hrow.out (.inl (Nat.lt_succ_of_lt (HA1.out a h))))
          have k8 := Lib.hid (Blk_grown (vA.out.blk.alloc _) hgr8 (row_ne hrow.out (.inl (Nat.lt_succ_of_lt hlt))))
          have b8 : Below w.heap.size w w8 := by
            refine (bA.alloc bA.size _).grown hgr8 (by have := bA.size; simp; omega) ?_
            intro q hq
            have := World.ownsRow.lt hrow.out q hq
            omega
          have row8 : Hid (w8.ownsRow (gX + 1) 2 1 (.slice A8 (m + 1) c8) (m + 1) (ints (had ++ [X]))) := by
            rw [ints_snoc]; exact hown8.out
          have f0 : w8.cell? ⟨gT, 0, none⟩ = some (.slice B5 F.length d5) := t8.out.c0
          have f1 : w8.cell? ⟨gT, 1, none⟩ = some (.slice B6 u'.length d6) := t8.out.c1
          have f2 : w8.cell? ⟨gS, 0, none⟩ = some (.slice A5 F.length c5) := k8.out.cell 0
          have f3 : w8.cell? ⟨gS, 1, none⟩ = some (.slice A6 u.length c6) := k8.out.cell 1
          have f4 : w8.frozen? ⟨gS, 0, none⟩ = false := k8.out.thaw 0
          have f5 : w8.frozen? ⟨gS, 1, none⟩ = false := k8.out.thaw 1
          have v9 := Lib.hid (stv_store (m := F.length) (m' := u'.length) (d := d5) (d' := d6) k8.out t8.out.nds t8.out.ris)
          have x9 := Lib.hid (stv_far (E := B5) (E' := B6) (q := F.length) (q' := u'.length) (r := d5) (r' := d6) k8.out x8.out (by omega))
          have n9 := Lib.hid (nds_store k8.out n8.out B5 B6 F.length u'.length d5 d6)
          have row9 : Hid (((w8.setCell ⟨gS, 0, none⟩ (.slice B5 F.length d5)).setCell ⟨gS, 1, none⟩ (.slice B6 u'.length d6)).ownsRow (gX + 1) 2 1 (.slice A8 (m + 1) c8) (m + 1) (ints (had ++ [X]))) := ownsRow_setCell_below (ownsRow_setCell_below row8.out (a := ⟨gS, 0, none⟩) (Nat.lt_succ_of_lt hlt) _) (a := ⟨gS, 1, none⟩) (Nat.lt_succ_of_lt hlt) _
          have b9 := (b8.setCell (p := ⟨gS, 0, none⟩) hgs (.slice B5 F.length d5)).setCell (p := ⟨gS, 1, none⟩) hgs (.slice B6 u'.length d6)
          have hm' : Hid ((had ++ [X]).length = m + 1) := by show _ = _; rw [List.length_append, hm.out]; rfl
          clear hT hD hgr8 hown8 t8 x8 n8 k8 b8 row8 vA xA nA rowA bA HT d0A
          go_wp2_with fail
          go_roundg g
          case measure => omega
          case rel => exact ⟨i + 1, m + 1, B5, B6, A8, d5, d6, c8, u', had ++ [X], by have := HI.out; omega, by omega, by go_num, rfl, hm', row9, hX0, hu', hgN, v9, x9, n9, b9⟩
        have q1 : ((resF F u K X).1 != 0) = true := by simp [hcode]
        have HU : Hid (resU F u K X = u) := by show _ = _; unfold resU; rw [if_neg hcode]
        clear hcode
        clear hT
        go_upto_region 12 with fail
        have dS0 : wA.cell? ⟨gS, 0, none⟩ = some (.slice A5 F.length c5) := vA.out.c0
        have dS1 : wA.cell? ⟨gS, 1, none⟩ = some (.slice A6 u.length c6) := vA.out.c1
        have hgl : gS < wA.heap.size := vA.out.blk.lt
        go_cut [18, 19, 20] (fun sa sb sc wx => ∃ (gT : Nat) (B5 B6 : Option Addr) (d5 d6 : Nat), sa = .pointer (some ⟨gT, 0, none⟩) ∧ sb = .int .i64 (resF F u K X).1 ∧ sc = .int .i64 (resF F u K X).2 ∧ Hid (StV wx gT 31 B5 B6 F.length (resU F u K X).length d5 d6 F (resU F u K X)) ∧ Below wA.heap.size wA wx ∧ wA.heap.size ≤ gT ∧ Hid (∀ a, B5 = some a → wA.heap.size ≤ a.block) ∧ Hid (∀ a, B6 = some a → wA.heap.size ≤ a.block))
        case first =>
          have d0z : (wA.alloc (.cells #[.slice none 0 0, .slice none 0 0] 31)).drew.cell? ⟨b, o + i, none⟩ = some (.int .i64 X) := (World.cell?_alloc_lt wA _ ⟨b, o + i, none⟩ hbA).trans d0A
          have v1 : Hid (StV wA.drew gS 31 A5 A6 F.length u.length c5 c6 F u) := stv_drew vA.out
          have v2 : Hid (StV (wA.alloc (.cells #[.slice none 0 0, .slice none 0 0] 31)).drew gS 31 A5 A6 F.length u.length c5 c6 F u) := stv_drew (vA.out.alloc _)
          have z2 : Hid (Blk (wA.alloc (.cells #[.slice none 0 0, .slice none 0 0] 31)).drew wA.heap.size 31 #[.slice none 0 0, .slice none 0 0]) := Blk.fresh wA _ _
          have hcb : b < wA.heap.size := hbA
          have cne : b ≠ wA.heap.size := by omega
          go_region_held3 (fun w' => w'.cell? ⟨gS, 0, none⟩ = some (.slice A5 F.length c5) ∧ w'.cell? ⟨gS, 1, none⟩ = some (.slice A6 u.length c6) ∧ w'.cell? ⟨b, o + i, none⟩ = some (.int .i64 X))
            (first | go_keep | (exact ⟨x0, x1, x2⟩) | (exact ⟨y0 _ _, y1 _ _, y2 _ _⟩))
            (first | (go_at_call 19; (with_reducible refine (reserve_fresh A5 A6 c5 c6 F u _ _ (wA.drew) (Lib.hid v1.out.nds) (Lib.hid v1.out.ris) hg.out hKi ha0 ha1).mono ?_); rintro e w5 ⟨B5, d5, B6, d6, rfl, hn5, hu5, hb5, fa5, fb5⟩; have vv := Lib.hid (v1.out.below hb5); have x0 : w5.cell? ⟨gS, 0, none⟩ = some (.slice A5 F.length c5) := vv.out.c0; have x1 : w5.cell? ⟨gS, 1, none⟩ = some (.slice A6 u.length c6) := vv.out.c1; have x2 : w5.cell? ⟨b, o + i, none⟩ = some (.int .i64 X) := cell_later hb5 d0A) | (go_at_call 19; (with_reducible refine (reserve_fresh A5 A6 c5 c6 F u _ _ ((wA.alloc (.cells #[.slice none 0 0, .slice none 0 0] 31)).drew) (Lib.hid v2.out.nds) (Lib.hid v2.out.ris) hg.out hKi ha0 ha1).mono ?_); rintro e w5 ⟨B5, d5, B6, d6, rfl, hn5, hu5, hb5, fa5, fb5⟩; have vv := Lib.hid (v2.out.below hb5); have zz := Lib.hid (Blk.below' z2.out hb5); have x0 : w5.cell? ⟨gS, 0, none⟩ = some (.slice A5 F.length c5) := vv.out.c0; have x1 : w5.cell? ⟨gS, 1, none⟩ = some (.slice A6 u.length c6) := vv.out.c1; have x2 : w5.cell? ⟨b, o + i, none⟩ = some (.int .i64 X) := cell_later hb5 (d0z); have r0 : w5.cell? ⟨wA.heap.size, 0, none⟩ = some (.slice none 0 0) := zz.out.cell 0; have r1 : w5.cell? ⟨wA.heap.size, 1, none⟩ = some (.slice none 0 0) := zz.out.cell 1; have r2 : w5.frozen? ⟨wA.heap.size, 0, none⟩ = false := zz.out.thaw 0; have r3 : w5.frozen? ⟨wA.heap.size, 1, none⟩ = false := zz.out.thaw 1; have y0 : ∀ x y, ((w5.setCell ⟨wA.heap.size, 0, none⟩ x).setCell ⟨wA.heap.size, 1, none⟩ y).cell? ⟨gS, 0, none⟩ = some (.slice A5 F.length c5) := fun x y => (blk_far (blk_far vv.out.blk (p := ⟨wA.heap.size, 0, none⟩) (by simp; omega) x) (p := ⟨wA.heap.size, 1, none⟩) (by simp; omega) y).cell 0; have y1 : ∀ x y, ((w5.setCell ⟨wA.heap.size, 0, none⟩ x).setCell ⟨wA.heap.size, 1, none⟩ y).cell? ⟨gS, 1, none⟩ = some (.slice A6 u.length c6) := fun x y => (blk_far (blk_far vv.out.blk (p := ⟨wA.heap.size, 0, none⟩) (by simp; omega) x) (p := ⟨wA.heap.size, 1, none⟩) (by simp; omega) y).cell 1; have y2 : ∀ x y, ((w5.setCell ⟨wA.heap.size, 0, none⟩ x).setCell ⟨wA.heap.size, 1, none⟩ y).cell? ⟨b, o + i, none⟩ = some (.int .i64 X) := fun x y => far2 x2 cne 0))
          have hT : Hid (StV (w5.alloc (.cells #[.slice B5 F.length d5, .slice B6 (resU F u K X).length d6] 31)) w5.heap.size 31 B5 B6 F.length (resU F u K X).length d5 d6 F (resU F u K X)) := StV.new hn5 hu5
          have hD : Below wA.heap.size wA (w5.alloc (.cells #[.slice B5 F.length d5, .slice B6 (resU F u K X).length d6] 31)) := (below_step ((Below.refl wA.heap.size wA).drew) hb5).alloc (below_step ((Below.refl wA.heap.size wA).drew) hb5).size _
          go_wp2_with fail
          go_meet
          exact ⟨w5.heap.size, B5, B6, d5, d6, rfl, rfl, rfl, hT, hD, (below_step ((Below.refl _ _).drew) hb5).size, fa5, fb5⟩
          have hT : Hid (StV ((w5.setCell ⟨wA.heap.size, 0, none⟩ (.slice B5 F.length d5)).setCell ⟨wA.heap.size, 1, none⟩ (.slice B6 (resU F u K X).length d6)) wA.heap.size 31 B5 B6 F.length (resU F u K X).length d5 d6 F (resU F u K X)) := stv_store zz.out hn5 hu5
          have hD0 : Below wA.heap.size wA w5 := below_step (((Below.refl wA.heap.size wA).alloc (Nat.le_refl _) (.cells #[.slice none 0 0, .slice none 0 0] 31)).drew) hb5
          have hD : Below wA.heap.size wA ((w5.setCell ⟨wA.heap.size, 0, none⟩ (.slice B5 F.length d5)).setCell ⟨wA.heap.size, 1, none⟩ (.slice B6 (resU F u K X).length d6)) := (hD0.setCell (p := ⟨wA.heap.size, 0, none⟩) (Nat.le_refl _) _).setCell (p := ⟨wA.heap.size, 1, none⟩) (Nat.le_refl _) _
          go_wp2_with fail
          go_meet
          exact ⟨wA.heap.size, B5, B6, d5, d6, rfl, rfl, rfl, hT, hD, Nat.le_refl _, fun a h => Nat.le_trans (by simp) (fa5 a h), fun a h => Nat.le_trans (by simp) (fb5 a h)⟩
        case rest =>
          obtain ⟨gU, B7, B8, d7, d8, rfl, rfl, rfl, hU, hE, hgU, _, _⟩ := hcut
          rename World => wB
          rw [HU.out] at hU
          have vB := Lib.hid (vA.out.below hE)
          have xB := Lib.hid (xA.out.below hE)
          have nB : Hid (Nds wB wB.heap.size A1 F) := Rd.below' nA.out hE hE.size
          have rowB := own_below rowA hE
          have bB := below_step bA hE
          have m1 : (F.length : Int) ≤ 1000000 := by omega
          have m2 : (u.length : Int) ≤ 1000000 := by rw [hg.out.len]; omega
          have qq : ((resF F u K X).1 != (resF F u K X).1) = false := by simp
          have T0 := hU.out.c0
          have T1 := hU.out.c1
          have S0 := vB.out.c0
          have S1 := vB.out.c1
          have KC : Hid (∀ W, Below wB.heap.size wB W → W.cell? ⟨gU, 0, none⟩ = some (.slice B7 F.length d7) ∧ W.cell? ⟨gU, 1, none⟩ = some (.slice B8 u.length d8) ∧ W.cell? ⟨gS, 0, none⟩ = some (.slice A5 F.length c5) ∧ W.cell? ⟨gS, 1, none⟩ = some (.slice A6 u.length c6)) := fun W hb => ⟨(hU.out.below hb).c0, (hU.out.below hb).c1, (vB.out.below hb).c0, (vB.out.below hb).c1⟩
          have ET : Hid (∀ W, Below wB.heap.size wB W → Hid (Nds W W.heap.size B7 F) ∧ Hid (Ris W W.heap.size B8 u)) := fun W hb => ⟨(hU.out.below hb).nds, (hU.out.below hb).ris⟩
          have ES : Hid (∀ W, Below wB.heap.size wB W → Hid (Nds W W.heap.size A5 F) ∧ Hid (Ris W W.heap.size A6 u)) := fun W hb => ⟨(vB.out.below hb).nds, (vB.out.below hb).ris⟩
          have dw : Hid (Below wB.heap.size wB wB.drew) := (Below.refl _ _).drew
          go_upto_region 13 with fail
          go_cut [96] (fun sa wx => sa = .bool false ∧ Below wB.heap.size wB wx)
          case first =>
            go_region_held3 (fun w' => w'.cell? ⟨gU, 0, none⟩ = some (.slice B7 F.length d7) ∧ w'.cell? ⟨gU, 1, none⟩ = some (.slice B8 u.length d8) ∧ w'.cell? ⟨gS, 0, none⟩ = some (.slice A5 F.length c5) ∧ w'.cell? ⟨gS, 1, none⟩ = some (.slice A6 u.length c6))
              (first | (exact KC.out _ (Hid.out (by assumption))) | go_keep)
              (first
                | (go_at_call 18; (with_reducible refine (from_any B7 B8 d7 d8 F u wB.drew (ET.out _ dw.out).1 (ET.out _ dw.out).2 m1 m2).mono ?_); rintro e y1 ⟨E1, h1, E2, h2, rfl, hn1, hu1, hb1⟩; have D1 := Lib.hid (below_step dw.out hb1); have HN1 := Lib.hid hn1; have HU1 := Lib.hid hu1; clear hn1 hu1)
                | (go_at_call 18; (with_reducible refine (from_any A5 A6 c5 c6 F u wB.drew (ES.out _ dw.out).1 (ES.out _ dw.out).2 m1 m2).mono ?_); rintro e y5 ⟨E5, h5, E6, h6, rfl, hn5, hu5, hb5⟩; have D5 := Lib.hid (below_step dw.out hb5); have HN5 := Lib.hid hn5; have HU5 := Lib.hid hu5; clear hn5 hu5)
                | (go_at_call 18; (with_reducible refine (from_any A5 A6 c5 c6 F u y1 (ES.out _ D1.out).1 (ES.out _ D1.out).2 m1 m2).mono ?_); rintro e y3 ⟨E3, h3, E4, h4, rfl, hn3, hu3, hb3⟩; have D3 := Lib.hid (below_step D1.out hb3); have HN3 := Lib.hid hn3; have HU3 := Lib.hid hu3; have HN1' : Hid (Nds y3 y3.heap.size E1 F) := Rd.below' HN1.out hb3 hb3.size; have HU1' : Hid (Ris y3 y3.heap.size E2 u) := Rd.below' HU1.out hb3 hb3.size; clear hn3 hu3)
                | (go_at_call 18; (with_reducible refine (from_any B7 B8 d7 d8 F u y5 (ET.out _ D5.out).1 (ET.out _ D5.out).2 m1 m2).mono ?_); rintro e y7 ⟨E7, h7, E8, h8, rfl, hn7, hu7, hb7⟩; have D7 := Lib.hid (below_step D5.out hb7); have HN7 := Lib.hid hn7; have HU7 := Lib.hid hu7; have HN5' : Hid (Nds y7 y7.heap.size E5 F) := Rd.below' HN5.out hb7 hb7.size; have HU5' : Hid (Ris y7 y7.heap.size E6 u) := Rd.below' HU5.out hb7 hb7.size; clear hn7 hu7)
                | (go_at_call 17; (with_reducible refine (same_any E1 E2 E3 E4 h1 h2 h3 h4 F u y3 HN1' HU1' HN3 HU3 m1 m2).mono ?_); rintro e y4 ⟨rfl, hb4⟩; have D4 := Lib.hid (below_step D3.out hb4))
                | (go_at_call 17; (with_reducible refine (same_any E7 E8 E5 E6 h7 h8 h5 h6 F u y7 HN7 HU7 HN5' HU5' m1 m2).mono ?_); rintro e y8 ⟨rfl, hb8⟩; have D8 := Lib.hid (below_step D7.out hb8)))
            all_goals
              go_wp2_with fail
              go_meet
              first | exact ⟨rfl, D4.out⟩ | exact ⟨rfl, D8.out⟩
          case rest =>
            obtain ⟨rfl, hC⟩ := hcut
            rename World => wC
            have vC := Lib.hid (vB.out.below hC)
            have xC := Lib.hid (xB.out.below hC)
            have nC : Hid (Nds wC wC.heap.size A1 F) := Rd.below' nB.out hC hC.size
            have rowC := own_below rowB hC
            have bC := below_step bB hC
            clear KC ET ES dw hC hE hU vA xA nA rowA bA vB xB nB rowB bB T0 T1 S0 S1 d0A HT
            go_wp2_with fail
            go_roundg g
            case measure => omega
            case rel => exact ⟨i + 1, m, A5, A6, A7, c5, c6, c7, u, had, by have := HI.out; omega, by omega, by go_num, rfl, hm, rowC, hpos, hu, hg, vC, xC, nC, bC⟩
    · have hm20 : m ≤ 20 := by omega
      by_cases hx1 : i < am.length
      case' pos =>
        have t1 : decide ((i : Int) < 20) = false := by simp; omega
        have t2 : decide ((i : Int) < (am.length : Int)) = true := by simp; omega
        clear hlt' hi
        go_upto_region 17 with fail
      case' neg =>
        have t2 : decide ((i : Int) < (am.length : Int)) = false := by simp; omega
        clear hlt' hi
        go_upto_region 17 with fail
      all_goals
        clear s0 s1
        have hXl : gX < wr.heap.size := x.out.blk.lt
        obtain ⟨bn, on, hA1e, hbn, hcn⟩ := Nds.at nn.out (by omega)
        subst hA1e
        have hC := (hcn K.toNat (by omega)).2
        have hok := o1.out K.toNat (by omega)
        obtain ⟨_, _, hCa, hCb, _⟩ := hok
        have hlow := low_in cp (nC F K.toNat) hCa hCb
        clear hcn
        have hKi : inI K := ⟨by omega, by omega⟩
        go_upto_region 18 with fail
        generalize wrap64 ((IntKind.u64.wrap cp).tmod (nC F K.toNat + 1)) = low at hlow ⊢
        obtain ⟨hlow0, hlow1⟩ := hlow
        have hKr : Hid (inR F.length K = true) := inR_t hK0 hK1
        have hLz := lim_ok hKr.out hlow0 (by omega : low ≤ 4611686018427387904)
        have q1 : (limF F K low != 0) = false := by rw [hLz]; rfl
        have HLZ := Lib.hid hLz
        clear hLz
        have s0 : wr.cell? ⟨gS, 0, none⟩ = some (.slice A5 F.length c5) := v.out.c0
        have s1 : wr.cell? ⟨gS, 1, none⟩ = some (.slice A6 u.length c6) := v.out.c1
        go_wp2_with fail
        refine (limit_any A5 A6 c5 c6 F u K low wr (Lib.hid v.out.nds) (Lib.hid v.out.ris) hg.out hKi (by omega) (by omega)).mono ?_
        rintro e w1 ⟨B3, d3, B4, d4, rfl, hn1, hu1, hb1⟩
        have hFl : Hid ((limL F K low).length = F.length) := (okt_lim o1.out K low).2
        have hgL : Hid (GoodSt (limL F K low) u) := good_lim hg.out K low
        have tt : Hid (StV (w1.alloc (.cells #[.slice B3 (limL F K low).length d3, .slice B4 u.length d4] 31)) w1.heap.size 31 B3 B4 (limL F K low).length u.length d3 d4 (limL F K low) u) := StV.new hn1 hu1
        have D1 : Below wr.heap.size wr (w1.alloc (.cells #[.slice B3 (limL F K low).length d3, .slice B4 u.length d4] 31)) := hb1.alloc hb1.size _
        have hgt1 : wr.heap.size ≤ w1.heap.size := hb1.size
        clear hn1 hu1 hb1 s0 s1
        go_upto_region 19 with fail
        generalize w1.alloc (.cells #[.slice B3 (limL F K low).length d3, .slice B4 u.length d4] 31) = w2 at tt D1 ⊢
        generalize w1.heap.size = gV at tt hgt1 ⊢
        go_wp2_with fail
        refine (told4_any _).mono ?_
        rintro e w3 ⟨rfl, hb3⟩
        have D3 := below_step D1 hb3
        have v3 := Lib.hid (v.out.below D3)
        have x3 := Lib.hid (x.out.below D3)
        have t3 := Lib.hid (tt.out.below hb3)
        have n3 : Hid (Nds w3 w3.heap.size (some ⟨bn, on, none⟩) F) := Rd.below' nn.out D3 D3.size
        have row3 := own_below hrow D3
        have b3 := below_step bl D3
        have s1 : w3.cell? ⟨gS, 1, none⟩ = some (.slice A6 u.length c6) := v3.out.c1
        have s2 : w3.cell? ⟨gV, 1, none⟩ = some (.slice B4 u.length d4) := t3.out.c1
        have qq : ((u.length : Int) != (u.length : Int)) = false := by simp
        clear D1 D3 hb3 v x nn hrow bl tt
        go_upto_block 2 with fail
        go_cut [24] (fun sa wx => Below w3.heap.size w3 wx)
        case first =>
          go_wp2_with fail
          go_loopg [24] (min am.length 20) (fun g s24 w' => ∃ (i : Nat), i + g = min am.length 20 ∧ s24 = .int .i64 i ∧ Below w3.heap.size w3 w')
          case atStart => exact ⟨0, by omega, rfl, Below.refl _ _⟩
          case round =>
            obtain ⟨i2, hi2, rfl, hbel⟩ := hrel
            by_cases hlt2 : i2 < am.length ∧ i2 < 20
            · obtain ⟨g, rfl⟩ : ∃ g, gk = g + 1 := ⟨gk - 1, by omega⟩
              obtain ⟨hlt3, hlt4⟩ := hlt2
              have r1 : decide ((i2 : Int) < 20) = true := by simp; omega
              have r2 : decide ((i2 : Int) < (am.length : Int)) = true := by simp; omega
              obtain ⟨b, o, rfl, hb, hcc⟩ := Ris.at (i := i2) ha.out hlt3
              have d0 : wr.cell? ⟨b, o + i2, none⟩ = some (.int .i64 (gI am i2)) := ((b3.trans (hbel.mono b3.size)).cell (p := ⟨b, o + i2, none⟩) hb).trans (hcc i2 hlt3)
              have hbw : b < wr.heap.size := by have := b3.size; have := hbel.size; omega
              have hXi : inI (gI am i2) := hwa.out i2 hlt3
              obtain ⟨ha0, ha1⟩ := hXi
              have HI2 := Lib.hid hi2
              clear hcc hi2 s1 s2
              generalize hXX2 : gI am i2 = X at *
              have HXX2 := Lib.hid hXX2
              clear hXX2
              have vL := Lib.hid (v3.out.below hbel)
              have tL := Lib.hid (t3.out.below hbel)
              go_wp2_with fail
              go_upto_region 24 with fail
              have dS0 : wr.cell? ⟨gS, 0, none⟩ = some (.slice A5 F.length c5) := vL.out.c0
              have dS1 : wr.cell? ⟨gS, 1, none⟩ = some (.slice A6 u.length c6) := vL.out.c1
              have hgl : gS < wr.heap.size := vL.out.blk.lt
              go_cut [25, 26, 27] (fun sa sb sc wx => ∃ (gT : Nat) (B5 B6 : Option Addr) (d5 d6 : Nat), sa = .pointer (some ⟨gT, 0, none⟩) ∧ sb = .int .i64 (resF F u K X).1 ∧ sc = .int .i64 (resF F u K X).2 ∧ Hid (StV wx gT 31 B5 B6 F.length (resU F u K X).length d5 d6 F (resU F u K X)) ∧ Below wr.heap.size wr wx ∧ wr.heap.size ≤ gT ∧ Hid (∀ a, B5 = some a → wr.heap.size ≤ a.block) ∧ Hid (∀ a, B6 = some a → wr.heap.size ≤ a.block))
              case first =>
                have d0z : (wr.alloc (.cells #[.slice none 0 0, .slice none 0 0] 31)).drew.cell? ⟨b, o + i2, none⟩ = some (.int .i64 X) := (World.cell?_alloc_lt wr _ ⟨b, o + i2, none⟩ hbw).trans d0
                have v1 : Hid (StV wr.drew gS 31 A5 A6 F.length u.length c5 c6 F u) := stv_drew vL.out
                have v2 : Hid (StV (wr.alloc (.cells #[.slice none 0 0, .slice none 0 0] 31)).drew gS 31 A5 A6 F.length u.length c5 c6 F u) := stv_drew (vL.out.alloc _)
                have z2 : Hid (Blk (wr.alloc (.cells #[.slice none 0 0, .slice none 0 0] 31)).drew wr.heap.size 31 #[.slice none 0 0, .slice none 0 0]) := Blk.fresh wr _ _
                have hcb : b < wr.heap.size := hbw
                have cne : b ≠ wr.heap.size := by omega
                go_region_held3 (fun w' => w'.cell? ⟨gS, 0, none⟩ = some (.slice A5 F.length c5) ∧ w'.cell? ⟨gS, 1, none⟩ = some (.slice A6 u.length c6) ∧ w'.cell? ⟨b, o + i2, none⟩ = some (.int .i64 X))
                  (first | go_keep | (exact ⟨x0, x1, x2⟩) | (exact ⟨y0 _ _, y1 _ _, y2 _ _⟩))
                  (first | (go_at_call 19; (with_reducible refine (reserve_fresh A5 A6 c5 c6 F u _ _ (wr.drew) (Lib.hid v1.out.nds) (Lib.hid v1.out.ris) hg.out hKi ha0 ha1).mono ?_); rintro e w5 ⟨B5, d5, B6, d6, rfl, hn5, hu5, hb5, fa5, fb5⟩; have vv := Lib.hid (v1.out.below hb5); have x0 : w5.cell? ⟨gS, 0, none⟩ = some (.slice A5 F.length c5) := vv.out.c0; have x1 : w5.cell? ⟨gS, 1, none⟩ = some (.slice A6 u.length c6) := vv.out.c1; have x2 : w5.cell? ⟨b, o + i2, none⟩ = some (.int .i64 X) := cell_later hb5 d0) | (go_at_call 19; (with_reducible refine (reserve_fresh A5 A6 c5 c6 F u _ _ ((wr.alloc (.cells #[.slice none 0 0, .slice none 0 0] 31)).drew) (Lib.hid v2.out.nds) (Lib.hid v2.out.ris) hg.out hKi ha0 ha1).mono ?_); rintro e w5 ⟨B5, d5, B6, d6, rfl, hn5, hu5, hb5, fa5, fb5⟩; have vv := Lib.hid (v2.out.below hb5); have zz := Lib.hid (Blk.below' z2.out hb5); have x0 : w5.cell? ⟨gS, 0, none⟩ = some (.slice A5 F.length c5) := vv.out.c0; have x1 : w5.cell? ⟨gS, 1, none⟩ = some (.slice A6 u.length c6) := vv.out.c1; have x2 : w5.cell? ⟨b, o + i2, none⟩ = some (.int .i64 X) := cell_later hb5 (d0z); have r0 : w5.cell? ⟨wr.heap.size, 0, none⟩ = some (.slice none 0 0) := zz.out.cell 0; have r1 : w5.cell? ⟨wr.heap.size, 1, none⟩ = some (.slice none 0 0) := zz.out.cell 1; have r2 : w5.frozen? ⟨wr.heap.size, 0, none⟩ = false := zz.out.thaw 0; have r3 : w5.frozen? ⟨wr.heap.size, 1, none⟩ = false := zz.out.thaw 1; have y0 : ∀ x y, ((w5.setCell ⟨wr.heap.size, 0, none⟩ x).setCell ⟨wr.heap.size, 1, none⟩ y).cell? ⟨gS, 0, none⟩ = some (.slice A5 F.length c5) := fun x y => (blk_far (blk_far vv.out.blk (p := ⟨wr.heap.size, 0, none⟩) (by simp; omega) x) (p := ⟨wr.heap.size, 1, none⟩) (by simp; omega) y).cell 0; have y1 : ∀ x y, ((w5.setCell ⟨wr.heap.size, 0, none⟩ x).setCell ⟨wr.heap.size, 1, none⟩ y).cell? ⟨gS, 1, none⟩ = some (.slice A6 u.length c6) := fun x y => (blk_far (blk_far vv.out.blk (p := ⟨wr.heap.size, 0, none⟩) (by simp; omega) x) (p := ⟨wr.heap.size, 1, none⟩) (by simp; omega) y).cell 1; have y2 : ∀ x y, ((w5.setCell ⟨wr.heap.size, 0, none⟩ x).setCell ⟨wr.heap.size, 1, none⟩ y).cell? ⟨b, o + i2, none⟩ = some (.int .i64 X) := fun x y => far2 x2 cne 0))
                have hT : Hid (StV (w5.alloc (.cells #[.slice B5 F.length d5, .slice B6 (resU F u K X).length d6] 31)) w5.heap.size 31 B5 B6 F.length (resU F u K X).length d5 d6 F (resU F u K X)) := StV.new hn5 hu5
                have hD : Below wr.heap.size wr (w5.alloc (.cells #[.slice B5 F.length d5, .slice B6 (resU F u K X).length d6] 31)) := (below_step ((Below.refl wr.heap.size wr).drew) hb5).alloc (below_step ((Below.refl wr.heap.size wr).drew) hb5).size _
                go_wp2_with fail
                go_meet
                exact ⟨w5.heap.size, B5, B6, d5, d6, rfl, rfl, rfl, hT, hD, (below_step ((Below.refl _ _).drew) hb5).size, fa5, fb5⟩
                have hT : Hid (StV ((w5.setCell ⟨wr.heap.size, 0, none⟩ (.slice B5 F.length d5)).setCell ⟨wr.heap.size, 1, none⟩ (.slice B6 (resU F u K X).length d6)) wr.heap.size 31 B5 B6 F.length (resU F u K X).length d5 d6 F (resU F u K X)) := stv_store zz.out hn5 hu5
                have hD0 : Below wr.heap.size wr w5 := below_step (((Below.refl wr.heap.size wr).alloc (Nat.le_refl _) (.cells #[.slice none 0 0, .slice none 0 0] 31)).drew) hb5
                have hD : Below wr.heap.size wr ((w5.setCell ⟨wr.heap.size, 0, none⟩ (.slice B5 F.length d5)).setCell ⟨wr.heap.size, 1, none⟩ (.slice B6 (resU F u K X).length d6)) := (hD0.setCell (p := ⟨wr.heap.size, 0, none⟩) (Nat.le_refl _) _).setCell (p := ⟨wr.heap.size, 1, none⟩) (Nat.le_refl _) _
                go_wp2_with fail
                go_meet
                exact ⟨wr.heap.size, B5, B6, d5, d6, rfl, rfl, rfl, hT, hD, Nat.le_refl _, fun a h => Nat.le_trans (by simp) (fa5 a h), fun a h => Nat.le_trans (by simp) (fb5 a h)⟩
              case rest =>
                obtain ⟨gT, B5, B6, d5, d6, rfl, rfl, rfl, hT, hD, hgT, _, _⟩ := hcut
                rename World => wA
                have tA := Lib.hid (tL.out.below hD)
                have d0A : wA.cell? ⟨b, o + i2, none⟩ = some (.int .i64 X) := (hD.cell (p := ⟨b, o + i2, none⟩) hbw).trans d0
                have hbA : b < wA.heap.size := Nat.lt_of_lt_of_le hbw hD.size
                clear hT
                go_upto_region 25 with fail
                have dS0 : wA.cell? ⟨gV, 0, none⟩ = some (.slice B3 (limL F K low).length d3) := tA.out.c0
                have dS1 : wA.cell? ⟨gV, 1, none⟩ = some (.slice B4 u.length d4) := tA.out.c1
                have hgl : gV < wA.heap.size := tA.out.blk.lt
                go_cut [28, 29, 30] (fun sa sb sc wx => ∃ (gT : Nat) (B5 B6 : Option Addr) (d5 d6 : Nat), sa = .pointer (some ⟨gT, 0, none⟩) ∧ sb = .int .i64 (resF (limL F K low) u K X).1 ∧ sc = .int .i64 (resF (limL F K low) u K X).2 ∧ Hid (StV wx gT 31 B5 B6 (limL F K low).length (resU (limL F K low) u K X).length d5 d6 (limL F K low) (resU (limL F K low) u K X)) ∧ Below wA.heap.size wA wx ∧ wA.heap.size ≤ gT ∧ Hid (∀ a, B5 = some a → wA.heap.size ≤ a.block) ∧ Hid (∀ a, B6 = some a → wA.heap.size ≤ a.block))
                case first =>
                  have d0z : (wA.alloc (.cells #[.slice none 0 0, .slice none 0 0] 31)).drew.cell? ⟨b, o + i2, none⟩ = some (.int .i64 X) := (World.cell?_alloc_lt wA _ ⟨b, o + i2, none⟩ hbA).trans d0A
                  have v1 : Hid (StV wA.drew gV 31 B3 B4 (limL F K low).length u.length d3 d4 (limL F K low) u) := stv_drew tA.out
                  have v2 : Hid (StV (wA.alloc (.cells #[.slice none 0 0, .slice none 0 0] 31)).drew gV 31 B3 B4 (limL F K low).length u.length d3 d4 (limL F K low) u) := stv_drew (tA.out.alloc _)
                  have z2 : Hid (Blk (wA.alloc (.cells #[.slice none 0 0, .slice none 0 0] 31)).drew wA.heap.size 31 #[.slice none 0 0, .slice none 0 0]) := Blk.fresh wA _ _
                  have hcb : b < wA.heap.size := hbA
                  have cne : b ≠ wA.heap.size := by omega
                  go_region_held3 (fun w' => w'.cell? ⟨gV, 0, none⟩ = some (.slice B3 (limL F K low).length d3) ∧ w'.cell? ⟨gV, 1, none⟩ = some (.slice B4 u.length d4) ∧ w'.cell? ⟨b, o + i2, none⟩ = some (.int .i64 X))
                    (first | go_keep | (exact ⟨x0, x1, x2⟩) | (exact ⟨y0 _ _, y1 _ _, y2 _ _⟩))
                    (first | (go_at_call 19; (with_reducible refine (reserve_fresh B3 B4 d3 d4 (limL F K low) u _ _ (wA.drew) (Lib.hid v1.out.nds) (Lib.hid v1.out.ris) hgL.out hKi ha0 ha1).mono ?_); rintro e w5 ⟨B5, d5, B6, d6, rfl, hn5, hu5, hb5, fa5, fb5⟩; have vv := Lib.hid (v1.out.below hb5); have x0 : w5.cell? ⟨gV, 0, none⟩ = some (.slice B3 (limL F K low).length d3) := vv.out.c0; have x1 : w5.cell? ⟨gV, 1, none⟩ = some (.slice B4 u.length d4) := vv.out.c1; have x2 : w5.cell? ⟨b, o + i2, none⟩ = some (.int .i64 X) := cell_later hb5 d0A) | (go_at_call 19; (with_reducible refine (reserve_fresh B3 B4 d3 d4 (limL F K low) u _ _ ((wA.alloc (.cells #[.slice none 0 0, .slice none 0 0] 31)).drew) (Lib.hid v2.out.nds) (Lib.hid v2.out.ris) hgL.out hKi ha0 ha1).mono ?_); rintro e w5 ⟨B5, d5, B6, d6, rfl, hn5, hu5, hb5, fa5, fb5⟩; have vv := Lib.hid (v2.out.below hb5); have zz := Lib.hid (Blk.below' z2.out hb5); have x0 : w5.cell? ⟨gV, 0, none⟩ = some (.slice B3 (limL F K low).length d3) := vv.out.c0; have x1 : w5.cell? ⟨gV, 1, none⟩ = some (.slice B4 u.length d4) := vv.out.c1; have x2 : w5.cell? ⟨b, o + i2, none⟩ = some (.int .i64 X) := cell_later hb5 (d0z); have r0 : w5.cell? ⟨wA.heap.size, 0, none⟩ = some (.slice none 0 0) := zz.out.cell 0; have r1 : w5.cell? ⟨wA.heap.size, 1, none⟩ = some (.slice none 0 0) := zz.out.cell 1; have r2 : w5.frozen? ⟨wA.heap.size, 0, none⟩ = false := zz.out.thaw 0; have r3 : w5.frozen? ⟨wA.heap.size, 1, none⟩ = false := zz.out.thaw 1; have y0 : ∀ x y, ((w5.setCell ⟨wA.heap.size, 0, none⟩ x).setCell ⟨wA.heap.size, 1, none⟩ y).cell? ⟨gV, 0, none⟩ = some (.slice B3 (limL F K low).length d3) := fun x y => (blk_far (blk_far vv.out.blk (p := ⟨wA.heap.size, 0, none⟩) (by simp; omega) x) (p := ⟨wA.heap.size, 1, none⟩) (by simp; omega) y).cell 0; have y1 : ∀ x y, ((w5.setCell ⟨wA.heap.size, 0, none⟩ x).setCell ⟨wA.heap.size, 1, none⟩ y).cell? ⟨gV, 1, none⟩ = some (.slice B4 u.length d4) := fun x y => (blk_far (blk_far vv.out.blk (p := ⟨wA.heap.size, 0, none⟩) (by simp; omega) x) (p := ⟨wA.heap.size, 1, none⟩) (by simp; omega) y).cell 1; have y2 : ∀ x y, ((w5.setCell ⟨wA.heap.size, 0, none⟩ x).setCell ⟨wA.heap.size, 1, none⟩ y).cell? ⟨b, o + i2, none⟩ = some (.int .i64 X) := fun x y => far2 x2 cne 0))
                  have hT : Hid (StV (w5.alloc (.cells #[.slice B5 (limL F K low).length d5, .slice B6 (resU (limL F K low) u K X).length d6] 31)) w5.heap.size 31 B5 B6 (limL F K low).length (resU (limL F K low) u K X).length d5 d6 (limL F K low) (resU (limL F K low) u K X)) := StV.new hn5 hu5
                  have hD : Below wA.heap.size wA (w5.alloc (.cells #[.slice B5 (limL F K low).length d5, .slice B6 (resU (limL F K low) u K X).length d6] 31)) := (below_step ((Below.refl wA.heap.size wA).drew) hb5).alloc (below_step ((Below.refl wA.heap.size wA).drew) hb5).size _
                  go_wp2_with fail
                  go_meet
                  exact ⟨w5.heap.size, B5, B6, d5, d6, rfl, rfl, rfl, hT, hD, (below_step ((Below.refl _ _).drew) hb5).size, fa5, fb5⟩
                  have hT : Hid (StV ((w5.setCell ⟨wA.heap.size, 0, none⟩ (.slice B5 (limL F K low).length d5)).setCell ⟨wA.heap.size, 1, none⟩ (.slice B6 (resU (limL F K low) u K X).length d6)) wA.heap.size 31 B5 B6 (limL F K low).length (resU (limL F K low) u K X).length d5 d6 (limL F K low) (resU (limL F K low) u K X)) := stv_store zz.out hn5 hu5
                  have hD0 : Below wA.heap.size wA w5 := below_step (((Below.refl wA.heap.size wA).alloc (Nat.le_refl _) (.cells #[.slice none 0 0, .slice none 0 0] 31)).drew) hb5
                  have hD : Below wA.heap.size wA ((w5.setCell ⟨wA.heap.size, 0, none⟩ (.slice B5 (limL F K low).length d5)).setCell ⟨wA.heap.size, 1, none⟩ (.slice B6 (resU (limL F K low) u K X).length d6)) := (hD0.setCell (p := ⟨wA.heap.size, 0, none⟩) (Nat.le_refl _) _).setCell (p := ⟨wA.heap.size, 1, none⟩) (Nat.le_refl _) _
                  go_wp2_with fail
                  go_meet
                  exact ⟨wA.heap.size, B5, B6, d5, d6, rfl, rfl, rfl, hT, hD, Nat.le_refl _, fun a h => Nat.le_trans (by simp) (fa5 a h), fun a h => Nat.le_trans (by simp) (fb5 a h)⟩
                case rest =>
                  obtain ⟨gU, B7, B8, d7, d8, rfl, rfl, rfl, hU, hE, hgU, _, _⟩ := hcut
                  rename World => wB
                  have hFin := below_step (below_step hbel hD) hE
                  have hres : Hid ((resF (limL F K low) u K X).1 = 0 → (resF F u K X).1 = 0) := res_lower hlow1
                  by_cases hr0 : (resF F u K X).1 = 0
                  · have e1 : ((resF F u K X).1 != 0) = false := by simp [hr0]
                    clear hr0 hU
                    go_wp2_with fail
                    go_roundg g
                    case measure => omega
                    case rel => exact ⟨i2 + 1, by have := HI2.out; omega, by go_num, hFin⟩
                  · have e1 : ((resF F u K X).1 != 0) = true := by simp [hr0]
                    have e2 : ((resF (limL F K low) u K X).1 == 0) = false := by
                      have : ¬ (resF (limL F K low) u K X).1 = 0 := fun h => hr0 (hres.out h)
                      simp [this]
                    clear hr0 hU
                    go_wp2_with fail
                    go_roundg g
                    case measure => omega
                    case rel => exact ⟨i2 + 1, by have := HI2.out; omega, by go_num, hFin⟩
            · by_cases hx2 : i2 < am.length
              · have r1 : decide ((i2 : Int) < 20) = false := by simp; omega
                have r2 : decide ((i2 : Int) < (am.length : Int)) = true := by simp; omega
                go_wp2_with fail
                go_meet
                exact hbel
              · have r2 : decide ((i2 : Int) < (am.length : Int)) = false := by simp; omega
                go_wp2_with fail
                go_meet
                exact hbel
        case rest =>
          rename World => w4
          have D4 := hcut
          have x4 := Lib.hid (x3.out.below D4)
          have t4 := Lib.hid (t3.out.below D4)
          have n4 : Hid (Nds w4 w4.heap.size (some ⟨bn, on, none⟩) F) := Rd.below' n3.out D4 D4.size
          have row4 := own_below row3 D4
          have b4 := below_step b3 D4
          have hup : Hid (u = upF (limL F K low) K (had.drop 0).sum) := by show _ = _; rw [List.drop_zero, up_lim]; exact hu.out
          have hXV : gX < gV := by omega
          clear D4 hcut v3 x3 t3 n3 row3 b3 s1 s2
          go_wp2_with fail
          have hgLr : Hid (inR (limL F K low).length K = true) := by show _ = _; rw [hFl.out]; exact hKr.out
          go_loopg [31] m (fun g s31 w' => ∃ (i3 : Nat) (E1 E2 : Option Addr) (e1 e2 : Nat) (y : List Int), i3 + g = m ∧ s31 = .int .i64 i3 ∧ Hid (y = upF (limL F K low) K (had.drop i3).sum) ∧ Hid (GoodSt (limL F K low) y) ∧ Hid (StV w' gV 31 E1 E2 (limL F K low).length y.length e1 e2 (limL F K low) y) ∧ Hid (StV w' gX 26 B1 B2 F.length u0.length d1 d2 F u0) ∧ Hid (w'.ownsRow (gX + 1) 2 1 (.slice A7 m c7) m (ints had)) ∧ Hid (Nds w' w'.heap.size (some ⟨bn, on, none⟩) F) ∧ Below w.heap.size w w')
          case atStart => exact ⟨0, B3, B4, d3, d4, u, by omega, rfl, hup, hgL, t4, x4, row4, n4, b4⟩
          case round =>
            obtain ⟨i3, E1, E2, e1, e2, y, hi3, rfl, hy, hgy, tL, xL, rowL, nL, bL⟩ := hrel
            have hVl : gV < wr.heap.size := tL.out.blk.lt
            by_cases hlt3 : (i3 : Int) < (m : Int)
            · obtain ⟨g, rfl⟩ : ∃ g, gk = g + 1 := ⟨gk - 1, by omega⟩
              obtain ⟨br, orr, hA7, hbr, hcr⟩ := Ris.at (i := i3) (Rd.of_own rowL.out) (by rw [hm.out]; omega)
              subst hA7
              have d0 := hcr i3 (by rw [hm.out]; omega)
              have hXp : 0 ≤ gI had i3 := by
                have hl : i3 < had.length := by rw [hm.out]; omega
                have e : gI had i3 = had[i3] := by simp [gI, hl]
                rw [e]; exact hpos.out _ (List.getElem_mem hl)
              have hS := sum_drop (a := had) (i := i3) (by rw [hm.out]; omega)
              have hS1 := drop_nonneg hpos.out (i3 + 1)
              have hS2 := up_bd hgLr.out hy.out hgy.out
              have hrel := rel_up (l := (limL F K low)) (S := (had.drop i3).sum) hgLr.out hXp (by omega)
              rw [← hy.out] at hrel
              obtain ⟨hr1, hr2⟩ := hrel
              have hy' : Hid (relU (limL F K low) y K (gI had i3) = upF (limL F K low) K (had.drop (i3 + 1)).sum) := by
                show _ = _
                rw [hr2, show (had.drop i3).sum - gI had i3 = (had.drop (i3 + 1)).sum by omega]
              have ha0 : -9223372036854775808 ≤ gI had i3 := by omega
              have ha1 : gI had i3 ≤ 9223372036854775807 := by omega
              have HI3 := Lib.hid hi3
              clear hcr hi3 hS hS1 hS2 hr2 hXp
              generalize gI had i3 = X at *
              go_wp2_with fail
              go_upto_region 31 with fail
              have dS0 : wr.cell? ⟨gV, 0, none⟩ = some (.slice E1 (limL F K low).length e1) := tL.out.c0
              have dS1 : wr.cell? ⟨gV, 1, none⟩ = some (.slice E2 y.length e2) := tL.out.c1
              have hgl : gV < wr.heap.size := tL.out.blk.lt
              go_cut [32, 33] (fun sa sb wx => ∃ (gU : Nat) (B7 B8 : Option Addr) (d7 d8 : Nat), sa = .pointer (some ⟨gU, 0, none⟩) ∧ sb = .bool (relF (limL F K low) y K X) ∧ Hid (StV wx gU 31 B7 B8 (limL F K low).length (relU (limL F K low) y K X).length d7 d8 (limL F K low) (relU (limL F K low) y K X)) ∧ Below wr.heap.size wr wx ∧ wr.heap.size ≤ gU)
              case first =>
                have d0z : (wr.alloc (.cells #[.slice none 0 0, .slice none 0 0] 31)).drew.cell? ⟨br, orr + i3, none⟩ = some (.int .i64 X) := (World.cell?_alloc_lt wr _ ⟨br, orr + i3, none⟩ hbr).trans d0
                have v1 : Hid (StV wr.drew gV 31 E1 E2 (limL F K low).length y.length e1 e2 (limL F K low) y) := stv_drew tL.out
                have v2 : Hid (StV (wr.alloc (.cells #[.slice none 0 0, .slice none 0 0] 31)).drew gV 31 E1 E2 (limL F K low).length y.length e1 e2 (limL F K low) y) := stv_drew (tL.out.alloc _)
                have z2 : Hid (Blk (wr.alloc (.cells #[.slice none 0 0, .slice none 0 0] 31)).drew wr.heap.size 31 #[.slice none 0 0, .slice none 0 0]) := Blk.fresh wr _ _
                have hcb : br < wr.heap.size := hbr
                have cne : br ≠ wr.heap.size := by omega
                go_region_held3 (fun w' => w'.cell? ⟨gV, 0, none⟩ = some (.slice E1 (limL F K low).length e1) ∧ w'.cell? ⟨gV, 1, none⟩ = some (.slice E2 y.length e2) ∧ w'.cell? ⟨br, orr + i3, none⟩ = some (.int .i64 X))
                  (first | go_keep | (exact ⟨x0, x1, x2⟩) | (exact ⟨y0 _ _, y1 _ _, y2 _ _⟩))
                  (first | (go_at_call 21; (with_reducible refine (release_any E1 E2 e1 e2 (limL F K low) y _ _ (wr.drew) (Lib.hid v1.out.nds) (Lib.hid v1.out.ris) hgy.out hKi ha0 ha1).mono ?_); rintro e w5 ⟨B5, d5, B6, d6, rfl, hn5, hu5, hb5⟩; have vv := Lib.hid (v1.out.below hb5); have x0 : w5.cell? ⟨gV, 0, none⟩ = some (.slice E1 (limL F K low).length e1) := vv.out.c0; have x1 : w5.cell? ⟨gV, 1, none⟩ = some (.slice E2 y.length e2) := vv.out.c1; have x2 : w5.cell? ⟨br, orr + i3, none⟩ = some (.int .i64 X) := cell_later hb5 d0) | (go_at_call 21; (with_reducible refine (release_any E1 E2 e1 e2 (limL F K low) y _ _ ((wr.alloc (.cells #[.slice none 0 0, .slice none 0 0] 31)).drew) (Lib.hid v2.out.nds) (Lib.hid v2.out.ris) hgy.out hKi ha0 ha1).mono ?_); rintro e w5 ⟨B5, d5, B6, d6, rfl, hn5, hu5, hb5⟩; have vv := Lib.hid (v2.out.below hb5); have zz := Lib.hid (Blk.below' z2.out hb5); have x0 : w5.cell? ⟨gV, 0, none⟩ = some (.slice E1 (limL F K low).length e1) := vv.out.c0; have x1 : w5.cell? ⟨gV, 1, none⟩ = some (.slice E2 y.length e2) := vv.out.c1; have x2 : w5.cell? ⟨br, orr + i3, none⟩ = some (.int .i64 X) := cell_later hb5 (d0z); have r0 : w5.cell? ⟨wr.heap.size, 0, none⟩ = some (.slice none 0 0) := zz.out.cell 0; have r1 : w5.cell? ⟨wr.heap.size, 1, none⟩ = some (.slice none 0 0) := zz.out.cell 1; have r2 : w5.frozen? ⟨wr.heap.size, 0, none⟩ = false := zz.out.thaw 0; have r3 : w5.frozen? ⟨wr.heap.size, 1, none⟩ = false := zz.out.thaw 1; have y0 : ∀ xa ya, ((w5.setCell ⟨wr.heap.size, 0, none⟩ xa).setCell ⟨wr.heap.size, 1, none⟩ ya).cell? ⟨gV, 0, none⟩ = some (.slice E1 (limL F K low).length e1) := fun xa ya => (blk_far (blk_far vv.out.blk (p := ⟨wr.heap.size, 0, none⟩) (by simp; omega) xa) (p := ⟨wr.heap.size, 1, none⟩) (by simp; omega) ya).cell 0; have y1 : ∀ xa ya, ((w5.setCell ⟨wr.heap.size, 0, none⟩ xa).setCell ⟨wr.heap.size, 1, none⟩ ya).cell? ⟨gV, 1, none⟩ = some (.slice E2 y.length e2) := fun xa ya => (blk_far (blk_far vv.out.blk (p := ⟨wr.heap.size, 0, none⟩) (by simp; omega) xa) (p := ⟨wr.heap.size, 1, none⟩) (by simp; omega) ya).cell 1; have y2 : ∀ xa ya, ((w5.setCell ⟨wr.heap.size, 0, none⟩ xa).setCell ⟨wr.heap.size, 1, none⟩ ya).cell? ⟨br, orr + i3, none⟩ = some (.int .i64 X) := fun xa ya => far2 x2 cne 0))
                have hT : Hid (StV (w5.alloc (.cells #[.slice B5 (limL F K low).length d5, .slice B6 (relU (limL F K low) y K X).length d6] 31)) w5.heap.size 31 B5 B6 (limL F K low).length (relU (limL F K low) y K X).length d5 d6 (limL F K low) (relU (limL F K low) y K X)) := StV.new hn5 hu5
                have hD : Below wr.heap.size wr (w5.alloc (.cells #[.slice B5 (limL F K low).length d5, .slice B6 (relU (limL F K low) y K X).length d6] 31)) := (below_step ((Below.refl wr.heap.size wr).drew) hb5).alloc (below_step ((Below.refl wr.heap.size wr).drew) hb5).size _
                go_wp2_with fail
                go_meet
                exact ⟨w5.heap.size, B5, B6, d5, d6, rfl, (by first | rfl | (rw [hr1])), hT, hD, (below_step ((Below.refl _ _).drew) hb5).size⟩
                have hT : Hid (StV ((w5.setCell ⟨wr.heap.size, 0, none⟩ (.slice B5 (limL F K low).length d5)).setCell ⟨wr.heap.size, 1, none⟩ (.slice B6 (relU (limL F K low) y K X).length d6)) wr.heap.size 31 B5 B6 (limL F K low).length (relU (limL F K low) y K X).length d5 d6 (limL F K low) (relU (limL F K low) y K X)) := stv_store zz.out hn5 hu5
                have hD0 : Below wr.heap.size wr w5 := below_step (((Below.refl wr.heap.size wr).alloc (Nat.le_refl _) (.cells #[.slice none 0 0, .slice none 0 0] 31)).drew) hb5
                have hD : Below wr.heap.size wr ((w5.setCell ⟨wr.heap.size, 0, none⟩ (.slice B5 (limL F K low).length d5)).setCell ⟨wr.heap.size, 1, none⟩ (.slice B6 (relU (limL F K low) y K X).length d6)) := (hD0.setCell (p := ⟨wr.heap.size, 0, none⟩) (Nat.le_refl _) _).setCell (p := ⟨wr.heap.size, 1, none⟩) (Nat.le_refl _) _
                go_wp2_with fail
                go_meet
                exact ⟨wr.heap.size, B5, B6, d5, d6, rfl, (by first | rfl | (rw [hr1])), hT, hD, Nat.le_refl _⟩
              case rest =>
                obtain ⟨gU, B7, B8, d7, d8, rfl, rfl, hU, hE, hgU⟩ := hcut
                rename World => wB
                have tB := Lib.hid (tL.out.below hE)
                have xB := Lib.hid (xL.out.below hE)
                have nB : Hid (Nds wB wB.heap.size (some ⟨bn, on, none⟩) F) := Rd.below' nL.out hE hE.size
                have rowB := own_below rowL hE
                have bB := below_step bL hE
                have hgN : Hid (GoodSt (limL F K low) (relU (limL F K low) y K X)) := good_rel hgy.out K X
                have f0 : wB.cell? ⟨gU, 0, none⟩ = some (.slice B7 (limL F K low).length d7) := hU.out.c0
                have f1 : wB.cell? ⟨gU, 1, none⟩ = some (.slice B8 (relU (limL F K low) y K X).length d8) := hU.out.c1
                have f2 : wB.cell? ⟨gV, 0, none⟩ = some (.slice E1 (limL F K low).length e1) := tB.out.c0
                have f3 : wB.cell? ⟨gV, 1, none⟩ = some (.slice E2 y.length e2) := tB.out.c1
                have f4 : wB.frozen? ⟨gV, 0, none⟩ = false := tB.out.blk.thaw 0
                have f5 : wB.frozen? ⟨gV, 1, none⟩ = false := tB.out.blk.thaw 1
                have t9 := Lib.hid (stv_store (m := (limL F K low).length) (m' := (relU (limL F K low) y K X).length) (d := d7) (d' := d8) tB.out.blk hU.out.nds hU.out.ris)
                have x9 := Lib.hid (stv_far (E := B7) (E' := B8) (q := (limL F K low).length) (q' := (relU (limL F K low) y K X).length) (r := d7) (r' := d8) tB.out.blk xB.out (by omega))
                have n9 := Lib.hid (nds_store tB.out.blk nB.out B7 B8 (limL F K low).length (relU (limL F K low) y K X).length d7 d8)
                have row9 := Lib.hid (own_set2 rowB.out tB.out.blk (by decide) (.slice B7 (limL F K low).length d7) (.slice B8 (relU (limL F K low) y K X).length d8))
                have b9 := (bB.setCell (p := ⟨gV, 0, none⟩) (by show w.heap.size ≤ gV; omega) (.slice B7 (limL F K low).length d7)).setCell (p := ⟨gV, 1, none⟩) (by show w.heap.size ≤ gV; omega) (.slice B8 (relU (limL F K low) y K X).length d8)
                clear hU hE tB xB nB rowB bB
                go_wp2_with fail
                go_roundg g
                case measure => omega
                case rel => exact ⟨i3 + 1, B7, B8, d7, d8, relU (limL F K low) y K X, by have := HI3.out; omega, by go_num, hy', hgN, t9, x9, row9, n9, b9⟩
            · have hyz : Hid (y = u0) := by
                show _ = _
                have e : i3 = had.length := by rw [hm.out]; omega
                rw [hy.out, e, List.drop_length, up_lim]
                exact hz.out.symm
              obtain ⟨hb1, hb2⟩ := lim_back (l := F) (k := K) (low := low) (C := nC F K.toNat) hKr.out hlow0 (by omega) rfl hCa hCb
              have HB1z := Lib.hid hb1
              have HB2z := Lib.hid hb2
              clear hb1 hb2 hi3
              have hcn := nds_cells nL.out K.toNat (by omega)
              have p1 : wr.cell? ⟨bn, on + K.toNat * 2 + 1, none⟩ = some (.int .i64 (nC F K.toNat)) := hcn.2
              clear hcn
              have p2 : wr.cell? ⟨gV, 0, none⟩ = some (.slice E1 (limL F K low).length e1) := tL.out.c0
              have p3 : wr.cell? ⟨gV, 1, none⟩ = some (.slice E2 y.length e2) := tL.out.c1
              have tq : Hid (StV wr.drew gV 31 E1 E2 (limL F K low).length y.length e1 e2 (limL F K low) y) := stv_drew tL.out
              have xq : Hid (StV wr.drew gX 26 B1 B2 F.length u0.length d1 d2 F u0) := stv_drew xL.out
              have bq : Hid (Below w.heap.size w wr.drew) := bL.drew
              go_upto_region 35 with fail
              go_region_with ((go_at_call 23; (with_reducible refine (limit_z E1 E2 e1 e2 (limL F K low) F y K (nC F K.toNat) wr.drew HB1z.out HB2z.out (Lib.hid tq.out.nds) (Lib.hid tq.out.ris) hgy.out hKi (by omega) (by omega)).mono ?_); rintro e w5 ⟨C1, k1, C2, k2, rfl, hn5, hu5, hb5⟩; have t5 := Lib.hid (tq.out.below hb5); have x5 := Lib.hid (xq.out.below hb5); have b5 := Lib.hid (below_step bq.out hb5); have HN5 := Lib.hid hn5; have HU5 := Lib.hid hu5; clear hn5 hu5 hb5; have f2 : w5.cell? ⟨gV, 0, none⟩ = some (.slice E1 (limL F K low).length e1) := t5.out.c0; have f3 : w5.cell? ⟨gV, 1, none⟩ = some (.slice E2 y.length e2) := t5.out.c1; have f4 : w5.frozen? ⟨gV, 0, none⟩ = false := t5.out.blk.thaw 0; have f5 : w5.frozen? ⟨gV, 1, none⟩ = false := t5.out.blk.thaw 1))
              all_goals
                have t6 := Lib.hid (stv_store (m := F.length) (m' := y.length) (d := k1) (d' := k2) t5.out.blk HN5.out HU5.out)
                have x6 := Lib.hid (stv_far (E := C1) (E' := C2) (q := F.length) (q' := y.length) (r := k1) (r' := k2) t5.out.blk x5.out (by omega))
                have b6 := Lib.hid ((b5.out.setCell (p := ⟨gV, 0, none⟩) (by show w.heap.size ≤ gV; omega) (.slice C1 F.length k1)).setCell (p := ⟨gV, 1, none⟩) (by show w.heap.size ≤ gV; omega) (.slice C2 y.length k2))
                clear HN5 HU5 t5 x5 b5 f2 f3 f4 f5 tq xq bq p1 p2 p3
                generalize ((w5.setCell ⟨gV, 0, none⟩ (.slice C1 F.length k1)).setCell ⟨gV, 1, none⟩ (.slice C2 y.length k2)) = w6 at t6 x6 b6 ⊢
                have hye : Hid (y.length = u0.length) := by show _ = _; rw [hyz.out]
                have m1 : (F.length : Int) ≤ 1000000 := by omega
                have m2 : (y.length : Int) ≤ 1000000 := by rw [hye.out, HUL.out]; omega
                have m3 : (u0.length : Int) ≤ 1000000 := by rw [HUL.out]; omega
                have HYZ : Hid (y = u0) := hyz
                have T0 := t6.out.c0
                have T1 := t6.out.c1
                have X0 := x6.out.c0
                have X1 := x6.out.c1
                have KC : Hid (∀ W, Below w6.heap.size w6 W → W.cell? ⟨gV, 0, none⟩ = some (.slice C1 F.length k1) ∧ W.cell? ⟨gV, 1, none⟩ = some (.slice C2 y.length k2) ∧ W.cell? ⟨gX, 0, none⟩ = some (.slice B1 F.length d1) ∧ W.cell? ⟨gX, 1, none⟩ = some (.slice B2 u0.length d2)) := fun W hb => ⟨(t6.out.below hb).c0, (t6.out.below hb).c1, (x6.out.below hb).c0, (x6.out.below hb).c1⟩
                have ET : Hid (∀ W, Below w6.heap.size w6 W → Hid (Nds W W.heap.size C1 F) ∧ Hid (Ris W W.heap.size C2 y)) := fun W hb => ⟨(t6.out.below hb).nds, (t6.out.below hb).ris⟩
                have EX : Hid (∀ W, Below w6.heap.size w6 W → Hid (Nds W W.heap.size B1 F) ∧ Hid (Ris W W.heap.size B2 u0)) := fun W hb => ⟨(x6.out.below hb).nds, (x6.out.below hb).ris⟩
                have dw : Hid (Below w6.heap.size w6 w6.drew) := (Below.refl _ _).drew
                go_wp2_with fail
                go_region_held3 (fun w' => w'.cell? ⟨gV, 0, none⟩ = some (.slice C1 F.length k1) ∧ w'.cell? ⟨gV, 1, none⟩ = some (.slice C2 y.length k2) ∧ w'.cell? ⟨gX, 0, none⟩ = some (.slice B1 F.length d1) ∧ w'.cell? ⟨gX, 1, none⟩ = some (.slice B2 u0.length d2))
                  (first | (exact KC.out _ (Hid.out (by assumption))) | go_keep)
                  (first
                    | (go_at_call 18; (with_reducible refine (from_any C1 C2 k1 k2 F y _ (ET.out _ dw.out).1 (ET.out _ dw.out).2 m1 m2).mono ?_); rintro e y1 ⟨P1, z1, P2, z2, rfl, hn1, hu1, hb1⟩; have D1 := Lib.hid (below_step dw.out hb1); have HN1 := Lib.hid hn1; have HU1 := Lib.hid hu1; clear hn1 hu1)
                    | (go_at_call 17; (with_reducible refine (same_n P1 P2 B1 B2 z1 z2 d1 d2 F u0 y _ HYZ.out HN1 HU1 (EX.out _ D1.out).1 (EX.out _ D1.out).2 m1 m3).mono ?_); rintro e y2 ⟨rfl, hb2⟩; have D2 := Lib.hid (below_step D1.out hb2)))
                have bF : Hid (Below w.heap.size w y2) := below_step b6.out D2.out
                clear KC ET EX D1 D2 HN1 HU1 hb1 hb2
                go_wp2_with fail
                go_ret
                exact madeB_mk rfl bF.out

theorem open_i64 {H : Type} {enc : TypeId × Value → H} {P : Program} {w : World} {t e : TypeId} {r : Reach} {b0 : Nat} {v : Value} {d : DataW H} {ps : List MemPlace} {base : Nat} {held : Bool} (ht : P.underlying t = some (.slice e)) (he : P.underlying e = some (.int .i64)) (hc : P.cellsOf e = 1)
    (hval : Value.okWide P w r b0 t v) (h : DataW.Trod enc P w base (fun _ => true) held t v d ps) : ∃ A c u, v = .slice A u.length c ∧ u.length ≤ c ∧ c ≤ maxLen ∧ Ris w w.heap.size A u ∧ WfI u := by
  obtain ⟨A, len, cap, rfl⟩ := okWide_slice ht hval
  obtain ⟨fuel, hf⟩ := h
  exact open_i64c ht he hc (by simpa [Value.cells] using hf)


set_option maxRecDepth 100000 in
theorem lifted (os : Os) (started : os.Started) (H : Type) (enc : TypeId × Value → H) :
    ReturnsInHanded {} Try.checked os 4 .any (Rows.creditBackSpec.pre6 enc Try.prog Try.f4 Rows.creditBackRow.domain false) (Rows.creditBackSpec.post enc Try.prog Try.f4 false true false false) := by
  refine returnsInHanded_of_change (C := Try.checked) own started (by kernel_rfl) Try.func4
    (ChangeSpec.witness6 (enc := enc) (C := Try.checked) false ⟨#[], #[.slice none 0 0, .agg #[.int .i64 0, .int .i64 0], .slice none 0 0], []⟩ 8 (by kernel_rfl) (by kernel_rfl) (by kernel_rfl) (by kernel_rfl)) ?_
  intro W base args ds gs before hval0 hW hcnd _
  have hval : ∀ (j : Nat) t v, Try.f4.params[j]? = some t → args[j]? = some v → Value.okWide Try.prog W .any base t v := hval0
  have hW' := hW
  obtain ⟨p, q, hA0, hV, rfl, hfz, hnd⟩ := hW
  have hA : DataW.TrodAll enc Try.prog W 0 (fun _ => true) true Try.f4.params.toList args.toList ds p := hA0
  rw [Try.params4] at hA hval
  obtain ⟨v0, v1, v2, d0, d1, d2, p0, p1, p2, rfl, rfl, rfl, h0, h1, h2⟩ := trodAll_three hA
  obtain ⟨A, c, l, rfl, hlc, hcm, hl, hw⟩ := open_nodes Try.underlying22 Try.underlying57 (by kernel_rfl) rfl rfl (by kernel_rfl) (by kernel_rfl) Try.underlying3 Try.underlying2 (hval 0 _ v0 rfl rfl) h0
  obtain ⟨lf, cp, rfl, hlf, hcp⟩ := open_two Try.underlying55 (by kernel_rfl) (by kernel_rfl) Try.underlying2 (hval 1 _ v1 rfl rfl) h1
  obtain ⟨A2, c2, am, rfl, hac, ham, ha, hwa⟩ := open_i64 Try.underlying24 Try.underlying2 (by kernel_rfl) (hval 2 _ v2 rfl rfl) h2
  refine (inner A A2 c c2 l lf cp am W hl hw ha hwa (by unfold maxLen at hcm; omega) (by unfold maxLen at ham; omega) hlf hcp).mono fun e W' ⟨he, hb⟩ => ?_
  subst he
  exact ⟨_, rfl, law_post hW' rfl rfl rfl rfl (by kernel_rfl) Try.underlying4 (by rw [Try.params4]; simp only [List.mem_cons, List.not_mem_nil, or_false, forall_eq_or_imp, forall_eq]; exact ⟨⟨by kernel_rfl, of_decide_eq_true (by kernel_rfl)⟩, ⟨by kernel_rfl, of_decide_eq_true (by kernel_rfl)⟩, ⟨by kernel_rfl, of_decide_eq_true (by kernel_rfl)⟩⟩) laidOut hb⟩

theorem over : Rows.creditBackRow.holds Try.pinned (OpenSpec.ofChange Rows.creditBackSpec) :=
  OpenClaim.holds_of_wide 4 Try.f4 rfl rfl rfl rfl rfl rfl rfl ⟨rfl, rfl, rfl, rfl, rfl⟩ rfl rfl rfl rfl rfl (by kernel_rfl) Try.func4 (by kernel_rfl)
    (of_decide_eq_true (by kernel_rfl)) (by unfold Func.isWrapper; first | (rw [if_pos (by decide +kernel)]; kernel_rfl) | (rw [if_neg (by decide +kernel)]; exact ⟨rfl, rfl⟩))
    (fun os started H enc _ => lifted os started H enc)

theorem proved : Rows.CreditBackSaid := over
#print axioms proved
end Go.Proofs.Ytlipkggcakgcnaa.creditBack
