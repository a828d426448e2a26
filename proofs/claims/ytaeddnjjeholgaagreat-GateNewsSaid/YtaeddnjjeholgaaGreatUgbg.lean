/- Texts side by side. -/
import Derived.Test.YtaeddnjjeholgaaGreatUgbf
set_option linter.unusedVariables false
set_option linter.unusedSimpArgs false
set_option maxRecDepth 100000
set_option maxHeartbeats 16000000
namespace Go.Proofs.YtaeddnjjeholgaaGreat
open Kap Go.ChangeShapes Go.WideShapes Go.ChangeAt Go.RowKit Go.Lib Mem Cel Bkp Bks Wpl Hpa Gpl Mdp Cfg Gow Gac Gat Gup Gth Gmz
namespace Gx5
open Lat Lax Gex Gma Gsn Gsm Glp Gx1 Gx3 Gx4
def MadeI (base : Nat) (C : Nat → Prop) (ρ : Nat → Nat) (g0 g : Nat) (gp : Option Nat) (w : World) (v : Value) (G' : Gp) (a' : Ap) (e : Ending) (w' : World) : Prop := e = .returned v ∧ ∃ ρ' q' r', Fs C ρ w ρ' w' ∧ Gt base ρ' w' g0 q' G' ∧ Ac ρ' w' g0 g r' a' ∧ r'.gp = gp
def ord2A (G : Gp) (a : Ap) (c : Int × Int × Gp × Pu) (s : Int) : Gp × Ap :=
  if c.1 = 0 then (c.2.2.1, thenA { a with c := c.1, d := c.2.1, pu := c.2.2.2 } (putU c.2.2.2 ++ frees G c.2.2.2.path ++ sendL 0 c.2.1 ++ [.one (.free (shL s))]))
  else (c.2.2.1, thenA { a with c := c.1, d := c.2.1, pu := c.2.2.2 } (frees G c.2.2.2.path ++ [.one (.free (shL s))]))
theorem come_keep (G : Gp) (pu : Pu) (o : Od) (x s ep : Int) (off : Bool) : (comeF G pu o x s ep off).2.2.1.sh = G.sh ∧ (comeF G pu o x s ep off).2.2.2.path = pu.path ∧ (comeF G pu o x s ep off).2.2.2.cu.length = pu.cu.length ∧ ((comeF G pu o x s ep off).1 = 0 → (comeF G pu o x s ep off).2.2.2.fr = false) := by
  unfold comeF
  split
  · exact ⟨rfl, rfl, rfl, fun h => by cases h⟩
  · split
    · rename_i h; exact ⟨rfl, rfl, rfl, fun h' => absurd h' h⟩
    · split
      · rename_i h; exact ⟨rfl, rfl, rfl, fun h' => absurd h' h⟩
      · exact ⟨rfl, rfl, resU_len _ _ _ _, fun _ => rfl⟩
theorem dec_ord2 (G : Gp) (a : Ap) (v : Int) (o : Od) (x s : Int) : decF G a v (.ord2 o x s) = ord2A G a (comeF G a.pu o x s (epW v) (offW v)) s := by
  unfold decF ord2A comeF
  by_cases h1 : offW v = true
  · simp [h1]
  · simp only [h1, if_false]
    by_cases h2 : lookF G.ra G.ta (gB G.bs s.toNat) o = 0
    · by_cases h3 : (Cpl.resF a.pu.cl a.pu.cu a.pu.leaf x).1 = 0
      · simp [h2, h3, putU, List.append_assoc]
      · simp [h2, h3]
    · simp [h2]
theorem ord2A_f {G G1 : Gp} {a : Ap} {cc cd s : Int} {pu1 : Pu} (h : ¬ cc = 0) : ord2A G a (cc, cd, G1, pu1) s = (G1, thenA { a with c := cc, d := cd, pu := pu1 } (frees G pu1.path ++ [.one (.free (shL s))])) := if_neg h
theorem ord2A_t {G G1 : Gp} {a : Ap} {cc cd s : Int} {pu1 : Pu} (h : cc = 0) : ord2A G a (cc, cd, G1, pu1) s = (G1, thenA { a with c := cc, d := cd, pu := pu1 } (putU pu1 ++ (frees G pu1.path ++ (sendL 0 cd ++ [.one (.free (shL s))])))) := (if_pos h).trans (by simp [List.append_assoc])
theorem order2_any (base : Nat) (ρ : Nat → Nat) (q : Gq) (r : Aq) (g0 g gp i sn wn b1 b2 b3 b4 b5 b6 : Nat) (os : Int) (ox : Bool) (op oq on ot x' ep : Int) (off : Bool) (G : Gp) (a : Ap) (w : World) (HG : Hid (Gt base ρ w g0 q G)) (ha : Hid (Ac ρ w g0 g r a)) (hgp : r.gp = some gp) (hsn : shaF G.sh G.ac.length (i : Int) = sn) (hsb : sn < G.bs.length) (hbl : G.bs.length ≤ 1000) (HFEW : Hid (FewB (gB G.bs sn))) (hwi : G.wi = wn) (hwn : wn ≤ 1000) (HGS : Hid (Res.GoodSt a.pu.cl a.pu.cu)) (hGL1 : Hid (nds a.pu.cl ≠ [])) (hGL2 : Hid (ints (Cpl.resU a.pu.cl a.pu.cu a.pu.leaf x') ≠ [])) (hle : inI a.pu.leaf) (hx : inI x') (s0 : 1 ≤ G.sh) (s1 : G.sh ≤ 1000) (hal : G.ac.length ≤ 1000) (HPI : Hid (∀ k, k < a.pu.path.length → 0 ≤ gI a.pu.path k ∧ gI a.pu.path k ≤ 400)) (HPC : Hid (∀ k, k < a.pu.path.length → 0 ≤ gI a.pu.path k ∧ gI a.pu.path k < a.pu.cu.length)) (hcu : a.pu.cu.length ≤ 400) (hpl : a.pu.path.length ≤ 3) (hmax : a.todo.length ≤ 1000)
    (kg : B1 ρ w b1 36 #[pv g0]) (ko : B1 ρ w b2 51 #[.int .i64 (i : Int), .int .i64 os, .bool ox, .int .i64 op, .int .i64 oq, .int .i64 on, .int .i64 ot]) (kx : B1 ρ w b3 2 #[.int .i64 x']) (kp : B1 ρ w b4 184 #[pv gp]) (ka : B1 ρ w b5 46 #[pv g]) (ks : B1 ρ w b6 3 #[.int .i64 (sn : Int)]) :
    Calls Tryz.prog 113 #[.agg #[.int .i64 ep, .bool off], pv b1, pv b2, pv b3, pv b4, pv b5, pv b6] w (MadeI base (fun c => c = 3 ∨ c = g + 8) ρ g0 g r.gp w (.tuple #[]) (ord2A G a (comeF G a.pu ⟨(i : Int), os, ox, op, oq, on, ot⟩ x' sn ep off) sn).1 (ord2A G a (comeF G a.pu ⟨(i : Int), os, ox, op, oq, on, ot⟩ x' sn ep off) sn).2) := by
  have hmf := Gmk.make_f
  have Kg : Hid (B1 ρ w b1 36 #[pv g0]) := κ kg
  have Ko : Hid (B1 ρ w b2 51 #[.int .i64 (i : Int), .int .i64 os, .bool ox, .int .i64 op, .int .i64 oq, .int .i64 on, .int .i64 ot]) := κ ko
  have Kx : Hid (B1 ρ w b3 2 #[.int .i64 x']) := κ kx
  have Kp : Hid (B1 ρ w b4 184 #[pv gp]) := κ kp
  have Ka : Hid (B1 ρ w b5 46 #[pv g]) := κ ka
  have Ks : Hid (B1 ρ w b6 3 #[.int .i64 (sn : Int)]) := κ ks
  clear kg ko kx kp ka ks
  obtain ⟨C, hC⟩ : ∃ y, y = comeF G a.pu ⟨(i : Int), os, ox, op, oq, on, ot⟩ x' sn ep off := ⟨_, rfl⟩
  have HC := κ hC
  have COME := fun (ρ : Nat → Nat) (W : World) (HG : Hid (Gt base ρ W g0 q G)) (ha : Hid (Ac ρ W g0 g r a)) => come_any base ρ q r g0 g gp i sn wn os ox op oq on ot x' ep off G a W HG ha hgp hsn hsb hbl HFEW hwi hwn HGS hGL1 hGL2 hle hx s0 s1 hal
  rw [← hC] at COME ⊢
  have COME := κ COME
  have hck := come_keep G a.pu ⟨(i : Int), os, ox, op, oq, on, ot⟩ x' sn ep off
  rw [← hC] at hck
  have HCK := κ hck
  have HGP := κ hgp
  clear hC hck hgp hwi hsn
  obtain ⟨cc, cd, G1, pu1⟩ := C
  go_enter Tryz.func113, Tryz.ntmps113
  have z101 := HG.out.new
  have z102 := new_alloc (o := .cells #[.int .i64 ep, .bool off] 178) z101
  have b103 : Below w.heap.size w (((w).alloc (.cells #[.int .i64 ep, .bool off] 178)).drew) := (β (w) (.cells #[.int .i64 ep, .bool off] 178)).drew
  have K104 : Hid (B1 ρ (((w).alloc (.cells #[.int .i64 ep, .bool off] 178)).drew) (w.heap.size) 178 #[.int .i64 ep, .bool off]) := κ (B1.ext (B1.mk (b := w.heap.size) (te := 178) (cs := #[.int .i64 ep, .bool off]) z101 (by simp)) (Below.refl _ _).drew)
  have H105 := κ (Gt.ext HG.out b103)
  have H106 := κ (Ac.ext ha.out b103)
  have H107 := κ (B1.ext Kg.out b103)
  have H108 := κ (B1.ext Ko.out b103)
  have H109 := κ (B1.ext Kx.out b103)
  have H110 := κ (B1.ext Kp.out b103)
  have H111 := κ (B1.ext Ka.out b103)
  have H112 := κ (B1.ext Ks.out b103)
  go_upto_region 1 with fail
  obtain ⟨g113, e114⟩ : ∃ x, x = w.heap.size := ⟨_, rfl⟩
  simp only [← e114] at K104 ⊢
  clear e114
  have F115 : Hid (Fs (· = g + 8) ρ w ρ (((w).alloc (.cells #[.int .i64 ep, .bool off] 178)).drew)) := κ (Fs.quiet b103)
  have FW : Hid (Fs (fun c => c = 3 ∨ c = g + 8) ρ w ρ (((w).alloc (.cells #[.int .i64 ep, .bool off] 178)).drew)) := κ (Fs.quiet b103)
  let T116 : World → Prop := fun w' => w'.cell? ⟨b5, 0, none⟩ = some (.pointer (some ⟨g, 0, none⟩)) ∧ w'.cell? ⟨b1, 0, none⟩ = some (.pointer (some ⟨g0, 0, none⟩)) ∧ w'.cell? ⟨b2, 0, none⟩ = some (.int .i64 (i : Int)) ∧ w'.cell? ⟨b2, 1, none⟩ = some (.int .i64 os) ∧ w'.cell? ⟨b2, 2, none⟩ = some (.bool ox) ∧ w'.cell? ⟨b2, 3, none⟩ = some (.int .i64 op) ∧ w'.cell? ⟨b2, 4, none⟩ = some (.int .i64 oq) ∧ w'.cell? ⟨b2, 5, none⟩ = some (.int .i64 on) ∧ w'.cell? ⟨b2, 6, none⟩ = some (.int .i64 ot) ∧ w'.cell? ⟨b3, 0, none⟩ = some (.int .i64 x') ∧ w'.cell? ⟨b4, 0, none⟩ = some (.pointer (some ⟨gp, 0, none⟩)) ∧ w'.cell? ⟨g113, 0, none⟩ = some (.int .i64 ep) ∧ w'.cell? ⟨g113, 1, none⟩ = some (.bool off)
  have P117 : Hid (T116 ((w).alloc (.cells #[.int .i64 ep, .bool off] 178)).drew) := κ ⟨(H111.out.1.cell 0), (H107.out.1.cell 0), (H108.out.1.cell 0), (H108.out.1.cell 1), (H108.out.1.cell 2), (H108.out.1.cell 3), (H108.out.1.cell 4), (H108.out.1.cell 5), (H108.out.1.cell 6), (H109.out.1.cell 0), (H110.out.1.cell 0), (K104.out.1.cell 0), (K104.out.1.cell 1)⟩
  refine Ω T116 [9] ?_
  generalize ((w).alloc (.cells #[.int .i64 ep, .bool off] 178)).drew = wd at H105 H106 H107 H108 H109 H110 H111 H112 K104 FW P117 ⊢
  refine jB 0 P117.out ?_
  refine jB 1 P117.out ?_
  refine jB 2 P117.out ?_
  refine jB 3 P117.out ?_
  refine jB 4 P117.out ?_
  refine jB 5 P117.out ?_
  refine jN 6 fun K' hK => ?_
  go_simp
  refine (COME.out ρ wd H105 H106).mono ?_
  rintro e w2 ⟨rfl, ρ1, q1, r1, f1, G2, A2, p2⟩
  have H118 := κ (B1.fs H107.out f1 (by omega))
  have H119 := κ (B1.fs H108.out f1 (by omega))
  have H120 := κ (B1.fs H109.out f1 (by omega))
  have H121 := κ (B1.fs H110.out f1 (by omega))
  have H122 := κ (B1.fs H111.out f1 (by omega))
  have H123 := κ (B1.fs H112.out f1 (by omega))
  have H124 := κ (B1.fs K104.out f1 (by omega))
  have F2 := κ (Fs.trans FW.out f1)
  have G2 := κ G2
  have A2 := κ A2
  have p2 := κ p2
  clear f1
  have HS := κ (Ac.set A2.out 4 (.int .i64 cc) { a with pu := pu1, c := cc } rfl rfl rfl)
  have HS2 := κ (Ac.set HS.out.1 5 (.int .i64 cd) { a with pu := pu1, c := cc, d := cd } rfl rfl rfl)
  have y0 := Ac.c4 A2.out
  have y1 := Ac.z A2.out 4
  have y2 := Ac.c5 HS.out.1
  have y3 := Ac.z HS.out.1 5
  dsimp only at y0 y2
  have P125 : Hid (T116 w2) := κ ⟨(H122.out.1.cell 0), (H118.out.1.cell 0), (H119.out.1.cell 0), (H119.out.1.cell 1), (H119.out.1.cell 2), (H119.out.1.cell 3), (H119.out.1.cell 4), (H119.out.1.cell 5), (H119.out.1.cell 6), (H120.out.1.cell 0), (H121.out.1.cell 0), (H124.out.1.cell 0), (H124.out.1.cell 1)⟩
  refine hK.out _ _ P125.out ?_
  clear hK K'
  refine jP ?_
  refine jA 7 P125.out ?_
  refine jA 8 P125.out ?_
  refine jV 9 fun K' hK => ?_
  go_simp
  refine hK.out _ _ ?_
  clear hK K'
  refine jP ?_
  refine Δ ?_
  go_upto_region 2 with fail
  have f3 := HS.out.2.trans HS2.out.2
  have G3 := κ (Gt.fs G2.out f3 (fun k hk => G2.out.new k (by simpa [World.setCell] using hk)) (fun i hi => by omega))
  have A3 := κ HS2.out.1
  have H126 := κ (B1.fs H118.out f3 (by omega))
  have H127 := κ (B1.fs H119.out f3 (by omega))
  have H128 := κ (B1.fs H120.out f3 (by omega))
  have H129 := κ (B1.fs H121.out f3 (by omega))
  have H130 := κ (B1.fs H122.out f3 (by omega))
  have H131 := κ (B1.fs H123.out f3 (by omega))
  have H132 := κ (B1.fs H124.out f3 (by omega))
  have F3 := κ (Fs.trans F2.out (f3.mono (D := fun c => c = 3 ∨ c = g + 8) fun _ h => .inr h))
  clear HS HS2 y0 y1 y2 y3 f3
  generalize ((w2.setCell ⟨g, 4, none⟩ (.int .i64 cc)).setCell ⟨g, 5, none⟩ (.int .i64 cd)) = w3 at G3 A3 H126 H127 H128 H129 H130 H131 H132 F3 ⊢
  have GPN := κ (p2.out.trans HGP.out)
  have sh1 : G1.sh = G.sh := HCK.out.1
  have pa1 : pu1.path = a.pu.path := HCK.out.2.1
  have cu1 : pu1.cu.length = a.pu.cu.length := HCK.out.2.2.1
  have SH1 := κ sh1
  have PA1 := κ pa1
  have CU1 := κ cu1
  clear sh1 pa1 cu1
  by_cases hc0 : cc = 0
  case neg =>
    have t0 : (cc == 0) = false := by simpa using hc0
    have z4 := Ac.c4 A3.out
    dsimp only at z4
    have y133 := H130.out.1.cell 0
    simp at y133
    have y134 := H129.out.1.cell 0
    simp at y134
    go_wp2_with fail
    refine (freeNodes_any base ρ1 q1 r1 g0 g gp G1 ({ a with pu := pu1, c := cc, d := cd } : Ap) w3 G3 A3 GPN.out (κ (by show ∀ k, k < pu1.path.length → 0 ≤ gI pu1.path k ∧ gI pu1.path k ≤ 400; rw [PA1.out]; exact HPI.out)) (by show pu1.path.length ≤ _; rw [PA1.out]; omega) (by simp only [thenA, sendL, putU, List.length_append, List.length_map, List.length_cons, List.length_nil, PA1.out]; omega) (by rw [SH1.out]; omega) (by rw [SH1.out]; omega)).mono ?_
    rintro e w135 ⟨rfl, ρ136, r137, f138, H139, H140, p141⟩
    have H142 := κ (B1.fs H126.out f138 (by omega))
    have H143 := κ (B1.fs H127.out f138 (by omega))
    have H144 := κ (B1.fs H128.out f138 (by omega))
    have H145 := κ (B1.fs H129.out f138 (by omega))
    have H146 := κ (B1.fs H130.out f138 (by omega))
    have H147 := κ (B1.fs H131.out f138 (by omega))
    have H148 := κ (B1.fs H132.out f138 (by omega))
    have H139 := κ H139
    have H140 := κ H140
    have p141 := κ p141
    have F149 := κ (Fs.trans F3.out (f138.mono (D := fun c => c = 3 ∨ c = g + 8) (fun _ h => .inr h)))
    clear f138
    have gp150 := κ (p141.out.trans GPN.out)
    clear y133 y134
    clear z4
    have z4 := Ac.c4 H140.out
    dsimp only [thenA] at z4
    have y151 := H146.out.1.cell 0
    simp at y151
    go_upto_region 7 with fail
    clear z4 y151
    have b152 : Below w135.heap.size w135 w135.drew := (Below.refl _ _).drew
    have H153 := κ (Gt.ext H139.out b152)
    have H154 := κ (Ac.ext H140.out b152)
    have H155 := κ (B1.ext H142.out b152)
    have H156 := κ (B1.ext H143.out b152)
    have H157 := κ (B1.ext H144.out b152)
    have H158 := κ (B1.ext H145.out b152)
    have H159 := κ (B1.ext H146.out b152)
    have H160 := κ (B1.ext H147.out b152)
    have H161 := κ (B1.ext H148.out b152)
    have F162 := κ (F149.out.trans (Fs.quiet b152))
    let T163 : World → Prop := fun w' => w'.cell? ⟨b5, 0, none⟩ = some (.pointer (some ⟨g, 0, none⟩)) ∧ w'.cell? ⟨b6, 0, none⟩ = some (.int .i64 (sn : Int))
    have P164 : Hid (T163 w135.drew) := κ ⟨(H159.out.1.cell 0), (H160.out.1.cell 0)⟩
    refine Ω T163 [] ?_
    generalize w135.drew = wd165 at H153 H154 H155 H156 H157 H158 H159 H160 H161 F162 P164 ⊢
    refine jB 0 P164.out ?_
    refine jB 1 P164.out ?_
    refine jB 2 P164.out ?_
    refine jN 3 fun K' hK => ?_
    go_simp
    refine (shardLatch_any (sn : Int) wd165 (by omega) (by omega)).mono ?_
    rintro e w9 ⟨rfl, rfl⟩
    refine hK.out _ _ P164.out ?_
    clear hK K'
    refine jP ?_
    refine jN 4 fun K' hK => ?_
    go_simp
    refine (free_acc g0 r137.gp H153.out.new (2 + (sn : Int))).mono ?_
    rintro e w168 ⟨k166, cap167, rfl, i169, b170⟩
    have H171 := κ (Gt.ext H153.out b170)
    have H172 := κ (Ac.ext H154.out b170)
    have H173 := κ (B1.ext H155.out b170)
    have H174 := κ (B1.ext H156.out b170)
    have H175 := κ (B1.ext H157.out b170)
    have H176 := κ (B1.ext H158.out b170)
    have H177 := κ (B1.ext H159.out b170)
    have H178 := κ (B1.ext H160.out b170)
    have H179 := κ (B1.ext H161.out b170)
    have i169 := κ i169
    have F180 := κ (F162.out.trans (Fs.quiet b170))
    have P181 : Hid (T163 w168) := κ ⟨(H177.out.1.cell 0), (H178.out.1.cell 0)⟩
    refine hK.out _ _ P181.out ?_
    clear hK K'
    refine jP ?_
    refine jN 5 fun K' hK => ?_
    go_simp
    have b183 := β (w168) (.cells #[(.func (.func k166) #[] cap167)] 126)
    have K184 := κ (Blk.fresh (w168) 126 #[(.func (.func k166) #[] cap167)])
    have H187 := κ (Gt.ext H171.out b183)
    have H188 := κ (Ac.ext H172.out b183)
    have H189 := κ (B1.ext H173.out b183)
    have H190 := κ (B1.ext H174.out b183)
    have H191 := κ (B1.ext H175.out b183)
    have H192 := κ (B1.ext H176.out b183)
    have H193 := κ (B1.ext H177.out b183)
    have H194 := κ (B1.ext H178.out b183)
    have H195 := κ (B1.ext H179.out b183)
    have L196 : Hid (Are (IsAcc ρ136 ((w168).alloc (.cells #[(.func (.func k166) #[] cap167)] 126)) g0 g r137.gp) [.one (.free (shL (sn : Int)))] [(.func (.func k166) #[] cap167)]) := κ (.cons (IsAcc.ext i169.out b183) (.nil))
    obtain ⟨g185, e186⟩ : ∃ x, x = w168.heap.size := ⟨_, rfl⟩
    simp only [← e186] at K184 ⊢
    clear e186
    have F197 := κ (F180.out.trans (Fs.quiet b183))
    generalize (w168).alloc (.cells #[(.func (.func k166) #[] cap167)] 126) = w182 at H187 H188 H189 H190 H191 H192 H193 H194 H195 L196 K184 F197 ⊢
    have P198 : Hid (T163 w182) := κ ⟨(H193.out.1.cell 0), (H194.out.1.cell 0)⟩
    refine hK.out _ _ P198.out ?_
    clear hK K'
    refine jP ?_
    refine jN 6 fun K' hK => ?_
    go_simp
    refine (then_any base ρ136 q1 r137 g0 g g185 1 G1 (thenA ({ a with pu := pu1, c := cc, d := cd } : Ap) (pu1.path.map fun n => .one (.free (ndL G1 n)))) _ _ w182 H187 H188 K184 L196 (κ rfl) (by decide) (by simp only [thenA, sendL, putU, List.length_append, List.length_map, List.length_cons, List.length_nil, PA1.out]; omega)).mono ?_
    rintro e w201 ⟨rfl, ρ199, r200, f202, H203, H204, p205⟩
    have H206 := κ (B1.fs H189.out f202 (by omega))
    have H207 := κ (B1.fs H190.out f202 (by omega))
    have H208 := κ (B1.fs H191.out f202 (by omega))
    have H209 := κ (B1.fs H192.out f202 (by omega))
    have H210 := κ (B1.fs H193.out f202 (by omega))
    have H211 := κ (B1.fs H194.out f202 (by omega))
    have H212 := κ (B1.fs H195.out f202 (by omega))
    have H203 := κ H203
    have H204 := κ H204
    have p205 := κ p205
    have F213 := κ (Fs.trans F197.out (f202.mono (D := fun c => c = 3 ∨ c = g + 8) (fun _ h => .inr h)))
    have P214 : Hid (T163 w201) := κ ⟨(H210.out.1.cell 0), (H211.out.1.cell 0)⟩
    refine hK.out _ _ P214.out ?_
    clear hK K'
    refine jP ?_
    refine Δ ?_
    go_wp2_with fail
    exact bodyPost_ret (v := .tuple #[]) (by simp [results, Tryz.results113, go_sem]) rfl (by rw [ord2A_f hc0]; exact ⟨rfl, ρ199, q1, r200, F213.out, H203.out, (by have h9 := H204.out; rw [thenA_app] at h9; have e9 : (fun n : Int => Acc.one (.free (ndL G1 n))) = fun n => .one (.free (ndL G n)) := (by funext n; unfold ndL; rw [SH1.out]); rw [e9] at h9; exact h9), p205.out.trans (p141.out.trans p2.out)⟩)
  case pos =>
    have t0 : (cc == 0) = true := by simpa using hc0
    have z4 := Ac.c4 A3.out
    dsimp only at z4
    have FR1 := κ (HCK.out.2.2.2 hc0)
    have y215 := H130.out.1.cell 0
    simp at y215
    have y216 := H129.out.1.cell 0
    simp at y216
    go_wp2_with fail
    refine (putUsed_any base ρ1 q1 r1 g0 g gp G1 ({ a with pu := pu1, c := cc, d := cd } : Ap) w3 G3 A3 GPN.out FR1.out (κ (by show ∀ k, k < pu1.path.length → 0 ≤ gI pu1.path k ∧ gI pu1.path k < pu1.cu.length; rw [PA1.out, CU1.out]; exact HPC.out)) (by show pu1.cu.length ≤ _; rw [CU1.out]; omega) (by show pu1.path.length ≤ _; rw [PA1.out]; omega) (by simp only [thenA, sendL, putU, List.length_append, List.length_map, List.length_cons, List.length_nil, PA1.out]; omega)).mono ?_
    rintro e w217 ⟨rfl, ρ218, r219, f220, H221, H222, p223⟩
    have H224 := κ (B1.fs H126.out f220 (by omega))
    have H225 := κ (B1.fs H127.out f220 (by omega))
    have H226 := κ (B1.fs H128.out f220 (by omega))
    have H227 := κ (B1.fs H129.out f220 (by omega))
    have H228 := κ (B1.fs H130.out f220 (by omega))
    have H229 := κ (B1.fs H131.out f220 (by omega))
    have H230 := κ (B1.fs H132.out f220 (by omega))
    have H221 := κ H221
    have H222 := κ H222
    have p223 := κ p223
    have F231 := κ (Fs.trans F3.out (f220.mono (D := fun c => c = 3 ∨ c = g + 8) (fun _ h => .inr h)))
    clear f220
    have gp232 := κ (p223.out.trans GPN.out)
    clear z4 y215 y216
    have y233 := H228.out.1.cell 0
    simp at y233
    have y234 := H227.out.1.cell 0
    simp at y234
    go_wp2_with fail
    refine (freeNodes_any base ρ218 q1 r219 g0 g gp G1 (thenA ({ a with pu := pu1, c := cc, d := cd } : Ap) (putU pu1)) w217 H221 H222 gp232.out (κ (by show ∀ k, k < pu1.path.length → 0 ≤ gI pu1.path k ∧ gI pu1.path k ≤ 400; rw [PA1.out]; exact HPI.out)) (by show pu1.path.length ≤ _; rw [PA1.out]; omega) (by simp only [thenA, sendL, putU, List.length_append, List.length_map, List.length_cons, List.length_nil, PA1.out]; omega) (by rw [SH1.out]; omega) (by rw [SH1.out]; omega)).mono ?_
    rintro e w235 ⟨rfl, ρ236, r237, f238, H239, H240, p241⟩
    have H242 := κ (B1.fs H224.out f238 (by omega))
    have H243 := κ (B1.fs H225.out f238 (by omega))
    have H244 := κ (B1.fs H226.out f238 (by omega))
    have H245 := κ (B1.fs H227.out f238 (by omega))
    have H246 := κ (B1.fs H228.out f238 (by omega))
    have H247 := κ (B1.fs H229.out f238 (by omega))
    have H248 := κ (B1.fs H230.out f238 (by omega))
    have H239 := κ H239
    have H240 := κ H240
    have p241 := κ p241
    have F249 := κ (Fs.trans F231.out (f238.mono (D := fun c => c = 3 ∨ c = g + 8) (fun _ h => .inr h)))
    clear f238
    have gp250 := κ (p241.out.trans gp232.out)
    clear y233 y234
    have z4 := Ac.c4 H240.out
    dsimp only [thenA] at z4
    have y251 := H246.out.1.cell 0
    simp at y251
    go_upto_region 6 with fail
    clear z4 y251
    have b252 : Below w235.heap.size w235 w235.drew := (Below.refl _ _).drew
    have H253 := κ (Gt.ext H239.out b252)
    have H254 := κ (Ac.ext H240.out b252)
    have H255 := κ (B1.ext H242.out b252)
    have H256 := κ (B1.ext H243.out b252)
    have H257 := κ (B1.ext H244.out b252)
    have H258 := κ (B1.ext H245.out b252)
    have H259 := κ (B1.ext H246.out b252)
    have H260 := κ (B1.ext H247.out b252)
    have H261 := κ (B1.ext H248.out b252)
    have F262 := κ (F249.out.trans (Fs.quiet b252))
    let T263 : World → Prop := fun w' => w'.cell? ⟨b5, 0, none⟩ = some (.pointer (some ⟨g, 0, none⟩)) ∧ w'.cell? ⟨g, 5, none⟩ = some (.int .i64 cd)
    have P264 : Hid (T263 w235.drew) := κ ⟨(H259.out.1.cell 0), (Ac.c5 H254.out :)⟩
    refine Ω T263 [] ?_
    generalize w235.drew = wd265 at H253 H254 H255 H256 H257 H258 H259 H260 H261 F262 P264 ⊢
    refine jB 0 P264.out ?_
    refine jB 1 P264.out ?_
    refine jA 2 P264.out ?_
    refine jA 3 P264.out ?_
    refine jA 4 P264.out ?_
    refine jB 5 P264.out ?_
    refine jA 6 P264.out ?_
    refine jN 7 fun K' hK => ?_
    go_simp
    refine (send_any base ρ236 q1 r237 g0 g 0 cd G1 (thenA (thenA ({ a with pu := pu1, c := cc, d := cd } : Ap) (putU pu1)) (pu1.path.map fun n => .one (.free (ndL G1 n)))) wd265 H253 H254 (by simp only [thenA, sendL, putU, List.length_append, List.length_map, List.length_cons, List.length_nil, PA1.out]; omega)).mono ?_
    rintro e w266 ⟨rfl, ρ267, r268, f269, H270, H271, p272⟩
    have H273 := κ (B1.fs H255.out f269 (by omega))
    have H274 := κ (B1.fs H256.out f269 (by omega))
    have H275 := κ (B1.fs H257.out f269 (by omega))
    have H276 := κ (B1.fs H258.out f269 (by omega))
    have H277 := κ (B1.fs H259.out f269 (by omega))
    have H278 := κ (B1.fs H260.out f269 (by omega))
    have H279 := κ (B1.fs H261.out f269 (by omega))
    have H270 := κ H270
    have H271 := κ H271
    have p272 := κ p272
    have F280 := κ (Fs.trans F262.out (f269.mono (D := fun c => c = 3 ∨ c = g + 8) (fun _ h => .inr h)))
    clear f269
    have P281 : Hid (T263 w266) := κ ⟨(H277.out.1.cell 0), (Ac.c5 H271.out :)⟩
    refine hK.out _ _ P281.out ?_
    clear hK K'
    refine jP ?_
    refine Δ ?_
    go_upto_region 7 with fail
    have b282 : Below w266.heap.size w266 w266.drew := (Below.refl _ _).drew
    have H283 := κ (Gt.ext H270.out b282)
    have H284 := κ (Ac.ext H271.out b282)
    have H285 := κ (B1.ext H273.out b282)
    have H286 := κ (B1.ext H274.out b282)
    have H287 := κ (B1.ext H275.out b282)
    have H288 := κ (B1.ext H276.out b282)
    have H289 := κ (B1.ext H277.out b282)
    have H290 := κ (B1.ext H278.out b282)
    have H291 := κ (B1.ext H279.out b282)
    have F292 := κ (F280.out.trans (Fs.quiet b282))
    let T293 : World → Prop := fun w' => w'.cell? ⟨b5, 0, none⟩ = some (.pointer (some ⟨g, 0, none⟩)) ∧ w'.cell? ⟨b6, 0, none⟩ = some (.int .i64 (sn : Int))
    have P294 : Hid (T293 w266.drew) := κ ⟨(H289.out.1.cell 0), (H290.out.1.cell 0)⟩
    refine Ω T293 [] ?_
    generalize w266.drew = wd295 at H283 H284 H285 H286 H287 H288 H289 H290 H291 F292 P294 ⊢
    refine jB 0 P294.out ?_
    refine jB 1 P294.out ?_
    refine jB 2 P294.out ?_
    refine jN 3 fun K' hK => ?_
    go_simp
    refine (shardLatch_any (sn : Int) wd295 (by omega) (by omega)).mono ?_
    rintro e w9 ⟨rfl, rfl⟩
    refine hK.out _ _ P294.out ?_
    clear hK K'
    refine jP ?_
    refine jN 4 fun K' hK => ?_
    go_simp
    refine (free_acc g0 r268.gp H283.out.new (2 + (sn : Int))).mono ?_
    rintro e w298 ⟨k296, cap297, rfl, i299, b300⟩
    have H301 := κ (Gt.ext H283.out b300)
    have H302 := κ (Ac.ext H284.out b300)
    have H303 := κ (B1.ext H285.out b300)
    have H304 := κ (B1.ext H286.out b300)
    have H305 := κ (B1.ext H287.out b300)
    have H306 := κ (B1.ext H288.out b300)
    have H307 := κ (B1.ext H289.out b300)
    have H308 := κ (B1.ext H290.out b300)
    have H309 := κ (B1.ext H291.out b300)
    have i299 := κ i299
    have F310 := κ (F292.out.trans (Fs.quiet b300))
    have P311 : Hid (T293 w298) := κ ⟨(H307.out.1.cell 0), (H308.out.1.cell 0)⟩
    refine hK.out _ _ P311.out ?_
    clear hK K'
    refine jP ?_
    refine jN 5 fun K' hK => ?_
    go_simp
    have b313 := β (w298) (.cells #[(.func (.func k296) #[] cap297)] 126)
    have K314 := κ (Blk.fresh (w298) 126 #[(.func (.func k296) #[] cap297)])
    have H317 := κ (Gt.ext H301.out b313)
    have H318 := κ (Ac.ext H302.out b313)
    have H319 := κ (B1.ext H303.out b313)
    have H320 := κ (B1.ext H304.out b313)
    have H321 := κ (B1.ext H305.out b313)
    have H322 := κ (B1.ext H306.out b313)
    have H323 := κ (B1.ext H307.out b313)
    have H324 := κ (B1.ext H308.out b313)
    have H325 := κ (B1.ext H309.out b313)
    have L326 : Hid (Are (IsAcc ρ267 ((w298).alloc (.cells #[(.func (.func k296) #[] cap297)] 126)) g0 g r268.gp) [.one (.free (shL (sn : Int)))] [(.func (.func k296) #[] cap297)]) := κ (.cons (IsAcc.ext i299.out b313) (.nil))
    obtain ⟨g315, e316⟩ : ∃ x, x = w298.heap.size := ⟨_, rfl⟩
    simp only [← e316] at K314 ⊢
    clear e316
    have F327 := κ (F310.out.trans (Fs.quiet b313))
    generalize (w298).alloc (.cells #[(.func (.func k296) #[] cap297)] 126) = w312 at H317 H318 H319 H320 H321 H322 H323 H324 H325 L326 K314 F327 ⊢
    have P328 : Hid (T293 w312) := κ ⟨(H323.out.1.cell 0), (H324.out.1.cell 0)⟩
    refine hK.out _ _ P328.out ?_
    clear hK K'
    refine jP ?_
    refine jN 6 fun K' hK => ?_
    go_simp
    refine (then_any base ρ267 q1 r268 g0 g g315 1 G1 (thenA (thenA (thenA ({ a with pu := pu1, c := cc, d := cd } : Ap) (putU pu1)) (pu1.path.map fun n => .one (.free (ndL G1 n)))) (sendL 0 cd)) _ _ w312 H317 H318 K314 L326 (κ rfl) (by decide) (by simp only [thenA, sendL, putU, List.length_append, List.length_map, List.length_cons, List.length_nil, PA1.out]; omega)).mono ?_
    rintro e w331 ⟨rfl, ρ329, r330, f332, H333, H334, p335⟩
    have H336 := κ (B1.fs H319.out f332 (by omega))
    have H337 := κ (B1.fs H320.out f332 (by omega))
    have H338 := κ (B1.fs H321.out f332 (by omega))
    have H339 := κ (B1.fs H322.out f332 (by omega))
    have H340 := κ (B1.fs H323.out f332 (by omega))
    have H341 := κ (B1.fs H324.out f332 (by omega))
    have H342 := κ (B1.fs H325.out f332 (by omega))
    have H333 := κ H333
    have H334 := κ H334
    have p335 := κ p335
    have F343 := κ (Fs.trans F327.out (f332.mono (D := fun c => c = 3 ∨ c = g + 8) (fun _ h => .inr h)))
    have P344 : Hid (T293 w331) := κ ⟨(H340.out.1.cell 0), (H341.out.1.cell 0)⟩
    refine hK.out _ _ P344.out ?_
    clear hK K'
    refine jP ?_
    refine Δ ?_
    go_wp2_with fail
    exact bodyPost_ret (v := .tuple #[]) (by simp [results, Tryz.results113, go_sem]) rfl (by rw [ord2A_t hc0]; exact ⟨rfl, ρ329, q1, r330, F343.out, H333.out, (by have h9 := H334.out; rw [thenA_app, thenA_app, thenA_app] at h9; have e9 : (fun n : Int => Acc.one (.free (ndL G1 n))) = fun n => .one (.free (ndL G n)) := (by funext n; unfold ndL; rw [SH1.out]); rw [e9] at h9; exact h9), (p335.out.trans (p272.out.trans (p241.out.trans (p223.out.trans p2.out))))⟩)
end Gx5
namespace Gre
def Re (j : Nat) (ρ ρ' : Nat → Nat) : Prop := ∀ k, ρ k ≠ j → ρ' k = ρ k
section
variable {j : Nat} {ρ ρ' : Nat → Nat} {w : World} {g0 g : Nat} {gp : Option Nat} {v : Value}
theorem Re.put (ρ : Nat → Nat) (b j i : Nat) (h : ρ b = j) : Re j ρ (put ρ b i) := fun k hk => put_ne fun e => hk (e ▸ h)
theorem Re.at (h : Re j ρ ρ') {k i : Nat} (e : ρ k = i) (hj : i ≠ j) : ρ' k = i := (h k (by rw [e]; exact hj)).trans e
theorem B1.re {b : Nat} {te : TypeId} {cs : Array Value} (h : B1 ρ w b te cs) (e : Re j ρ ρ') (h0 : j ≠ 0) : B1 ρ' w b te cs := ⟨h.1, e.at h.2 h0.symm⟩
theorem Ro0.re {A : Option Addr} {xs : List Value} (h : Ro0 ρ w A xs) (e : Re j ρ ρ') (h0 : j ≠ 0) : Ro0 ρ' w A xs := ⟨h.1, h.2.imp id fun k a ha => e.at (k a ha) h0.symm⟩
theorem OwR.re {i : Nat} {te : TypeId} {size n : Nat} {v : Value} {xs : List Value} (h : OwR ρ w i te size v n xs) (e : Re j ρ ρ') (hi : i ≠ j) : OwR ρ' w i te size v n xs := ⟨h.1, fun b hb => e.at (h.2 b hb) hi⟩
theorem Bk0.re {x : Bx} (h : Bk0 ρ w x) (e : Re j ρ ρ') (h0 : j ≠ 0) : Bk0 ρ' w x := ⟨h.1, Ro0.re h.2.1 e h0, Ro0.re h.2.2.1 e h0, fun k hk => Ro0.re (h.2.2.2 k hk) e h0⟩
theorem Gt.re {base : Nat} {q : Gq} {G : Gp} (h : Gt base ρ w g0 q G) (e : Re j ρ ρ') (hj : 8 ≤ j) (hn : ∀ k, w.heap.size ≤ k → ρ' k = 0) (hc : ∀ k, ρ' k < w.heap.size + 8) : Gt base ρ' w g0 q G :=
  ⟨fun k hk => e.at (h.low k hk) (by omega), hn, hc, h.bs, h.blk, e.at h.o0 (by omega), Ro0.re h.nds e (by omega), Ro0.re h.ris e (by omega), Ro0.re h.smb e (by omega), h.cs, ⟨e.at h.o2.1 (by omega), e.at h.o2.2.1 (by omega), e.at h.o2.2.2 (by omega)⟩, OwR.re h.row e (by omega), h.xb, fun i hi => Bk0.re (h.bk i hi) e (by omega), h.last, e.at h.o4 (by omega), OwR.re h.log e (by omega), OwR.re h.out e (by omega), OwR.re h.at' e (by omega)⟩
theorem IsDec.re {d : Dec} (h : IsDec ρ w g0 g gp d v) (e : Re j ρ ρ') (hc : j ≠ 0) : IsDec ρ' w g0 g gp d v := by
  cases d with
  | refuse c => obtain ⟨b1, b2, h0, h1, h2⟩ := h; exact ⟨b1, b2, h0, B1.re h1 e hc, B1.re h2 e hc⟩
  | ord1 c => obtain ⟨b1, b2, h0, h1, h2⟩ := h; exact ⟨b1, b2, h0, B1.re h1 e hc, B1.re h2 e hc⟩
  | ord2 o x s => obtain ⟨b1, b2, b3, b4, b5, b6, p, h0, h1, h2, h3, h4, h5, h6⟩ := h; exact ⟨b1, b2, b3, b4, b5, b6, p, h0, B1.re h1 e hc, B1.re h2 e hc, B1.re h3 e hc, ⟨h4.1, B1.re h4.2 e hc⟩, B1.re h5 e hc, B1.re h6 e hc⟩
  | cancel id s => obtain ⟨b1, b2, b3, b4, h0, h1, h2, h3, h4⟩ := h; exact ⟨b1, b2, b3, b4, h0, B1.re h1 e hc, B1.re h2 e hc, B1.re h3 e hc, B1.re h4 e hc⟩
  | settle s x b => obtain ⟨b1, b2, b3, b4, b5, b6, b7, p, wa, ia, y, h0, h1, h2, h3, h4, h5, h6⟩ := h; exact ⟨b1, b2, b3, b4, b5, b6, b7, p, wa, ia, y, h0, ⟨B1.re h1.1 e hc, Bk0.re h1.2.1 e hc, h1.2.2⟩, B1.re h2 e hc, B1.re h3 e hc, ⟨h4.1, B1.re h4.2 e hc⟩, ⟨B1.re h5.1 e hc, B1.re h5.2.1 e hc, h5.2.2⟩, B1.re h6 e hc⟩
  | sweep s ep pl => obtain ⟨b1, b2, b3, b4, b5, h0, h1, h2, h3, h4, h5⟩ := h; exact ⟨b1, b2, b3, b4, b5, h0, B1.re h1 e hc, B1.re h2 e hc, B1.re h3 e hc, B1.re h4 e hc, B1.re h5 e hc⟩
theorem IsSee.re {s : See} (h : IsSee ρ w g0 g gp s v) (e : Re j ρ ρ') (hc : j ≠ 0) : IsSee ρ' w g0 g gp s v := by
  cases s with
  | used n => obtain ⟨b1, b2, p, h0, h1, h2⟩ := h; exact ⟨b1, b2, p, h0, ⟨h1.1, B1.re h1.2 e hc⟩, B1.re h2 e hc⟩
  | caps n => obtain ⟨b1, b2, p, h0, h1, h2⟩ := h; exact ⟨b1, b2, p, h0, ⟨h1.1, B1.re h1.2 e hc⟩, B1.re h2 e hc⟩
  | look pl d => obtain ⟨b1, b2, b3, vd, h0, h1, h2, h3, h4⟩ := h; exact ⟨b1, b2, b3, vd, h0, B1.re h1 e hc, B1.re h2 e hc, B1.re h3 e hc, IsDec.re h4 e hc⟩
  | kill => obtain ⟨b1, h0, h1⟩ := h; exact ⟨b1, h0, B1.re h1 e hc⟩
  | rearm => obtain ⟨b1, h0, h1⟩ := h; exact ⟨b1, h0, B1.re h1 e hc⟩
theorem IsDn.re {d : Dn} (h : IsDn ρ w g0 g gp d v) (e : Re j ρ ρ') (hc : j ≠ 0) : IsDn ρ' w g0 g gp d v := by
  cases d with
  | send k i => obtain ⟨b1, b2, h0, h1, h2⟩ := h; exact ⟨b1, b2, h0, B1.re h1 e hc, B1.re h2 e hc⟩
  | mark =>
    rcases h with ⟨b1, h0, h1⟩ | ⟨b1, b2, h0, h1, h2⟩
    · exact .inl ⟨b1, h0, B1.re h1 e hc⟩
    · exact .inr ⟨b1, b2, h0, B1.re h1 e hc, B1.re h2 e hc⟩
  | swp0 ep => obtain ⟨b1, b2, h0, h1, h2⟩ := h; exact ⟨b1, b2, h0, B1.re h1 e hc, B1.re h2 e hc⟩
  | nop => exact h
  | swp1 s ep pl n => obtain ⟨b1, b2, b3, b4, b5, b6, A, c, h0, h1, h2, h3, h4, h5, h6⟩ := h; exact ⟨b1, b2, b3, b4, b5, b6, A, c, h0, B1.re h1 e hc, B1.re h2 e hc, ⟨B1.re h3.1 e hc, h3.2⟩, B1.re h4 e hc, B1.re h5 e hc, B1.re h6 e hc⟩
  | settle f id y s => obtain ⟨b1, b2, b3, b4, b5, b6, m, h0, h1, h2, h3, h4, h5, h6⟩ := h; exact ⟨b1, b2, b3, b4, b5, b6, m, h0, B1.re h1 e hc, B1.re h2 e hc, B1.re h3 e hc, B1.re h4 e hc, B1.re h5 e hc, ⟨B1.re h6.1 e hc, h6.2⟩⟩
theorem IsA0.re {x : A0} (h : IsA0 ρ w g0 g gp x v) (e : Re j ρ ρ') (hc : j ≠ 0) : IsA0 ρ' w g0 g gp x v := by
  cases x with
  | take l => obtain ⟨b1, b2, h0, h1, h2⟩ := h; exact ⟨b1, b2, h0, B1.re h1 e hc, B1.re h2 e hc⟩
  | free l => obtain ⟨b1, b2, h0, h1, h2⟩ := h; exact ⟨b1, b2, h0, B1.re h1 e hc, B1.re h2 e hc⟩
  | store a x => obtain ⟨b1, b2, b3, h0, h1, h2, h3⟩ := h; exact ⟨b1, b2, b3, h0, B1.re h1 e hc, B1.re h2 e hc, B1.re h3 e hc⟩
  | load a s => obtain ⟨b1, b2, b3, vs, h0, h1, h2, h3, h4⟩ := h; exact ⟨b1, b2, b3, vs, h0, B1.re h1 e hc, B1.re h2 e hc, B1.re h3 e hc, IsSee.re h4 e hc⟩
theorem IsAcc.re {x : Acc} (h : IsAcc ρ w g0 g gp x v) (e : Re j ρ ρ') (hc : j ≠ 0) : IsAcc ρ' w g0 g gp x v := by
  cases x with
  | one x => exact IsA0.re h e hc
  | aft x d => obtain ⟨b1, b2, vx, vd, h0, h1, h2, h3, h4⟩ := h; exact ⟨b1, b2, vx, vd, h0, B1.re h1 e hc, B1.re h2 e hc, IsA0.re h3 e hc, IsDn.re h4 e hc⟩
theorem Tod.re {i n c : Nat} {A : Option Addr} {vs : List Value} (h : Tod ρ w i A n c vs) (e : Re j ρ ρ') (hi : i ≠ j) : Tod ρ' w i A n c vs := by
  obtain ⟨h0, h | ⟨b, o, cs, hA, hb, hs, hn, ho, hk⟩⟩ := h
  · exact ⟨h0, .inl h⟩
  · exact ⟨h0, .inr ⟨b, o, cs, hA, hb, hs, hn, e.at ho hi, hk⟩⟩
theorem Ac.re {r : Aq} {a : Ap} (h : Ac ρ w g0 g r a) (e : Re j ρ ρ') (hi : g + 8 ≠ j) (h0 : j ≠ 0) : Ac ρ' w g0 g r a :=
  ⟨h.blk, e.at h.own hi, Tod.re h.tod e hi, h.acc.mono fun x v k => IsAcc.re k e h0, fun gp hg => by
    obtain ⟨k1, k2, k3, k4⟩ := h.pu gp hg
    refine ⟨k1, e.at k2 hi, Ro0.re k3 e h0, ?_⟩
    split
    · rename_i hf; rw [if_pos hf] at k4; exact ⟨OwR.re k4.1 e hi, OwR.re k4.2 e hi⟩
    · rename_i hf; rw [if_neg hf] at k4; exact ⟨Ro0.re k4.1 e h0, Ro0.re k4.2 e h0⟩⟩
end
end Gre
end Go.Proofs.YtaeddnjjeholgaaGreat
