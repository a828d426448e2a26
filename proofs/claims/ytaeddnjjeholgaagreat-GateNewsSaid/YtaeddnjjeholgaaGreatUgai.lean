/- Texts side by side. -/
import Derived.Test.YtaeddnjjeholgaaGreatUgbm
set_option linter.unusedVariables false
set_option linter.unusedSimpArgs false
set_option maxRecDepth 100000
set_option maxHeartbeats 16000000
namespace Go.Proofs.YtaeddnjjeholgaaGreat
namespace Lat
open Go
section
variable {P : Program} {ops : Array Oper} {Q : Exit → Act → World → Prop} {md : Region.Mode} {T : World → Prop} {st : List Nat}
def clean (st : List Nat) (up : Array Bool) : Bool := st.all fun s => !(up.getD s false)
theorem clean_back {up : Array Bool} {i : Nat} (h : clean st (up.setIfInBounds i true) = true) : clean st up = true := by
  unfold clean at *
  rw [List.all_eq_true] at *
  intro s hs
  have h1 := h s hs
  by_cases e : i = s
  · subst e
    by_cases hl : i < up.size
    · simp [hl] at h1
    · simp [hl]
  · rw [getD_set_ne false e] at h1; exact h1
theorem clean_on {up : Array Bool} {i : Nat} (hi : st.contains i = false) (h : clean st up = true) : clean st (up.setIfInBounds i true) = true := by
  unfold clean at *
  rw [List.all_eq_true] at *
  intro s hs
  have e : i ≠ s := by rintro rfl; have : st.contains i = true := by simpa using hs
                       rw [hi] at this; cases this
  rw [getD_set_ne false e]; exact h s hs
def wpL (P : Program) (md : Region.Mode) (ops : Array Oper) (Q : Exit → Act → World → Prop) (T : World → Prop) (st : List Nat) : Nat → Array Bool → Act → World → Prop
  | 0, up, a, w => Region.ready md ops up = [] ∧ Q .normal a w
  | k + 1, up, a, w => (Region.ready md ops up = [] → Q .normal a w) ∧
      ∀ i ∈ Region.ready md ops up, wpOp P ops Q i (fun a' w' => (clean st (up.setIfInBounds i true) = true → T w') ∧ wpL P md ops Q T st k (up.setIfInBounds i true) a' w') a w
theorem wpAny_of_L : ∀ (k : Nat) (up : Array Bool) (a : Act) (w : World), wpL P md ops Q T st k up a w → wpAny P md ops Q k up a w
  | 0, _, _, _, h => h
  | k + 1, up, _, _, h => ⟨h.1, fun i hi => wpOp_mono (fun a' w' h' => wpAny_of_L k (up.setIfInBounds i true) a' w' h'.2) (h.2 i hi)⟩
def waits (md : Region.Mode) (ops : Array Oper) (st : List Nat) (i : Nat) : Bool :=
  st.all fun j => match ops[j]? with
    | some o => o.after.any fun e => Region.binds md e && e.on == i
    | none => true
theorem waits_spec {i j : Nat} {o : Oper} (h : waits md ops st i = true) (hj : st.contains j = true) (ho : ops[j]? = some o) : ∃ e ∈ o.after, Region.binds md e = true ∧ e.on = i := by
  unfold waits at h
  rw [List.all_eq_true] at h
  have h1 := h j (by simpa using hj)
  rw [ho] at h1
  simp only [Array.any_eq_true, Bool.and_eq_true, beq_iff_eq] at h1
  obtain ⟨n, hn, h2, h3⟩ := h1
  exact ⟨_, Array.getElem_mem hn, h2, h3⟩
theorem wpL_load {i : Nat} {oi : Oper} {v : Value} (hi : ops[i]? = some oi) (hs : Region.noSelect ops = true) (hQ : ∀ c a w, Q (.panic c) (a.put oi.dst v) w → Q (.panic c) a w) (hns : st.contains i = false) (hlt : waits md ops st i = true) :
    ∀ (k : Nat) (up : Array Bool) (a : Act) (w : World), Region.free md ops up i = true → (Region.ready md ops up).contains i = true → YieldsIf P ops T oi v a → clean st up = true → T w →
      wpL P md ops Q T st k (up.setIfInBounds i true) (a.put oi.dst v) w → wpL P md ops Q T st (k + 1) up a w := by
  suffices H0 : ∀ (k : Nat) (up : Array Bool) (a : Act) (w : World),
      (∀ j oj, ops[j]? = some oj → j ≠ i → up.getD j true = false → (∀ e ∈ oj.after, Region.binds md e = true → e.on ≠ i) → oi.apart ops oj = true) →
      i ∈ Region.ready md ops up → YieldsIf P ops T oi v a → clean st up = true → T w →
      wpL P md ops Q T st k (up.setIfInBounds i true) (a.put oi.dst v) w → wpL P md ops Q T st (k + 1) up a w by
    intro k up a w hf hr
    exact H0 k up a w (Region.free_spec hi hf) (by simpa using hr)
  intro k
  induction k with
  | zero =>
    intro up a w _ hr hy hc hT H
    refine ⟨fun h => (by rw [h] at hr; cases hr), fun j hj => ?_⟩
    by_cases hji : j = i
    · subst hji; exact hy.wpOp hi hT ⟨fun _ => hT, H⟩
    · have := ready_mono hj hji
      rw [H.1] at this
      cases this
  | succ k ih =>
    intro up a w hfree hr hy hc hT H
    refine ⟨fun h => (by rw [h] at hr; cases hr), fun j hj => ?_⟩
    by_cases hji : j = i
    · subst hji; exact hy.wpOp hi hT ⟨fun _ => hT, H⟩
    · have h1 := H.2 j (ready_mono hj hji)
      obtain ⟨hjun, oj, hoj, hall⟩ := mem_ready.1 hj
      have hno : ∀ e ∈ oj.after, Region.binds md e = true → e.on ≠ i := fun e he hb heq => by
        have a1 := hall e he hb
        have a0 := (mem_ready.1 hr).1
        rw [heq] at a1
        rcases Nat.lt_or_ge i up.size with h' | h'
        · simp [h'] at a0 a1; rw [a0] at a1; cases a1
        · simp [Array.getElem?_eq_none h'] at a1
      have hjl : st.contains j = false := by
        cases hcj : st.contains j with
        | false => rfl
        | true =>
          obtain ⟨e, he, hb, heq⟩ := waits_spec hlt hcj hoj
          exact absurd heq (hno e he hb)
      have hcj := clean_on hjl hc
      have hsel := Region.noSelect_spec hs
      have h2 := wpOp_putIf hoj (hfree j oj hoj hji hjun hno) (fun cs b => hsel i oi cs b hi) (fun cs b => hsel j oj cs b hoj) hQ hy h1
      have hfree' : ∀ n on_, ops[n]? = some on_ → n ≠ i → (up.setIfInBounds j true).getD n true = false →
          (∀ e ∈ on_.after, Region.binds md e = true → e.on ≠ i) → oi.apart ops on_ = true := fun n on_ hn hni hun hnw => by
        refine hfree n on_ hn hni ?_ hnw
        by_cases hjn : j = n
        · subst hjn; exact hjun
        · rw [getD_set_ne true hjn] at hun; exact hun
      have hsw : (up.setIfInBounds i true).setIfInBounds j true = (up.setIfInBounds j true).setIfInBounds i true := Array.setIfInBounds_comm _ _ (Ne.symm hji)
      refine wpOp_mono (fun a' w' h3 => ⟨fun _ => h3.2.1 (by rw [hsw]; exact clean_on hns hcj), ih (up.setIfInBounds j true) a' w' hfree' (ready_mono hr (Ne.symm hji)) h3.1 hcj (h3.2.1 (by rw [hsw]; exact clean_on hns hcj)) ?_⟩) h2
      rw [← hsw]
      exact h3.2.2
theorem wpL_word {i : Nat} {oi : Oper} {v : Value} (hi : ops[i]? = some oi) (hs : Region.noSelect ops = true) (hQ : ∀ c a w, Q (.panic c) (a.put oi.dst v) w → Q (.panic c) a w) (hns : st.contains i = false) :
    ∀ (k : Nat) (up : Array Bool) (a : Act) (w : World), Region.free md ops up i = true → (Region.ready md ops up).contains i = true → YieldsIf P ops (fun _ => True) oi v a → (clean st up = true → T w) →
      wpL P md ops Q T st k (up.setIfInBounds i true) (a.put oi.dst v) w → wpL P md ops Q T st (k + 1) up a w := by
  suffices H0 : ∀ (k : Nat) (up : Array Bool) (a : Act) (w : World),
      (∀ j oj, ops[j]? = some oj → j ≠ i → up.getD j true = false → (∀ e ∈ oj.after, Region.binds md e = true → e.on ≠ i) → oi.apart ops oj = true) →
      i ∈ Region.ready md ops up → YieldsIf P ops (fun _ => True) oi v a → (clean st up = true → T w) →
      wpL P md ops Q T st k (up.setIfInBounds i true) (a.put oi.dst v) w → wpL P md ops Q T st (k + 1) up a w by
    intro k up a w hf hr
    exact H0 k up a w (Region.free_spec hi hf) (by simpa using hr)
  intro k
  induction k with
  | zero =>
    intro up a w _ hr hy hT H
    refine ⟨fun h => (by rw [h] at hr; cases hr), fun j hj => ?_⟩
    by_cases hji : j = i
    · subst hji; exact hy.wpOp hi trivial ⟨fun h => hT (clean_back h), H⟩
    · have := ready_mono hj hji
      rw [H.1] at this
      cases this
  | succ k ih =>
    intro up a w hfree hr hy hT H
    refine ⟨fun h => (by rw [h] at hr; cases hr), fun j hj => ?_⟩
    by_cases hji : j = i
    · subst hji; exact hy.wpOp hi trivial ⟨fun h => hT (clean_back h), H⟩
    · have h1 := H.2 j (ready_mono hj hji)
      obtain ⟨hjun, oj, hoj, hall⟩ := mem_ready.1 hj
      have hno : ∀ e ∈ oj.after, Region.binds md e = true → e.on ≠ i := fun e he hb heq => by
        have a1 := hall e he hb
        have a0 := (mem_ready.1 hr).1
        rw [heq] at a1
        rcases Nat.lt_or_ge i up.size with h' | h'
        · simp [h'] at a0 a1; rw [a0] at a1; cases a1
        · simp [Array.getElem?_eq_none h'] at a1
      have hsel := Region.noSelect_spec hs
      have h2 := wpOp_putIf hoj (hfree j oj hoj hji hjun hno) (fun cs b => hsel i oi cs b hi) (fun cs b => hsel j oj cs b hoj) hQ hy h1
      have hfree' : ∀ n on_, ops[n]? = some on_ → n ≠ i → (up.setIfInBounds j true).getD n true = false →
          (∀ e ∈ on_.after, Region.binds md e = true → e.on ≠ i) → oi.apart ops on_ = true := fun n on_ hn hni hun hnw => by
        refine hfree n on_ hn hni ?_ hnw
        by_cases hjn : j = n
        · subst hjn; exact hjun
        · rw [getD_set_ne true hjn] at hun; exact hun
      have hsw : (up.setIfInBounds i true).setIfInBounds j true = (up.setIfInBounds j true).setIfInBounds i true := Array.setIfInBounds_comm _ _ (Ne.symm hji)
      refine wpOp_mono (fun a' w' h3 => ⟨fun hcj => h3.2.1 (by rw [hsw]; exact clean_on hns hcj), ih (up.setIfInBounds j true) a' w' hfree' (ready_mono hr (Ne.symm hji)) h3.1 (fun hcj => h3.2.1 (by rw [hsw]; exact clean_on hns hcj)) ?_⟩) h2
      rw [← hsw]
      exact h3.2.2
theorem wpL_done {up : Array Bool} {a : Act} {w : World} (hr : Region.ready md ops up = []) (h : Q .normal a w) : ∀ k, wpL P md ops Q T st k up a w
  | 0 => ⟨hr, h⟩
  | _ + 1 => ⟨fun _ => h, by rw [hr]; simp⟩
theorem wpL_late {n k : Nat} {o : Oper} {up : Array Bool} {a : Act} {w : World} (hr : Region.ready md ops up = [n]) (ho : ops[n]? = some o) (hk : clean st (up.setIfInBounds n true) = false)
    (h : ∀ K : Act → World → Prop, Shut (∀ a w, wpL P md ops Q T st k (up.setIfInBounds n true) a w → K a w) → if Region.wanted o (yielded ops a.tmps) = true then Oper.wp P o a w K Q else K (a.put o.dst undef) w) :
    wpL P md ops Q T st (k + 1) up a w := by
  refine ⟨fun h0 => (by rw [hr] at h0; cases h0), ?_⟩
  rw [hr]
  intro j hj
  simp only [List.mem_cons, List.not_mem_nil, or_false] at hj
  subst hj
  exact wpOp_step ho (fun K hK => h K (fun a w hW => hK a w ⟨fun e => (by rw [hk] at e; cases e), hW⟩))
theorem wpL_next {n k : Nat} {o : Oper} {up : Array Bool} {a : Act} {w : World} (hr : Region.ready md ops up = [n]) (ho : ops[n]? = some o)
    (h : ∀ K : Act → World → Prop, Shut (∀ a w, T w → wpL P md ops Q T st k (up.setIfInBounds n true) a w → K a w) → if Region.wanted o (yielded ops a.tmps) = true then Oper.wp P o a w K Q else K (a.put o.dst undef) w) :
    wpL P md ops Q T st (k + 1) up a w := by
  refine ⟨fun h0 => (by rw [hr] at h0; cases h0), ?_⟩
  rw [hr]
  intro j hj
  simp only [List.mem_cons, List.not_mem_nil, or_false] at hj
  subst hj
  exact wpOp_step ho (fun K hK => h K (fun a w hT hW => hK a w ⟨fun _ => hT, hW⟩))
theorem wp_region_L {id : Nat} {a : Act} {w : World} (hm : P.follows .mixedOrders = true)
    (h : wpL P .any ops Q T st ops.size (Array.replicate ops.size false) a w.drew) : (Code.region id ops true).wp P Q a w :=
  wp_region_any hm (wpAny_of_L _ _ _ _ h)
theorem Ω (T : World → Prop) (st : List Nat) {id : Nat} {a : Act} {w : World} (h : wpL P .any ops (NoPanic Q) T st ops.size (Array.replicate ops.size false) a w.drew) (hm : P.follows .mixedOrders = true := by kernel_rfl) : (Code.region id ops true).wp P Q a w := wp_region_noPanic (wp_region_L hm h)
theorem Δ {k : Nat} {up : Array Bool} {a : Act} {w : World} (h : Q .normal a w) (hr : Region.ready md ops up = [] := by kernel_rfl) : wpL P md ops (NoPanic Q) T st k up a w := wpL_done (Q := NoPanic Q) (T := T) (st := st) hr (NoPanic.normal h) k
end
end Lat
namespace Rul5
open Kap Abv Go.ChangeShapes Go.WideShapes Go.ChangeAt Go.RowKit Mem Tre Ref3 Law3 Fix3 Opn Bnd Flo Cfg CrdB CrdC Rr4 Fr4 St7 Lat
attribute [local go_sem] run_store_float
theorem ref_any(sh wi ra ta:Int)(A B C:Option Addr)(c d f n m k:Nat)(nd:List (Int×Int))(ac:List Int)(sy:List (Int×Int×Int×Nat))(w:World)(hn:Hid (n=nd.length))(hm:Hid (m=ac.length))(hk:Hid (k=sy.length))
  (hl:Hid (Nds w w.heap.size A nd))(hu:Hid (Ris w w.heap.size B ac))(hs:Hid (Btb w w.heap.size C sy))(hmaz:(k:Int)≤4398046511104):
  Calls Tryz.prog 6 #[.agg #[.int .i64 sh,.int .i64 wi,.int .i64 ra,.int .i64 ta,.slice A n c,.slice B m d,.slice C k f]] w (MadeCf sh wi ra ta nd ac sy w):=by
 obtain⟨i0,hi,hz0,hz1,hz2⟩:=info_parts sym_info;have h18:=run18;have k1:Hid (Blk (((w.alloc (.cells (vC sh wi ra ta A n c B m d C k f) 26)).alloc (.cells (vC 0 0 0 0 none 0 0 none 0 0 none 0 0) 33)).alloc (.cells (vC sh wi ra ta A n c B m d none 0 0) 33)) w.heap.size 26 (vC sh wi ra ta A n c B m d C k f)):=((Blk.fresh w _ _).alloc _).alloc _
 have k2:Hid (Blk (((w.alloc (.cells (vC sh wi ra ta A n c B m d C k f) 26)).alloc (.cells (vC 0 0 0 0 none 0 0 none 0 0 none 0 0) 33)).alloc (.cells (vC sh wi ra ta A n c B m d none 0 0) 33)) (w.heap.size+1) 33 (vC 0 0 0 0 none 0 0 none 0 0 none 0 0)):=by
  have:=Blk.fresh (w.alloc (.cells (vC sh wi ra ta A n c B m d C k f) 26)) 33 (vC 0 0 0 0 none 0 0 none 0 0 none 0 0);simp only[World.size_alloc]at this;exact this.alloc _
 have kO:Hid (Blk (((w.alloc (.cells (vC sh wi ra ta A n c B m d C k f) 26)).alloc (.cells (vC 0 0 0 0 none 0 0 none 0 0 none 0 0) 33)).alloc (.cells (vC sh wi ra ta A n c B m d none 0 0) 33)) (w.heap.size+1+1) 33 (vC sh wi ra ta A n c B m d none 0 0)):=by
  have:=Blk.fresh ((w.alloc (.cells (vC sh wi ra ta A n c B m d C k f) 26)).alloc (.cells (vC 0 0 0 0 none 0 0 none 0 0 none 0 0) 33)) 33 (vC sh wi ra ta A n c B m d none 0 0);simp only[World.size_alloc]at this;exact this
 have b0:Below w.heap.size w (((w.alloc (.cells (vC sh wi ra ta A n c B m d C k f) 26)).alloc (.cells (vC 0 0 0 0 none 0 0 none 0 0 none 0 0) 33)).alloc (.cells (vC sh wi ra ta A n c B m d none 0 0) 33)):=((ψ.alloc τ _).alloc (by simp) _).alloc (by simp;omega) _
 go_enter Tryz.func6,Tryz.ntmps6
 go_upto_region 2 with fail
 generalize (((w.alloc (.cells (vC sh wi ra ta A n c B m d C k f) 26)).alloc (.cells (vC 0 0 0 0 none 0 0 none 0 0 none 0 0) 33)).alloc (.cells (vC sh wi ra ta A n c B m d none 0 0) 33))=W0 at k1 k2 kO b0 ⊢;have g1:w.heap.size<w.heap.size+1:=by omega
 have g2:w.heap.size+1<w.heap.size+1+1:=by omega
 generalize w.heap.size+1+1=gO at g2 kO ⊢;generalize w.heap.size+1=gR at g1 g2 k2 ⊢
 go_wp2_with fail
 go_loopg [4] k (fun g s4 w'=> ∃(j:Nat) (Ak:Option Addr) (ck:Nat),j+g=k∧s4= ι j∧Hid (Blk w' gO 33 (vC sh wi ra ta A n c B m d Ak j ck))∧Hid (w'.ownsRow (gO+1) 90 4 (.slice Ak j ck) j (smbs (sy.take j)))∧Below gO W0 w')
 case atStart=>exact⟨0,none,0,by omega,rfl,kO,World.ownsRow_nil _ _ _ _,Below.refl _ _⟩
 case round=>
  obtain⟨j,Ak,ck,hj,rfl,hO,hown,hbl⟩:=hrel;have q1:=κ (Blk.below k1.out hbl (by omega));have f6:=χ (q1.out.cell 6);have e6:=χ (hO.out.cell 6);have hgr:=hO.out.lt;by_cases hlt:(j:Int)<(k:Int)
  ·obtain⟨g,rfl⟩: ∃g,gk=g+1:=⟨gk-1,by omega⟩;have hsw:Btb wr w.heap.size C sy:=Rd.below hs.out (b0.trans (hbl.mono (by omega)));obtain⟨b,o,rfl,hb,hcc⟩:=Btb.at (i:=j) hsw (by have:=hk.out;omega);obtain⟨d0,d1,d2,d3⟩:=hcc j (by have:=hk.out;omega);have hpre:Hid (smbs (sy.take (j+1))=smbs (sy.take j)++[ι (sP sy j),ι (sQ sy j),ι (sW sy j),.float .f64 (sB sy j)]):=by show _=_;rw[takeS_snoc (by have:=hk.out;omega),smbs_snoc]
   clear hcc hsw;generalize sP sy j=xp at *;generalize sQ sy j=xq at *;generalize sW sy j=xw at *;generalize sB sy j=xb at *;have kS:=κ (Blk.fresh wr 86 #[ι xp,ι xq,ι xw,.int .u64 (xb:Int)]);have hO1:Hid (Blk (wr.alloc (.cells #[ι xp,ι xq,ι xw,.int .u64 (xb:Int)] 86)) gO 33 (vC sh wi ra ta A n c B m d Ak j ck)):=hO.out.alloc _;have hw1:Hid ((wr.alloc (.cells #[ι xp,ι xq,ι xw,.int .u64 (xb:Int)] 86)).ownsRow (gO+1) 90 4 (.slice Ak j ck) j (smbs (sy.take j))):=World.ownsRow.alloc hown.out _;have hb1:Below gO W0 (wr.alloc (.cells #[ι xp,ι xq,ι xw,.int .u64 (xb:Int)] 86)):=hbl.alloc (by omega) _;have hgS:some wr.heap.size≠(Value.slice Ak j ck).ownBlock:=by intro e;have:=World.ownsRow.lt hown.out _ e.symm;omega
   have HGS:=κ hgS;clear hgS
   go_upto_region 6 with fail
   generalize wr.alloc (.cells #[ι xp,ι xq,ι xw,.int .u64 (xb:Int)] 86)=w1 at kS hO1 hw1 hb1 ⊢;generalize wr.heap.size=gS at kS hgr HGS ⊢;have s0:=χ (kS.out.cell 0);have s1:=χ (kS.out.cell 1);have s2:=χ (kS.out.cell 2);have s3:=χ (kS.out.cell 3);have v6:=χ (hO1.out.cell 6);have hgO:=hO1.out.lt;have hgS':=kS.out.lt;have va: ∀X,(fun w'=>w'.cell? (α gO 6)=some (.slice Ak j ck)∧w'.cell? (α gS 0)=some (ι xp)∧w'.cell? (α gS 1)=some (ι xq)∧w'.cell? (α gS 2)=some (ι xw)∧w'.cell? (α gS 3)=some (.int .u64 (xb:Int))) (w1.drew.alloc X):=fun X=>⟨(World.cell?_alloc_lt w1.drew X (α gO 6) hgO).trans v6,(World.cell?_alloc_lt w1.drew X (α gS 0) hgS').trans s0,(World.cell?_alloc_lt w1.drew X (α gS 1) hgS').trans s1,(World.cell?_alloc_lt w1.drew X (α gS 2) hgS').trans s2,(World.cell?_alloc_lt w1.drew X (α gS 3) hgS').trans s3⟩
   have VA:=κ va;clear va;refine Ω (fun w'=>w'.cell? (α gO 6)=some (.slice Ak j ck)∧w'.cell? (α gS 0)=some (ι xp)∧w'.cell? (α gS 1)=some (ι xq)∧w'.cell? (α gS 2)=some (ι xw)∧w'.cell? (α gS 3)=some (.int .u64 (xb:Int))) [15] ?_;have hT:(fun w'=>w'.cell? (α gO 6)=some (.slice Ak j ck)∧w'.cell? (α gS 0)=some (ι xp)∧w'.cell? (α gS 1)=some (ι xq)∧w'.cell? (α gS 2)=some (ι xw)∧w'.cell? (α gS 3)=some (.int .u64 (xb:Int))) w1.drew:=⟨v6,s0,s1,s2,s3⟩;have HT:=κ hT;clear hT;refine wpL_word (i:=0) (v:=?_) rfl (by kernel_rfl) (fun _ _ _ h=>h) (by kernel_rfl) _ _ _ _ (by kernel_rfl) (by kernel_rfl) (Or.inl ⟨by rfl,?_⟩) (fun _=>HT.out) ?_;rotate_left
   ·intro w' _;go_simp
    try with_reducible rfl
   try simp only[Act.put,List.setIfInBounds_toArray,List.set_cons_zero,List.set_cons_succ]
   refine wpL_load (i:=1) (v:=?_) rfl (by kernel_rfl) (fun _ _ _ h=>h) (by kernel_rfl) (by kernel_rfl) _ _ _ _ (by kernel_rfl) (by kernel_rfl) (Or.inl ⟨by rfl,?_⟩) (by kernel_rfl) HT.out ?_;rotate_left
   ·intro w' hS
    try dsimp only at hS
    obtain⟨x4,x5,x6,x7,x8⟩:=hS;go_simp
    try with_reducible rfl
   try simp only[Act.put,List.setIfInBounds_toArray,List.set_cons_zero,List.set_cons_succ]
   refine wpL_word (i:=2) (v:=?_) rfl (by kernel_rfl) (fun _ _ _ h=>h) (by kernel_rfl) _ _ _ _ (by kernel_rfl) (by kernel_rfl) (Or.inl ⟨by rfl,?_⟩) (fun _=>HT.out) ?_;rotate_left
   ·intro w' _;go_simp
    try with_reducible rfl
   try simp only[Act.put,List.setIfInBounds_toArray,List.set_cons_zero,List.set_cons_succ]
   refine wpL_load (i:=3) (v:=?_) rfl (by kernel_rfl) (fun _ _ _ h=>h) (by kernel_rfl) (by kernel_rfl) _ _ _ _ (by kernel_rfl) (by kernel_rfl) (Or.inl ⟨by rfl,?_⟩) (by kernel_rfl) HT.out ?_;rotate_left
   ·intro w' hS
    try dsimp only at hS
    obtain⟨x4,x5,x6,x7,x8⟩:=hS;go_simp
    try with_reducible rfl
   try simp only[Act.put,List.setIfInBounds_toArray,List.set_cons_zero,List.set_cons_succ]
   refine wpL_word (i:=4) (v:=?_) rfl (by kernel_rfl) (fun _ _ _ h=>h) (by kernel_rfl) _ _ _ _ (by kernel_rfl) (by kernel_rfl) (Or.inl ⟨by rfl,?_⟩) (fun _=>HT.out) ?_;rotate_left
   ·intro w' _;go_simp
    try with_reducible rfl
   try simp only[Act.put,List.setIfInBounds_toArray,List.set_cons_zero,List.set_cons_succ]
   refine wpL_load (i:=5) (v:=?_) rfl (by kernel_rfl) (fun _ _ _ h=>h) (by kernel_rfl) (by kernel_rfl) _ _ _ _ (by kernel_rfl) (by kernel_rfl) (Or.inl ⟨by rfl,?_⟩) (by kernel_rfl) HT.out ?_;rotate_left
   ·intro w' hS
    try dsimp only at hS
    obtain⟨x4,x5,x6,x7,x8⟩:=hS;go_simp
    try with_reducible rfl
   try simp only[Act.put,List.setIfInBounds_toArray,List.set_cons_zero,List.set_cons_succ]
   refine wpL_word (i:=6) (v:=?_) rfl (by kernel_rfl) (fun _ _ _ h=>h) (by kernel_rfl) _ _ _ _ (by kernel_rfl) (by kernel_rfl) (Or.inl ⟨by rfl,?_⟩) (fun _=>HT.out) ?_;rotate_left
   ·intro w' _;go_simp
    try with_reducible rfl
   try simp only[Act.put,List.setIfInBounds_toArray,List.set_cons_zero,List.set_cons_succ]
   refine wpL_load (i:=7) (v:=?_) rfl (by kernel_rfl) (fun _ _ _ h=>h) (by kernel_rfl) (by kernel_rfl) _ _ _ _ (by kernel_rfl) (by kernel_rfl) (Or.inl ⟨by rfl,?_⟩) (by kernel_rfl) HT.out ?_;rotate_left
   ·intro w' hS
    try dsimp only at hS
    obtain⟨x4,x5,x6,x7,x8⟩:=hS;go_simp
    try with_reducible rfl
   try simp only[Act.put,List.setIfInBounds_toArray,List.set_cons_zero,List.set_cons_succ]
   refine wpL_word (i:=8) (v:=?_) rfl (by kernel_rfl) (fun _ _ _ h=>h) (by kernel_rfl) _ _ _ _ (by kernel_rfl) (by kernel_rfl) (Or.inl ⟨by rfl,?_⟩) (fun _=>HT.out) ?_;rotate_left
   ·intro w' _;go_simp
    try with_reducible rfl
   try simp only[Act.put,List.setIfInBounds_toArray,List.set_cons_zero,List.set_cons_succ]
   refine wpL_load (i:=9) (v:=?_) rfl (by kernel_rfl) (fun _ _ _ h=>h) (by kernel_rfl) (by kernel_rfl) _ _ _ _ (by kernel_rfl) (by kernel_rfl) (Or.inl ⟨by rfl,?_⟩) (by kernel_rfl) HT.out ?_;rotate_left
   ·intro w' hS
    try dsimp only at hS
    obtain⟨x4,x5,x6,x7,x8⟩:=hS;go_simp
    try with_reducible rfl
   try simp only[Act.put,List.setIfInBounds_toArray,List.set_cons_zero,List.set_cons_succ]
   refine wpL_word (i:=10) (v:=?_) rfl (by kernel_rfl) (fun _ _ _ h=>h) (by kernel_rfl) _ _ _ _ (by kernel_rfl) (by kernel_rfl) (Or.inl ⟨by rfl,?_⟩) (fun _=>HT.out) ?_;rotate_left
   ·intro w' _;go_simp
    try with_reducible rfl
   try simp only[Act.put,List.setIfInBounds_toArray,List.set_cons_zero,List.set_cons_succ]
   refine wpL_word (i:=11) (v:=?_) rfl (by kernel_rfl) (fun _ _ _ h=>h) (by kernel_rfl) _ _ _ _ (by kernel_rfl) (by kernel_rfl) (Or.inl ⟨by rfl,?_⟩) (fun _=>HT.out) ?_;rotate_left
   ·intro w' _;go_simp
    try with_reducible rfl
   try simp only[Act.put,List.setIfInBounds_toArray,List.set_cons_zero,List.set_cons_succ]
   refine wpL_next (n:=12) (by kernel_rfl) rfl (fun K hK=>?_);go_simp;refine hK.out _ _ (VA.out _) ?_;clear hK K
   try simp only[Act.put,List.setIfInBounds_toArray,List.set_cons_zero,List.set_cons_succ]
   refine wpL_next (n:=13) (by kernel_rfl) rfl (fun K hK=>?_);refine step_app1G (own_drew hw1) rfl _ _ _ rfl i0 (.agg #[ι 0,ι 0,ι 0,.float .f64 0]) 32 Tryz.underlying31 hi hz0 hz1 hz2 rfl (by decide) rfl rfl rfl [ι xp,ι xq,ι xw,.float .f64 xb] rfl rfl (by simp[Value.oneCell']) (by unfold maxLen;omega) (by omega) hgO ?_;intro A1 c1 w2 hown1 hgr1;have hO2:=κ (Blk_grown (Blk.alloc (w:=w1.drew) hO1.out _) hgr1 (own_row_ne hw1.out (by omega)));have kS2:=κ (Blk_grown (Blk.alloc (w:=w1.drew) kS.out _) hgr1 HGS.out);have z0:=χ (hO2.out.cell 6);have z1:=hO2.out.thaw 6;have HT2:Hid ((fun w'=>w'.cell? (α gO 6)=some (.slice Ak j ck)∧w'.cell? (α gS 0)=some (ι xp)∧w'.cell? (α gS 1)=some (ι xq)∧w'.cell? (α gS 2)=some (ι xw)∧w'.cell? (α gS 3)=some (.int .u64 (xb:Int))) w2):=⟨hO2.out.cell 6,kS2.out.cell 0,kS2.out.cell 1,kS2.out.cell 2,kS2.out.cell 3⟩;refine hK.out _ _ HT2.out ?_;clear hK K
   try simp only[Act.put,List.setIfInBounds_toArray,List.set_cons_zero,List.set_cons_succ]
   refine wpL_word (i:=14) (v:=?_) rfl (by kernel_rfl) (fun _ _ _ h=>h) (by kernel_rfl) _ _ _ _ (by kernel_rfl) (by kernel_rfl) (Or.inl ⟨by rfl,?_⟩) (fun _=>HT2.out) ?_;rotate_left
   ·intro w' _;go_simp
    try with_reducible rfl
   try simp only[Act.put,List.setIfInBounds_toArray,List.set_cons_zero,List.set_cons_succ]
   refine wpL_late (n:=15) (by kernel_rfl) rfl (by kernel_rfl) (fun K hK=>?_);go_simp;refine hK.out _ _ ?_;clear hK K
   try simp only[Act.put,List.setIfInBounds_toArray,List.set_cons_zero,List.set_cons_succ]
   refine Δ ?_
   all_goals
    have hown2:Hid ((w2.setCell (α gO 6) (.slice A1 (j+1) c1)).ownsRow (gO+1) 90 4 (.slice A1 (j+1) c1) (j+1) (smbs (sy.take (j+1)))):=by
     rw[hpre.out];exact ownsRow_setCell_below hown1.out (by simp) _
    have hO3:Hid (Blk (w2.setCell (α gO 6) (.slice A1 (j+1) c1)) gO 33 (vC sh wi ra ta A n c B m d A1 (j+1) c1)):=blk_set hO2.out 6 _
    have hbl2:Below gO W0 (w2.setCell (α gO 6) (.slice A1 (j+1) c1)):=by
     refine(((hb1.drew).alloc (by simp;omega) _).grown hgr1 (by simp;omega) ?_).setCell τ _;intro q hq;have:=World.ownsRow.lt hw1.out q hq;omega
    clear hO2 kS2 hown1 hgr1 z0 z1 HT HT2 VA
    go_wp2_with fail
    go_roundg g
    case measure=>omega
    case rel=>exact⟨j+1,A1,c1,by omega,by go_num,hO3,hown2,hbl2⟩
  ·have hjk:Hid (j=k):=by show _=_;omega
   have hq2:=κ (Blk.below k2.out hbl (by omega));have e0:=hO.out.cell 0;have e1:=hO.out.cell 1;have e2:=hO.out.cell 2;have e3:=hO.out.cell 3;have e4:=hO.out.cell 4;have e5:=hO.out.cell 5;have r0:=hq2.out.cell 0;have r1:=hq2.out.cell 1;have r2:=hq2.out.cell 2;have r3:=hq2.out.cell 3;have r4:=hq2.out.cell 4;have r5:=hq2.out.cell 5;have r6:=hq2.out.cell 6;have y0:=hq2.out.thaw 0;have y1:=hq2.out.thaw 1;have y2:=hq2.out.thaw 2;have y3:=hq2.out.thaw 3;have y4:=hq2.out.thaw 4;have y5:=hq2.out.thaw 5;have y6:=hq2.out.thaw 6;simp only[List.getElem?_toArray,List.getElem?_cons_zero,List.getElem?_cons_succ]at e0 e1 e2 e3 e4 e5 r0 r1 r2 r3 r4 r5 r6;obtain⟨c0,c1,c2,c3,c4,c5,c6⟩:=st7_cells (a:= .int .i64 sh) (b:= .int .i64 wi) (c:= .int .i64 ra) (d:= .int .i64 ta) (e:= .slice A n c) (f:= .slice B m d) (h:= .slice Ak j ck) hq2.out;have bF:Below w.heap.size w (st7 wr gR (ι sh) (ι wi) (ι ra) (ι ta) (.slice A n c) (.slice B m d) (.slice Ak j ck)):=st7_below (b0.trans (hbl.mono (by omega))) (by omega);have NF:=κ (Rd.below' hl.out bF bF.size);have UF:=κ (Rd.below' hu.out bF bF.size)
   have SF:Hid (Smb (st7 wr gR (ι sh) (ι wi) (ι ra) (ι ta) (.slice A n c) (.slice B m d) (.slice Ak j ck)) (st7 wr gR (ι sh) (ι wi) (ι ra) (ι ta) (.slice A n c) (.slice B m d) (.slice Ak j ck)).heap.size Ak sy):=by
    have h:=Rd.of_own (st7_own (a:= ι sh) (b:= ι wi) (c:= ι ra) (d:= ι ta) (e':= .slice A n c) (f:= .slice B m d) (h:= .slice Ak j ck) hown.out (g:=gR) (by omega));have e:sy.take j=sy:=by rw[hjk.out,hk.out,List.take_length]
    rw[e]at h;exact h
   have hend:=κ (madeCf_mk (sh:=sh) (wi:=wi) (ra:=ra) (ta:=ta) (c:=c) (d:=d) (f:=ck) hn.out hm.out (hjk.out.trans hk.out) NF.out UF.out SF.out bF);clear bF hown hO hbl b0
   go_wp2_with fail
   unfold st7 at c0 c1 c2 c3 c4 c5 c6 hend;exact bodyPost_ret (v:= .agg #[ι sh,ι wi,ι ra,ι ta,.slice A n c,.slice B m d,.slice Ak j ck]) (by simp[results,Tryz.results6,go_sem,c0,c1,c2,c3,c4,c5,c6]) rfl hend.out
end Rul5
end Go.Proofs.YtaeddnjjeholgaaGreat
