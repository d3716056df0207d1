/- Own work of the verifier: PvGen OgMath PiRowG PiImp OgBfs OgLabM OgK OtA OtB. -/
import Derived.Test.YtefajaiioljjoaaOvAS
import Derived.Test.YtefajaiioljjoaaOvAK
import Derived.ProofKit
import Derived.LaidMore
import Derived.OpenShut
import Derived.Stop.Joined
import Derived.Below
import Derived.Test.YtefajaiioljjoaaOvAO
set_option linter.all false
set_option exponentiation.threshold 3000
set_option linter.deprecated false
/- PLAIN VALUES: small facts of stores and lists. -/
namespace Go.PI
open IM
set_option maxRecDepth 10000
set_option maxHeartbeats 1000000
theorem push_get {σ0 : List StB} {b : StB} : (σ0 ++ [b])[σ0.length]? = some b := by simp
theorem push_set {σ0 : List StB} {b b' : StB} : (σ0 ++ [b]).set σ0.length b' = σ0 ++ [b'] := by simp
theorem push_cont {σ0 : List StB} {t : TypeId} {cs : List PV} : contOf (σ0 ++ [.live t cs]) σ0.length = some (t, cs) := by unfold contOf; rw [push_get]; rfl
theorem push_old {σ0 : List StB} {b : StB} {j : Nat} {x : StB} (h : σ0[j]? = some x) : (σ0 ++ [b])[j]? = some x := by
  rw [List.getElem?_append_left (List.getElem?_eq_some_iff.1 h).1]; exact h
theorem spl_one {cs : List PV} {i : Nat} {y : PV} (h : i < cs.length) : pspl cs i [y] = cs.set i y := by
  unfold pspl
  rw [List.set_eq_take_append_cons_drop, if_pos h]
  simp
theorem spl_at {cs : List PV} {i o : Nat} {y : PV} (ho : o = i) (h : i < cs.length) : pspl cs o [y] = cs.set i y := by rw [ho]; exact spl_one h
theorem load_liv {C : Ctx} {σ : List StB} {j o : Nat} {t t' : TypeId} {i : TI} {cs : List PV} {v : PV} (hj : σ[j]? = some (.liv t cs)) (hi : C.ty t' = some i) (hv : partP i cs o = some v) : ploadE C σ t' (.optr j o) = some v := by
  have h1 : contOf σ j = none := by unfold contOf; rw [hj]; rfl
  unfold ploadE
  rw [hi]
  simp only [h1, livOf_of hj]
  exact hv
theorem partc {σ : List StB} : ∀ {l : List (Nat × PV)} {K : List (Nat × PV) → List StB → Prop}, (l.all fun p => cloA p.2) = true → K l σ → PartK σ l K
  | [], _, _, h => ⟨h⟩
  | (i, p) :: l, K, hc, h => by
    simp only [List.all_cons, Bool.and_eq_true] at hc
    exact ⟨frzAK_clo hc.1 (partc (K := fun ps' σ'' => K ((i, p) :: ps') σ'') hc.2 h).out⟩
theorem Cm.ct {C : Ctx} {g : FuncId} {ps : List PV} {d : Nat} {Q : PV → List StB → Prop} {Q' : PV → Prop} (h : Cm C g ps [] d Q) (hq : ∀ r σ', Q r σ' → frzAK σ' r fun p _ => Q' p) : Ct C g ps d Q' := by
  intro H W avs hw hr hn
  have I : Sto H W d [] 0 W [] H := ⟨hn, Nat.zero_le _, Nat.le_refl _, Nat.le_refl _, fun _ _ => rfl, hw, fun _ h => h, fun _ h => .inl h, rfl, fun i b h => by simp at h, fun i t l b h => by simp at h, fun i t l b h => by simp at h, fun i j b h => by simp at h, fun i t l b h => by simp at h, fun i t l b h => by simp at h, fun i l b h => by simp at h⟩
  refine (h H W d 0 W [] H avs I (by omega) (RelVs.clo hr)).mono ?_
  rintro v H' ⟨r, σ', k', W', β', E, I', hv, hQ, hk⟩
  obtain ⟨p, σ2, W2, f, r2, hp⟩ := frzAK_ok (hq r σ' hQ) I' hv
  exact ⟨p, hp, r2.mono (fun _ _ _ => rfl) (fun A _ h => f.2.1.w0 A h), I'.lo, by have := I'.hi; omega, I'.keep⟩
def Wrt (σ σ' : List StB) (r : PV) (xs : List Int) : Prop :=
  ∃ j, (r = .own j 0 xs.length xs.length 1 ∨ r = .ownu j xs.length 1) ∧ σ'[j]? = some (.live 3 (xs.map pn)) ∧ σ.length ≤ j ∧ ∀ (i : Nat) (b : StB), σ[i]? = some b → σ'[i]? = some b
theorem Wrt.fz {σ σ' : List StB} {r : PV} {xs : List Int} (h : Wrt σ σ' r xs) : frzAK σ' r fun p _ => p = pIs xs := by
  obtain ⟨j, rfl | rfl, h1, -, -⟩ := h
  · exact ⟨3, _, _, contOf_live h1, ⟨by simp, Nat.le_refl _⟩, rfl, by show PV.lst _ _ = _; rw [List.drop_zero, List.take_of_length_le (by simp)]; rfl⟩
  · exact ⟨3, _, _, contOf_live h1, ⟨by simp, fun _ => rfl⟩, rfl, by show PV.lst _ _ = _; rw [List.take_of_length_le (by simp)]; rfl⟩
end Go.PI
/- PERMUTATIONS OF 0 TO n - 1: iterates, cycles, what a list of integers has to be for it. -/
namespace Go.PI
theorem len_le_of {α : Type} [DecidableEq α] : ∀ {l m : List α}, l.Nodup → (∀ x ∈ l, x ∈ m) → l.length ≤ m.length
  | [], m, _, _ => Nat.zero_le _
  | a :: l, m, hl, h => by
    have ha : a ∈ m := h a (by simp)
    have hn := List.nodup_cons.1 hl
    have := len_le_of (m := m.erase a) hn.2 fun x hx => (List.mem_erase_of_ne (fun e => hn.1 (by rw [← e]; exact hx))).2 (h x (by simp [hx]))
    rw [List.length_erase_of_mem ha] at this
    have hp := List.length_pos_of_mem ha
    simp only [List.length_cons]
    omega
theorem ex_least {P : Nat → Prop} (h : ∃ n, P n) : ∃ n, P n ∧ ∀ m, m < n → ¬ P m := by
  obtain ⟨n, hn⟩ := h
  induction n using Nat.strongRecOn with
  | ind n ih =>
    by_cases h : ∃ m, m < n ∧ P m
    · obtain ⟨m, h1, h2⟩ := h; exact ih m h1 h2
    · exact ⟨n, hn, fun m hm hp => h ⟨m, hm, hp⟩⟩
def PL (n : Nat) (f : Nat → Nat) : List Int := (List.range n).map fun i => (f i : Int)
structure IsP (n : Nat) (f g : Nat → Nat) : Prop where
  lt : ∀ i, i < n → f i < n
  glt : ∀ i, i < n → g i < n
  gf : ∀ i, i < n → g (f i) = i
  fg : ∀ i, i < n → f (g i) = i
theorem IsP.inv {n : Nat} {f g : Nat → Nat} (h : IsP n f g) : IsP n g f := ⟨h.glt, h.lt, h.fg, h.gf⟩
theorem IsP.comp {n : Nat} {f g f' g' : Nat → Nat} (h : IsP n f g) (k : IsP n f' g') : IsP n (fun i => f' (f i)) (fun i => g (g' i)) :=
  ⟨fun i hi => k.lt _ (h.lt i hi), fun i hi => h.glt _ (k.glt i hi), fun i hi => by show g (g' (f' (f i))) = i; rw [k.gf _ (h.lt i hi), h.gf i hi], fun i hi => by show f' (f (g (g' i))) = i; rw [h.fg _ (k.glt i hi), k.fg i hi]⟩
theorem IsP.inj {n : Nat} {f g : Nat → Nat} (h : IsP n f g) {i j : Nat} (hi : i < n) (hj : j < n) (e : f i = f j) : i = j := by rw [← h.gf i hi, e, h.gf j hj]
theorem PL_len {n : Nat} {f : Nat → Nat} : (PL n f).length = n := by simp [PL]
theorem PL_get {n : Nat} {f : Nat → Nat} {i : Nat} (h : i < n) : (PL n f)[i]? = some (f i : Int) := by simp [PL, h]
theorem PL_ext {n : Nat} {f : Nat → Nat} {xs : List Int} (hl : xs.length = n) (h : ∀ i, i < n → xs[i]? = some (f i : Int)) : xs = PL n f := by
  refine List.ext_getElem? fun i => ?_
  by_cases hi : i < n
  · rw [h i hi, PL_get hi]
  · rw [List.getElem?_eq_none (by omega), List.getElem?_eq_none (by rw [PL_len]; omega)]
def InR (xs : List Int) : Prop := ∀ x ∈ xs, 0 ≤ x ∧ x < xs.length
open Classical in
noncomputable def chkP (xs : List Int) : Int := if InR xs then if xs.Nodup then 0 else 3 else 2
theorem surj_of {xs : List Int} (h1 : InR xs) (h2 : xs.Nodup) {i : Nat} (hi : i < xs.length) : (i : Int) ∈ xs := by
  by_cases h : (i : Int) ∈ xs
  · exact h
  · exfalso
    have := len_le_of (l := (i : Int) :: xs) (m := List.map (fun k : Nat => (k : Int)) (List.range xs.length)) (List.nodup_cons.2 ⟨h, h2⟩) fun x hx => by
      rcases List.mem_cons.1 hx with rfl | hx
      · exact List.mem_map.2 ⟨i, List.mem_range.2 hi, rfl⟩
      · obtain ⟨a, b⟩ := h1 x hx
        exact List.mem_map.2 ⟨x.toNat, List.mem_range.2 (by omega), by omega⟩
    simp only [List.length_cons, List.length_map, List.length_range] at this
    omega
theorem perm_of {xs : List Int} (h1 : InR xs) (h2 : xs.Nodup) : ∃ f g, xs = PL xs.length f ∧ IsP xs.length f g := by
  have hget : ∀ i, i < xs.length → xs[i]? = some (((xs.getD i 0).toNat : Nat) : Int) := fun i hi => by
    have e := List.getElem?_eq_getElem hi
    have := h1 _ (List.getElem_mem hi)
    rw [List.getD_eq_getElem?_getD, e]
    simp only [Option.getD_some]
    congr 1
    omega
  have hin : ∀ i, i < xs.length → (xs.getD i 0).toNat < xs.length := fun i hi => by
    have := h1 _ (List.mem_of_getElem? (hget i hi))
    omega
  have hidx : ∀ i, i < xs.length → xs.idxOf (i : Int) < xs.length := fun i hi => List.idxOf_lt_length_of_mem (surj_of h1 h2 hi)
  have hat : ∀ i, i < xs.length → xs[xs.idxOf (i : Int)]? = some (i : Int) := fun i hi => by
    rw [List.getElem?_eq_getElem (hidx i hi), List.getElem_idxOf]
  refine ⟨fun i => (xs.getD i 0).toNat, fun i => xs.idxOf (i : Int), PL_ext rfl hget, hin, hidx, fun i hi => ?_, fun i hi => ?_⟩
  · have a := hat _ (hin i hi)
    rw [← hget i hi] at a
    exact (List.getElem?_inj (hidx _ (hin i hi)) h2).1 a
  · have a := hget _ (hidx i hi)
    rw [hat i hi] at a
    simp only [Option.some.injEq] at a
    omega
theorem inR_PL {n : Nat} {f g : Nat → Nat} (h : IsP n f g) : InR (PL n f) := fun x hx => by
  rw [PL_len]
  obtain ⟨i, hi, rfl⟩ := List.mem_map.1 hx
  have := h.lt i (List.mem_range.1 hi)
  omega
theorem chk2 {xs : List Int} (h : ¬ InR xs) : chkP xs = 2 := by unfold chkP; rw [if_neg h]
theorem chk3 {xs : List Int} (h : InR xs) (h2 : ¬ xs.Nodup) : chkP xs = 3 := by unfold chkP; rw [if_pos h, if_neg h2]
theorem chk0 {xs : List Int} (h : InR xs) (h2 : xs.Nodup) : chkP xs = 0 := by unfold chkP; rw [if_pos h, if_pos h2]
theorem chkP_cases (xs : List Int) : (chkP xs = 0 ∧ InR xs ∧ xs.Nodup) ∨ chkP xs = 3 ∨ chkP xs = 2 := by
  by_cases h : InR xs
  · by_cases h2 : xs.Nodup
    · exact .inl ⟨chk0 h h2, h, h2⟩
    · exact .inr (.inl (chk3 h h2))
  · exact .inr (.inr (chk2 h))
def it (f : Nat → Nat) : Nat → Nat → Nat
  | 0, x => x
  | k + 1, x => f (it f k x)
section
variable {n : Nat} {f g : Nat → Nat} {x y : Nat}
theorem it_add (f : Nat → Nat) (a b x : Nat) : it f (a + b) x = it f a (it f b x) := by
  induction a with
  | zero => simp [it]
  | succ a ih => rw [show a + 1 + b = a + b + 1 by omega]; simp only [it]; rw [ih]
theorem it_succ' (f : Nat → Nat) (k x : Nat) : it f (k + 1) x = it f k (f x) := it_add f k 1 x
theorem it_lt (h : IsP n f g) (hx : x < n) (k : Nat) : it f k x < n := by
  induction k with
  | zero => exact hx
  | succ k ih => exact h.lt _ ih
theorem it_inj (h : IsP n f g) (hx : x < n) (hy : y < n) : ∀ {k : Nat}, it f k x = it f k y → x = y
  | 0, e => e
  | k + 1, e => it_inj h hx hy (h.inj (it_lt h hx k) (it_lt h hy k) e)
theorem it_mul {m : Nat} (h : it f m x = x) (q : Nat) : it f (m * q) x = x := by
  induction q with
  | zero => rfl
  | succ q ih => rw [Nat.mul_succ, it_add, h, ih]
theorem returns (h : IsP n f g) (hx : x < n) : ∃ m, 0 < m ∧ m ≤ n ∧ it f m x = x := by
  by_cases hc : ∃ a b, a < b ∧ b ≤ n ∧ it f a x = it f b x
  · obtain ⟨a, b, h1, h2, h3⟩ := hc
    refine ⟨b - a, by omega, by omega, ?_⟩
    have e : it f b x = it f a (it f (b - a) x) := by rw [← it_add]; congr 1; omega
    rw [e] at h3
    exact (it_inj h hx (it_lt h hx _) h3).symm
  · exfalso
    have hd : ((List.range (n + 1)).map fun k => it f k x).Nodup := by
      unfold List.Nodup
      rw [List.pairwise_map]
      exact List.pairwise_lt_range.imp_of_mem fun {a b} _ hb hab e => hc ⟨a, b, hab, by have := List.mem_range.1 hb; omega, e⟩
    have := len_le_of hd (m := List.range n) fun y hy => by
      obtain ⟨k, -, rfl⟩ := List.mem_map.1 hy
      exact List.mem_range.2 (it_lt h hx k)
    simp only [List.length_map, List.length_range] at this
    omega
open Classical in
/-- the length of a cycle -/
noncomputable def ordr (f : Nat → Nat) (x : Nat) : Nat := if h : ∃ m, 0 < m ∧ it f m x = x then (ex_least h).choose else 0
theorem ordr_spec (h : IsP n f g) (hx : x < n) : 0 < ordr f x ∧ it f (ordr f x) x = x ∧ ordr f x ≤ n ∧ ∀ m, 0 < m → m < ordr f x → it f m x ≠ x := by
  obtain ⟨m, h1, h2, h3⟩ := returns h hx
  have he : ∃ m, 0 < m ∧ it f m x = x := ⟨m, h1, h3⟩
  have hs := (ex_least he).choose_spec
  have e : ordr f x = (ex_least he).choose := by unfold ordr; rw [dif_pos he]
  rw [← e] at hs
  refine ⟨hs.1.1, hs.1.2, ?_, fun m a b c => hs.2 m b ⟨a, c⟩⟩
  refine Nat.le_trans (Nat.le_of_not_lt fun hlt => ?_) h2
  exact hs.2 m hlt ⟨h1, h3⟩
def InC (f : Nat → Nat) (x y : Nat) : Prop := ∃ k, it f k x = y
theorem InC.refl (f : Nat → Nat) (x : Nat) : InC f x x := ⟨0, rfl⟩
theorem InC.trans {z : Nat} (a : InC f x y) (b : InC f y z) : InC f x z := by
  obtain ⟨k, rfl⟩ := a
  obtain ⟨m, rfl⟩ := b
  exact ⟨m + k, it_add f m k x⟩
theorem InC.symm (h : IsP n f g) (hx : x < n) (a : InC f x y) : InC f y x := by
  obtain ⟨k, rfl⟩ := a
  obtain ⟨h1, h2, -⟩ := ordr_spec h hx
  refine ⟨ordr f x * k - k, ?_⟩
  have : k ≤ ordr f x * k := Nat.le_mul_of_pos_left k h1
  rw [← it_add, show ordr f x * k - k + k = ordr f x * k by omega, it_mul h2]
noncomputable def cyc (f : Nat → Nat) (x : Nat) : List Int := (List.range (ordr f x)).map fun k => ((it f k x : Nat) : Int)
theorem cyc_len : (cyc f x).length = ordr f x := by simp [cyc]
theorem mem_cyc (h : IsP n f g) (hx : x < n) {v : Int} : v ∈ cyc f x ↔ ∃ y : Nat, v = y ∧ InC f x y := by
  constructor
  · intro hv
    obtain ⟨k, -, rfl⟩ := List.mem_map.1 hv
    exact ⟨_, rfl, k, rfl⟩
  · rintro ⟨y, rfl, k, rfl⟩
    obtain ⟨h1, h2, -⟩ := ordr_spec h hx
    refine List.mem_map.2 ⟨k % ordr f x, List.mem_range.2 (Nat.mod_lt _ h1), ?_⟩
    have : it f k x = it f (k % ordr f x) x := by
      conv => lhs; rw [← Nat.mod_add_div k (ordr f x)]
      rw [it_add, it_mul h2]
    rw [this]
def lead (f : Nat → Nat) (x : Nat) : Prop := ∀ y, InC f x y → x ≤ y
open Classical in
/-- the cycles -/
noncomputable def cycs (n : Nat) (f : Nat → Nat) : List (List Int) := ((List.range n).filter fun x => decide (lead f x)).map fun x => cyc f x
open Classical in
theorem cycs_step {i : Nat} : cycs (i + 1) f = if lead f i then cycs i f ++ [cyc f i] else cycs i f := by
  unfold cycs
  rw [List.range_succ, List.filter_append]
  by_cases h : lead f i
  · simp [h]
  · simp [h]
end
end Go.PI
/- FROM THE INTERPRETER's WORD TO A ROW. -/
namespace Go.PI
open Go.ChangeShapes Go.WideShapes Go.ChangeAt Go.RowKit
theorem post_of_below {H : Type} {enc : TypeId × Value → H} {P : Program} {f : Func} {s : ChangeSpec} {apart fresh handsOn again : Bool} {W W' : World} {args : Array Value} {v : Value} {ds gs : List (DataW H)} {before pa pv : List MemPlace}
    (hW : DataW.Whole enc P f.params.toList s.vars apart W args.toList ds gs before)
    (hres : ∀ (b : Nat) (sp : Nat → Bool) (hd : Bool), DataW.TrodAll enc P W' b sp hd f.resultTypes.toList (v.resultList f.resultTypes.size) (s.fn H (ds ++ gs)).results [])
    (hargs : ∀ sp : Nat → Bool, (∀ p ∈ before, sp p.block = true) → DataW.TrodAll enc P W' 0 sp true f.params.toList args.toList (s.fn H (ds ++ gs)).args pa)
    (hvars : ∀ sp : Nat → Bool, (∀ p ∈ before, sp p.block = true) → DataW.TrodVars enc P W' sp s.vars (s.fn H (ds ++ gs)).vars pv)
    (hps : before = pa ++ pv) (hB : Below W.heap.size W W')
    (hok : ∀ (j : Nat) (t : TypeId) (r : Value), f.resultTypes[j]? = some t → (v.resultList f.resultTypes.size)[j]? = some r → Value.okWide P W' .any 0 t r) :
    s.post enc P f apart fresh handsOn again W args v W' := by
  have hold : ∀ p ∈ before, (fun b => decide (b < W.heap.size)) p.block = true := fun p hp => by simpa using hW.lt p hp
  have hlt := fun p hp => hW.lt p hp
  refine ⟨ds, gs, before, [], pa, pv, hW, hres _ _ _, hargs _ hold, hvars _ hold, World.keptBut_mono (fun p hp => ⟨hp, ?_⟩) (hB.frame (· ∈ before)), fun _ => ?_⟩
  · rw [hps, List.mem_append] at hp
    exact Or.inr hp
  · obtain ⟨_, _, _, _, _, hz, hn⟩ := hW
    refine ⟨hok, _, _, ([] ++ pa) ++ pv, ⟨[] ++ pa, pv, trodAll_append (hargs _ (fun _ _ => rfl)) (hres _ _ _), hvars _ (fun _ _ => rfl), rfl, ?_, ?_⟩, ?_⟩
    · intro b off hp
      have hp2 := hz b off (by rw [hps]; simpa using hp)
      have hp3 := hlt _ (by rw [hps]; simpa using hp)
      rw [hB.frozen (p := ⟨b, off, none⟩) hp3]
      exact hp2
    · intro ha
      have := hn ha
      rw [hps] at this
      simpa using this
    · intro p hp _
      rw [hps]
      simpa using hp
end Go.PI
/- ARGUMENTS: slices of integers that came in, as blocks that are only read. -/
namespace Go.PI
open Go.ChangeShapes Go.WideShapes Go.ChangeAt Go.RowKit
def NoOwn (H : Heap) : Prop := ∀ A, (H.get A).own = false
structure Imp (W : World) (μ : M) (H : Heap) : Prop where
  hr : HR μ H W
  no : NoOwn H
theorem below_of {μ : M} {H H' : Heap} {w w' : World} {v : AV} {u : Value} (hno : NoOwn H) (h : EffR μ H w v H' u w') : Below w.heap.size w w' := by
  obtain ⟨μ', -, -, hf⟩ := h
  refine ⟨hf.os, hf.tape, hf.output, hf.size, fun k hk => (hf.keep k hk ?_).1⟩
  rintro ⟨A, a, ho, -⟩
  rw [hno A] at ho
  cases ho
theorem imp0 (W : World) : Imp W (fun _ => none) ⟨0, .nil⟩ :=
  ⟨⟨by simp [PI.lim], fun _ _ => rfl, fun A bi hl hm => (by cases hm), fun A B a b _ _ _ hm => (by cases hm)⟩, fun A => by unfold Heap.get; simp [Blk.own]⟩
theorem Imp.push {W : World} {μ : M} {H : Heap} (h : Imp W μ H) (hn : H.n < lim) {bi : BI} {b : Blk} (ho : b.own = false) (hb : b.live = true → bi.c < W.heap.size ∧ BlkR (μ.set H.n bi) W bi b) :
    Imp W (μ.set H.n bi) (H.push b) ∧ M.le μ (μ.set H.n bi) := by
  have hle : M.le μ (μ.set H.n bi) := M.le_set (h.hr.dom _ (Nat.le_refl _))
  have hp := Heap.get_push (H := H) (b := b) hn
  refine ⟨⟨⟨?_, ?_, ?_, ?_⟩, ?_⟩, hle⟩
  · show H.n + 1 ≤ lim
    omega
  · intro A hA
    have hA : H.n + 1 ≤ A := hA
    unfold M.set
    rw [if_neg (by omega)]
    exact h.hr.dom A (by omega)
  · intro A bj hl hm
    rw [hp] at hl ⊢
    by_cases hA : A = H.n
    · subst hA
      rw [if_pos rfl] at hl ⊢
      rw [M.set_self] at hm
      cases hm
      exact hb hl
    · rw [if_neg hA] at hl ⊢
      unfold M.set at hm
      rw [if_neg hA] at hm
      obtain ⟨h1, h2⟩ := h.hr.blk A bj hl hm
      exact ⟨h1, h2.mono hle rfl⟩
  · intro A B a b' hAB hA
    rw [hp] at hA
    by_cases hA' : A = H.n
    · rw [if_pos hA', ho] at hA; cases hA
    · rw [if_neg hA', h.no A] at hA; cases hA
  · intro A
    rw [hp]
    by_cases hA : A = H.n
    · rw [if_pos hA]; exact ho
    · rw [if_neg hA]; exact h.no A
def slen : AV → Option Nat
  | .nils | .sle => some 0
  | .sl _ _ n _ | .slu _ _ n _ => some n
  | _ => none
def Seen (H : Heap) (v : AV) (xs : List Int) : Prop := slen v = some xs.length ∧ (xs.length ≤ 1000 → Sl H v xs)
theorem Seen.mono {H H' : Heap} {v : AV} {xs : List Int} (h : Seen H v xs) (k : ∀ A, A < H.n → H'.get A = H.get A) : Seen H' v xs := ⟨h.1, fun hl => (h.2 hl).mono k⟩
theorem cell_zero {W : World} {a : Addr} {v : Value} (h : W.cell? (a.add 0) = some v) : a = ⟨a.block, a.off, none⟩ := by
  obtain ⟨b, o, s⟩ := a
  cases s with
  | none => rfl
  | some s =>
    unfold World.cell? at h
    simp only [Addr.add, if_true] at h
    split at h
    · simp at h
    · cases h
theorem cell_row {W : World} {b o i : Nat} {v : Value} (h : W.cell? (Addr.add ⟨b, o, none⟩ i) = some v) : ∃ carr ty fz, W.heap[b]? = some (.cells carr ty fz) ∧ carr[o + i]? = some v := by
  have e : Addr.add ⟨b, o, none⟩ i = ⟨b, o + i, none⟩ := by
    unfold Addr.add
    split
    · rename_i h0; subst h0; rfl
    · rfl
  rw [e] at h
  unfold World.cell? at h
  split at h
  · rename_i carr ty fz hc
    exact ⟨carr, ty, fz, hc, by simpa using h⟩
  · cases h
end Go.PI
/- SQUARES in the order in which they are reached. -/
namespace Go.PI
def addL (xs : List Nat) (x : Nat) : List Nat := if x ∈ xs then xs else xs ++ [x]
theorem addL_mem {xs : List Nat} {x y : Nat} : y ∈ addL xs x ↔ y ∈ xs ∨ y = x := by
  unfold addL
  by_cases h : x ∈ xs
  · rw [if_pos h]
    exact ⟨.inl, fun a => by rcases a with a | rfl; exact a; exact h⟩
  · rw [if_neg h]; simp
theorem addL_nodup {xs : List Nat} {x : Nat} (h : xs.Nodup) : (addL xs x).Nodup := by
  unfold addL
  by_cases hx : x ∈ xs
  · rw [if_pos hx]; exact h
  · rw [if_neg hx]
    exact List.nodup_append.2 ⟨h, by simp, fun a ha b hb => by rw [List.mem_singleton.1 hb]; rintro rfl; exact hx ha⟩
theorem addL_pre {xs : List Nat} {x : Nat} : xs <+: addL xs x := by
  unfold addL
  by_cases hx : x ∈ xs
  · rw [if_pos hx]; exact List.prefix_refl _
  · rw [if_neg hx]; exact List.prefix_append _ _
theorem addL_get {xs : List Nat} {x y p : Nat} (h : (addL xs x)[p]? = some y) : xs[p]? = some y ∨ (p = xs.length ∧ y = x) := by
  unfold addL at h
  by_cases hx : x ∈ xs
  · rw [if_pos hx] at h; exact .inl h
  · rw [if_neg hx] at h
    rcases Nat.lt_trichotomy p xs.length with a | a | a
    · rw [List.getElem?_append_left a] at h; exact .inl h
    · subst a; simp at h; exact .inr ⟨rfl, h.symm⟩
    · rw [List.getElem?_eq_none (by simp; omega)] at h; cases h
section
variable (f g : Nat → Nat) (s : Nat)
def nxt (xs : List Nat) (i : Nat) : List Nat :=
  match xs[i]? with
  | some x => addL (addL xs (f x)) (g x)
  | none => xs
def bfs : Nat → List Nat
  | 0 => [s]
  | i + 1 => nxt f g (bfs i) i
inductive Rch : Nat → Prop
  | refl : Rch s
  | f {y : Nat} (h : Rch y) : Rch (f y)
  | g {y : Nat} (h : Rch y) : Rch (g y)
def RchK : Nat → Nat → Prop
  | 0, y => y = s
  | k + 1, y => RchK k y ∨ ∃ z, RchK k z ∧ (y = f z ∨ y = g z)
end
section
variable {f g : Nat → Nat} {s : Nat}
theorem nxt_at {xs : List Nat} {i x : Nat} (h : xs[i]? = some x) : nxt f g xs i = addL (addL xs (f x)) (g x) := by unfold nxt; rw [h]
theorem nxt_pre {xs : List Nat} {i : Nat} : xs <+: nxt f g xs i := by
  unfold nxt
  split
  · exact List.IsPrefix.trans addL_pre addL_pre
  · exact List.prefix_refl _
theorem bfs_pre : ∀ (k : Nat) {i : Nat}, bfs f g s i <+: bfs f g s (i + k)
  | 0, _ => List.prefix_refl _
  | k + 1, i => List.IsPrefix.trans (bfs_pre k) (show bfs f g s (i + k) <+: nxt f g (bfs f g s (i + k)) (i + k) from nxt_pre)
theorem bfs_nodup : ∀ i, (bfs f g s i).Nodup
  | 0 => by simp [bfs]
  | i + 1 => by
    show (nxt f g (bfs f g s i) i).Nodup
    unfold nxt
    split
    · exact addL_nodup (addL_nodup (bfs_nodup i))
    · exact bfs_nodup i
theorem bfs_lt {n : Nat} {f' g' : Nat → Nat} (pf : IsP n f f') (pg : IsP n g g') (hs : s < n) : ∀ i, ∀ y ∈ bfs f g s i, y < n
  | 0, y, hy => by rw [List.mem_singleton.1 hy]; exact hs
  | i + 1, y, hy => by
    have ih := bfs_lt pf pg hs i
    change y ∈ nxt f g (bfs f g s i) i at hy
    unfold nxt at hy
    split at hy
    · rename_i x hx
      have hxn := ih x (List.mem_of_getElem? hx)
      rcases addL_mem.1 hy with hy | rfl
      · rcases addL_mem.1 hy with hy | rfl
        · exact ih y hy
        · exact pf.lt x hxn
      · exact pg.lt x hxn
    · exact ih y hy
theorem bfs_len {n : Nat} {f' g' : Nat → Nat} (pf : IsP n f f') (pg : IsP n g g') (hs : s < n) (i : Nat) : (bfs f g s i).length ≤ n := by
  have := len_le_of (bfs_nodup (f := f) (g := g) (s := s) i) (m := List.range n) fun y hy => List.mem_range.2 (bfs_lt pf pg hs i y hy)
  rwa [List.length_range] at this
theorem bfs_get {i p k y : Nat} (h : (bfs f g s i)[p]? = some y) : (bfs f g s (i + k))[p]? = some y := by
  obtain ⟨t, ht⟩ := bfs_pre (f := f) (g := g) (s := s) k (i := i)
  rw [← ht, List.getElem?_append_left (List.getElem?_eq_some_iff.1 h).1]
  exact h
theorem bfs_mem {i k y : Nat} (h : y ∈ bfs f g s i) : y ∈ bfs f g s (i + k) := (bfs_pre (f := f) (g := g) (s := s) k (i := i)).subset h
theorem bfs_steps {i p y : Nat} (hp : p < i) (h : (bfs f g s i)[p]? = some y) : f y ∈ bfs f g s i ∧ g y ∈ bfs f g s i := by
  have hy : (bfs f g s p)[p]? = some y ∨ p ≥ (bfs f g s p).length := by
    rcases Nat.lt_or_ge p (bfs f g s p).length with a | a
    · obtain ⟨z, hz⟩ : ∃ z, (bfs f g s p)[p]? = some z := ⟨_, List.getElem?_eq_getElem a⟩
      have := bfs_get (k := i - p) hz
      rw [show p + (i - p) = i by omega, h] at this
      cases this
      exact .inl hz
    · exact .inr a
  rcases hy with hy | hy
  · have e : bfs f g s (p + 1) = addL (addL (bfs f g s p) (f y)) (g y) := nxt_at hy
    have h1 : f y ∈ bfs f g s (p + 1) := by rw [e, addL_mem, addL_mem]; exact .inl (.inr rfl)
    have h2 : g y ∈ bfs f g s (p + 1) := by rw [e, addL_mem]; exact .inr rfl
    have a := bfs_mem (k := i - (p + 1)) h1
    have b := bfs_mem (k := i - (p + 1)) h2
    rw [show p + 1 + (i - (p + 1)) = i by omega] at a b
    exact ⟨a, b⟩
  · exfalso
    have hst : ∀ k, bfs f g s (p + k) = bfs f g s p := by
      intro k
      induction k with
      | zero => rfl
      | succ k ih =>
        show nxt f g (bfs f g s (p + k)) (p + k) = _
        rw [ih]
        unfold nxt
        rw [List.getElem?_eq_none (by omega)]
    have := hst (i - p)
    rw [show p + (i - p) = i by omega] at this
    rw [this, List.getElem?_eq_none hy] at h
    cases h
theorem bfs_all {k : Nat} (h : (bfs f g s k).length ≤ k) {y : Nat} (hy : Rch f g s y) : y ∈ bfs f g s k := by
  induction hy with
  | refl =>
    have := bfs_mem (k := k) (show s ∈ bfs f g s 0 by simp [bfs])
    rwa [Nat.zero_add] at this
  | f _ ih =>
    obtain ⟨p, hp⟩ := List.getElem?_of_mem ih
    have := (List.getElem?_eq_some_iff.1 hp).1
    exact (bfs_steps (by omega) hp).1
  | g _ ih =>
    obtain ⟨p, hp⟩ := List.getElem?_of_mem ih
    have := (List.getElem?_eq_some_iff.1 hp).1
    exact (bfs_steps (by omega) hp).2
theorem rchK_mono {k y : Nat} : ∀ m, RchK f g s k y → RchK f g s (k + m) y
  | 0, h => h
  | m + 1, h => .inl (rchK_mono m h)
theorem rchK_rch : ∀ {k y : Nat}, RchK f g s k y → Rch f g s y
  | 0, _, h => by rw [show _ = s from h]; exact .refl
  | k + 1, y, h => by
    rcases h with h | ⟨z, h, rfl | rfl⟩
    · exact rchK_rch h
    · exact .f (rchK_rch h)
    · exact .g (rchK_rch h)
theorem bfs_dist : ∀ (i p y : Nat), (bfs f g s i)[p]? = some y → RchK f g s p y
  | 0, p, y, h => by
    cases p with
    | zero => simp [bfs] at h; exact h.symm
    | succ p => simp [bfs] at h
  | i + 1, p, y, h => by
    change (nxt f g (bfs f g s i) i)[p]? = some y at h
    unfold nxt at h
    split at h
    · rename_i x hx
      have hxi := (List.getElem?_eq_some_iff.1 hx).1
      have hxd := bfs_dist i i x hx
      rcases addL_get h with h | ⟨hp, rfl⟩
      · rcases addL_get h with h | ⟨hp, rfl⟩
        · exact bfs_dist i p y h
        · have : RchK f g s (i + 1) (f x) := .inr ⟨x, hxd, .inl rfl⟩
          have := rchK_mono (p - (i + 1)) this
          rwa [show i + 1 + (p - (i + 1)) = p by omega] at this
      · have h1 : (bfs f g s i).length ≤ (addL (bfs f g s i) (f x)).length := (addL_pre (xs := bfs f g s i) (x := f x)).length_le
        have : RchK f g s (i + 1) (g x) := .inr ⟨x, hxd, .inr rfl⟩
        have := rchK_mono (p - (i + 1)) this
        rwa [show i + 1 + (p - (i + 1)) = p by omega] at this
    · exact bfs_dist i p y h
theorem bfs_rch {i y : Nat} (h : y ∈ bfs f g s i) : Rch f g s y := by
  obtain ⟨p, hp⟩ := List.getElem?_of_mem h
  exact rchK_rch (bfs_dist i p y hp)
theorem bfs_iff {k : Nat} (h : (bfs f g s k).length ≤ k) {y : Nat} : y ∈ bfs f g s k ↔ Rch f g s y := ⟨bfs_rch, bfs_all h⟩
theorem Rch.trans {y z : Nat} (a : Rch f g s y) (b : Rch f g y z) : Rch f g s z := by
  induction b with
  | refl => exact a
  | f _ ih => exact .f ih
  | g _ ih => exact .g ih
theorem Rch.itf {k y : Nat} (h : Rch f g s y) : Rch f g s (it f k y) := by
  induction k with
  | zero => exact h
  | succ k ih => exact .f ih
theorem Rch.itg {k y : Nat} (h : Rch f g s y) : Rch f g s (it g k y) := by
  induction k with
  | zero => exact h
  | succ k ih => exact .g ih
theorem rch_lt {n : Nat} {f' g' : Nat → Nat} (pf : IsP n f f') (pg : IsP n g g') (hs : s < n) {y : Nat} (h : Rch f g s y) : y < n := by
  induction h with
  | refl => exact hs
  | f _ ih => exact pf.lt _ ih
  | g _ ih => exact pg.lt _ ih
theorem Rch.symm {n : Nat} {f' g' : Nat → Nat} (pf : IsP n f f') (pg : IsP n g g') (hs : s < n) {y : Nat} (h : Rch f g s y) : Rch f g y s := by
  induction h with
  | refl => exact .refl
  | @f z hz ih =>
    have hzn := rch_lt pf pg hs hz
    obtain ⟨k, hk⟩ := InC.symm pf hzn (⟨1, rfl⟩ : InC f z (f z))
    exact (show Rch f g (f z) z by have := Rch.itf (g := g) (k := k) (.refl : Rch f g (f z) (f z)); rwa [hk] at this).trans ih
  | @g z hz ih =>
    have hzn := rch_lt pf pg hs hz
    obtain ⟨k, hk⟩ := InC.symm pg hzn (⟨1, rfl⟩ : InC g z (g z))
    exact (show Rch f g (g z) z by have := Rch.itg (f := f) (k := k) (.refl : Rch f g (g z) (g z)); rwa [hk] at this).trans ih
end
def Conn (n : Nat) (f g : Nat → Nat) : Prop := ∀ y, y < n → Rch f g 0 y
theorem conn_len {n : Nat} {f f' g g' : Nat → Nat} (pf : IsP n f f') (pg : IsP n g g') (h0 : 0 < n) {k : Nat} (h : (bfs f g 0 k).length ≤ k) : (bfs f g 0 k).length = n ↔ Conn n f g := by
  have hle := bfs_len pf pg h0 k
  constructor
  · intro e y hy
    rw [← bfs_iff h]
    refine Classical.byContradiction fun hc => ?_
    have := len_le_of (List.nodup_cons.2 ⟨hc, bfs_nodup k⟩) (m := List.range n) fun z hz => by
      rcases List.mem_cons.1 hz with rfl | hz
      · exact List.mem_range.2 hy
      · exact List.mem_range.2 (bfs_lt pf pg h0 k z hz)
    simp only [List.length_cons, List.length_range] at this
    omega
  · intro hc
    have := len_le_of (l := List.range n) (m := bfs f g 0 k) (by unfold List.Nodup; exact List.pairwise_lt_range.imp fun h e => by omega) fun y hy => (bfs_iff h).2 (hc y (List.mem_range.1 hy))
    rw [List.length_range] at this
    omega
end Go.PI
/- NUMBERINGS AND LABELS: what they are. -/
namespace Go.PI
set_option maxRecDepth 10000
set_option maxHeartbeats 4000000
def es (f g : Nat → Nat) (n s k : Nat) : Nat := (bfs f g s n).getD k 0
def ei (f g : Nat → Nat) (n s x : Nat) : Nat := (bfs f g s n).idxOf x
def rn (e e' f : Nat → Nat) (k : Nat) : Nat := e' (f (e k))
end Go.PI
/- CONJUGATE PERMUTATIONS have cycles of the same lengths; quotients rounded down. -/
namespace Go.PI
section
variable {n : Nat} {c c' d d' h h' : Nat → Nat}
def Conj (n : Nat) (c d h : Nat → Nat) : Prop := ∀ x, x < n → d (h x) = h (c x)
theorem Conj.inv (hc : IsP n c c') (hh : IsP n h h') (k : Conj n c d h) (hd : IsP n d d') : Conj n d c h' := fun x hx => by
  have := k (h' x) (hh.glt x hx)
  rw [hh.fg x hx] at this
  rw [this, hh.gf _ (hc.lt _ (hh.glt x hx))]
end
def FloorIs (p q k : Int) : Prop := ∃ m, p = k * q + m ∧ (0 < q → 0 ≤ m ∧ m < q) ∧ (q < 0 → q < m ∧ m ≤ 0)
end Go.PI
/- LATTICES of the plane: what two or three vectors span; normal forms. -/
namespace Go.PI
def Ltt (A B C x y : Int) : Prop := ∃ i j : Int, x = i * A + j * B ∧ y = j * C
def Spn (A B C X Y x y : Int) : Prop := ∃ i j k : Int, x = i * A + j * B + k * X ∧ y = j * C + k * Y
theorem bezN (a b : Nat) : ∃ i j : Int, (Nat.gcd a b : Int) = i * a + j * b := by
  induction a, b using Nat.gcd.induction with
  | H0 n => exact ⟨0, 1, by simp⟩
  | H1 m n hm ih =>
    obtain ⟨i, j, h⟩ := ih
    refine ⟨j - i * ((n / m : Nat) : Int), i, ?_⟩
    rw [Nat.gcd_rec, h]
    have e : ((n % m : Nat) : Int) = n - m * ((n / m : Nat) : Int) := by
      have := Nat.div_add_mod n m
      have h2 : ((m * (n / m) + n % m : Nat) : Int) = n := by rw [this]
      rw [Int.natCast_add, Int.natCast_mul] at h2
      omega
    rw [e, Int.mul_sub, Int.sub_mul, Int.mul_comm (m : Int) _, Int.mul_assoc]
    omega
theorem bezZ (a b : Int) : ∃ i j : Int, (Nat.gcd a.natAbs b.natAbs : Int) = i * a + j * b := by
  obtain ⟨i, j, h⟩ := bezN a.natAbs b.natAbs
  have s : ∀ z : Int, ∃ e : Int, (z.natAbs : Int) = e * z := fun z => by
    rcases Int.natAbs_eq z with h | h
    · exact ⟨1, by omega⟩
    · exact ⟨-1, by omega⟩
  obtain ⟨e1, h1⟩ := s a
  obtain ⟨e2, h2⟩ := s b
  exact ⟨i * e1, j * e2, by rw [h, h1, h2, Int.mul_assoc, Int.mul_assoc]⟩
theorem spn_step {A B C X Y q x y : Int} : Spn A X Y (B - q * X) (C - q * Y) x y ↔ Spn A B C X Y x y := by
  constructor
  · rintro ⟨i, j, k, rfl, rfl⟩
    refine ⟨i, k, j - k * q, ?_, ?_⟩
    · rw [Int.mul_sub, Int.sub_mul, Int.mul_assoc]; omega
    · rw [Int.mul_sub, Int.sub_mul, Int.mul_assoc]; omega
  · rintro ⟨i, j, k, rfl, rfl⟩
    refine ⟨i, k + j * q, j, ?_, ?_⟩
    · rw [Int.mul_sub, Int.add_mul, Int.mul_assoc]; omega
    · rw [Int.mul_sub, Int.add_mul, Int.mul_assoc]; omega
theorem spn_end {A B C X x y : Int} : Spn A B C X 0 x y ↔ Ltt (Nat.gcd A.natAbs X.natAbs : Nat) B C x y := by
  have hd : ∀ z : Int, (Nat.gcd A.natAbs X.natAbs) ∣ z.natAbs → ∃ t, z = t * (Nat.gcd A.natAbs X.natAbs : Nat) := fun z hz => by
    obtain ⟨t, ht⟩ := Int.ofNat_dvd_left.2 hz
    exact ⟨t, by rw [ht, Int.mul_comm]⟩
  obtain ⟨ta, ha⟩ := hd A (Nat.gcd_dvd_left _ _)
  obtain ⟨tx, hx⟩ := hd X (Nat.gcd_dvd_right _ _)
  obtain ⟨u, v, hb⟩ := bezZ A X
  obtain ⟨G, hG⟩ : ∃ G : Int, G = (Nat.gcd A.natAbs X.natAbs : Nat) := ⟨_, rfl⟩
  rw [← hG] at ha hx hb ⊢
  clear hG hd
  constructor
  · rintro ⟨i, j, k, rfl, rfl⟩
    refine ⟨i * ta + k * tx, j, ?_, by omega⟩
    rw [Int.add_mul, Int.mul_assoc, Int.mul_assoc, ← ha, ← hx]; omega
  · rintro ⟨i, j, rfl, rfl⟩
    refine ⟨i * u, j, i * v, ?_, by omega⟩
    rw [hb, Int.mul_add, Int.mul_assoc, Int.mul_assoc]; omega
theorem ltt_neg {A B C x y : Int} : Ltt A (-B) (-C) x y ↔ Ltt A B C x y := by
  constructor
  · rintro ⟨i, j, rfl, rfl⟩
    exact ⟨i, -j, by rw [Int.neg_mul, Int.mul_neg], by rw [Int.neg_mul, Int.mul_neg]⟩
  · rintro ⟨i, j, rfl, rfl⟩
    exact ⟨i, -j, by rw [Int.neg_mul, Int.mul_neg, Int.neg_neg], by rw [Int.neg_mul, Int.mul_neg, Int.neg_neg]⟩
theorem ltt_mod {A B C t x y : Int} : Ltt A (B - t * A) C x y ↔ Ltt A B C x y := by
  constructor
  · rintro ⟨i, j, rfl, rfl⟩
    exact ⟨i - j * t, j, by rw [Int.mul_sub, Int.sub_mul, Int.mul_assoc]; omega, rfl⟩
  · rintro ⟨i, j, rfl, rfl⟩
    exact ⟨i + j * t, j, by rw [Int.mul_sub, Int.add_mul, Int.mul_assoc]; omega, rfl⟩
structure NFm (A B C : Int) : Prop where
  a : 0 ≤ A
  c : 0 ≤ C
  b : 0 < A → 0 ≤ B ∧ B < A
  z : C = 0 → B = 0
theorem nf_zero : NFm 0 0 0 := ⟨by omega, by omega, fun h => by omega, fun _ => rfl⟩
theorem mul_le_one {j a b : Int} (ha : 0 < a) (hb : 0 < b) (h : a = j * b) : b ≤ a := by
  have hj : 0 < j := by
    rcases Int.lt_or_le 0 j with h1 | h1
    · exact h1
    · have := Int.mul_nonneg (show 0 ≤ -j by omega) (Int.le_of_lt hb)
      rw [Int.neg_mul] at this
      omega
  have := Int.mul_le_mul_of_nonneg_right (show 1 ≤ j by omega) (Int.le_of_lt hb)
  omega
theorem nf_uniq {A B C A' B' C' : Int} (h : NFm A B C) (h' : NFm A' B' C') (hA : 0 < A) (hC : 0 < C) (hA' : 0 < A') (hC' : 0 < C') (e : ∀ x y, Ltt A B C x y ↔ Ltt A' B' C' x y) : A = A' ∧ B = B' ∧ C = C' := by
  have zero : ∀ {j c : Int}, 0 < c → j * c = 0 → j = 0 := fun {j c} hc hj => by
    rcases Int.mul_eq_zero.1 hj with h | h
    · exact h
    · omega
  have c1 : ∀ {A B C A' B' C' : Int}, 0 < C → 0 < C' → (∀ x y, Ltt A B C x y → Ltt A' B' C' x y) → C' ≤ C := fun {A B C A' B' C'} hC hC' e => by
    obtain ⟨i, j, -, h2⟩ := e B C ⟨0, 1, by omega, by omega⟩
    exact mul_le_one hC hC' h2
  have a1 : ∀ {A B C A' B' C' : Int}, 0 < A → 0 < A' → 0 < C' → (∀ x y, Ltt A B C x y → Ltt A' B' C' x y) → A' ≤ A := fun {A B C A' B' C'} hA hA' hC' e => by
    obtain ⟨i, j, h1, h2⟩ := e A 0 ⟨1, 0, by omega, by omega⟩
    have := zero hC' h2.symm
    subst this
    exact mul_le_one (j := i) hA hA' (by omega)
  have eC : C = C' := by
    have := c1 hC hC' fun x y => (e x y).1
    have := c1 hC' hC fun x y => (e x y).2
    omega
  have eA : A = A' := by
    have := a1 hA hA' hC' fun x y => (e x y).1
    have := a1 hA' hA hC fun x y => (e x y).2
    omega
  subst eC eA
  refine ⟨rfl, ?_, rfl⟩
  obtain ⟨i, j, h1, h2⟩ := (e B C).1 ⟨0, 1, by omega, by omega⟩
  have hj : j = 1 := by
    have := zero (j := j - 1) hC (by rw [Int.sub_mul]; omega)
    omega
  subst hj
  obtain ⟨b1, b2⟩ := h.b hA
  obtain ⟨b3, b4⟩ := h'.b hA
  have hi : i = 0 := by
    rcases Int.lt_trichotomy i 0 with h | h | h
    · have := Int.mul_le_mul_of_nonneg_right (show i ≤ -1 by omega) (Int.le_of_lt hA)
      omega
    · exact h
    · have := Int.mul_le_mul_of_nonneg_right (show 1 ≤ i by omega) (Int.le_of_lt hA)
      omega
  subst hi
  omega
structure Bdl (A B C : Int) : Prop where
  c : C ≤ 12
  b : A = 0 → B.natAbs ≤ 12
  a : A ≤ 900
theorem bd_zero : Bdl 0 0 0 := ⟨by omega, fun _ => by decide, by omega⟩
theorem bd_next {A B C X Y A' B' C' : Int} (h : NFm A B C) (hb : Bdl A B C) (h' : NFm A' B' C') (hX : X.natAbs ≤ 12) (hY : Y.natAbs ≤ 12) (e : ∀ x y, Ltt A' B' C' x y ↔ Spn A B C X Y x y) (h0 : A = 0 → A' ≤ 900) : Bdl A' B' C' := by
  have m1 : ∀ {j z c : Int}, z ≠ 0 → z = j * c → c.natAbs ≤ z.natAbs := fun {j z c} hz e => by
    have hj : j ≠ 0 := fun h => by subst h; omega
    rw [e, Int.natAbs_mul]
    exact Nat.le_mul_of_pos_left _ (by omega)
  obtain ⟨i1, j1, p1, p2⟩ := (e B C).2 ⟨0, 1, 0, by omega, by omega⟩
  obtain ⟨i2, j2, p3, p4⟩ := (e X Y).2 ⟨0, 0, 1, by omega, by omega⟩
  obtain ⟨i3, j3, k3, p5, p6⟩ := (e B' C').1 ⟨0, 1, by omega, by omega⟩
  have hc := h.c
  have hc' := h'.c
  have ha := h.a
  have ha' := h'.a
  have hbc := hb.c
  refine ⟨?_, fun hA => ?_, ?_⟩
  · by_cases e1 : C = 0
    · by_cases e2 : Y = 0
      · subst e1 e2
        have : C' = 0 := by rw [p6]; simp
        omega
      · have := m1 e2 p4; omega
    · have := m1 e1 p2; omega
  · subst hA
    have hA0 : A = 0 := by
      obtain ⟨i, j, q1, q2⟩ := (e A 0).2 ⟨1, 0, 0, by omega, by omega⟩
      rcases Int.mul_eq_zero.1 q2.symm with h3 | h3
      · subst h3; omega
      · rw [h'.z h3] at q1; omega
    have hbb := hb.b hA0
    by_cases e1 : B' = 0
    · subst e1; decide
    by_cases e2 : j1 = 0
    · by_cases e3 : j2 = 0
      · subst e2 e3 hA0
        have : B = 0 := by omega
        have : X = 0 := by omega
        subst B X
        exact absurd (by rw [p5]; simp) e1
      · have hx : X = j2 * B' := by omega
        have : X ≠ 0 := fun h => by rw [h] at hx; rcases Int.mul_eq_zero.1 hx.symm with h | h; exact e3 h; exact e1 h
        have := m1 this hx; omega
    · have hx : B = j1 * B' := by omega
      have : B ≠ 0 := fun h => by rw [h] at hx; rcases Int.mul_eq_zero.1 hx.symm with h | h; exact e2 h; exact e1 h
      have := m1 this hx; omega
  · by_cases hA : A = 0
    · exact h0 hA
    · obtain ⟨i, j, q1, q2⟩ := (e A 0).2 ⟨1, 0, 0, by omega, by omega⟩
      have hba := hb.a
      have hq : A = i * A' := by
        rcases Int.mul_eq_zero.1 q2.symm with h3 | h3
        · subst h3; omega
        · rw [h'.z h3] at q1; omega
      have := m1 hA hq; omega
end Go.PI
/- PERIODS: the ways of squares that come back to square 0. -/
namespace Go.PI
inductive Wk (f f' g g' : Nat → Nat) : Nat → Int → Int → Prop
  | o : Wk f f' g g' 0 0 0
  | r {s : Nat} {x y : Int} (h : Wk f f' g g' s x y) : Wk f f' g g' (f s) (x + 1) y
  | l {s : Nat} {x y : Int} (h : Wk f f' g g' s x y) : Wk f f' g g' (f' s) (x - 1) y
  | u {s : Nat} {x y : Int} (h : Wk f f' g g' s x y) : Wk f f' g g' (g s) x (y + 1)
  | d {s : Nat} {x y : Int} (h : Wk f f' g g' s x y) : Wk f f' g g' (g' s) x (y - 1)
section
variable {n : Nat} {f f' g g' : Nat → Nat} {A B C : Int}
theorem Wk.cast {s : Nat} {x y x' y' : Int} (h : Wk f f' g g' s x y) (hx : x' = x) (hy : y' = y) : Wk f f' g g' s x' y' := by subst hx hy; exact h
theorem wk_lt (pf : IsP n f f') (pg : IsP n g g') (h0 : 0 < n) {s : Nat} {x y : Int} (h : Wk f f' g g' s x y) : s < n := by
  induction h with
  | o => exact h0
  | r _ ih => exact pf.lt _ ih
  | l _ ih => exact pf.glt _ ih
  | u _ ih => exact pg.lt _ ih
  | d _ ih => exact pg.glt _ ih
theorem wk_sub (pf : IsP n f f') (pg : IsP n g g') (h0 : 0 < n) {s : Nat} {c d : Int} (h : Wk f f' g g' s c d) : ∀ {a b : Int}, Wk f f' g g' s a b → Wk f f' g g' 0 (a - c) (b - d) := by
  induction h with
  | o => intro a b h; exact h.cast (by omega) (by omega)
  | @r s x y hs ih =>
    intro a b h
    have h2 := h.l
    rw [pf.gf s (wk_lt pf pg h0 hs)] at h2
    exact (ih h2).cast (by omega) (by omega)
  | @l s x y hs ih =>
    intro a b h
    have h2 := h.r
    rw [pf.fg s (wk_lt pf pg h0 hs)] at h2
    exact (ih h2).cast (by omega) (by omega)
  | @u s x y hs ih =>
    intro a b h
    have h2 := h.d
    rw [pg.gf s (wk_lt pf pg h0 hs)] at h2
    exact (ih h2).cast (by omega) (by omega)
  | @d s x y hs ih =>
    intro a b h
    have h2 := h.u
    rw [pg.fg s (wk_lt pf pg h0 hs)] at h2
    exact (ih h2).cast (by omega) (by omega)
theorem wk_add {s : Nat} {a b c d : Int} (h : Wk f f' g g' 0 a b) (k : Wk f f' g g' s c d) : Wk f f' g g' s (a + c) (b + d) := by
  induction k with
  | o => exact h.cast (by omega) (by omega)
  | r _ ih => exact ih.r.cast (by omega) (by omega)
  | l _ ih => exact ih.l.cast (by omega) (by omega)
  | u _ ih => exact ih.u.cast (by omega) (by omega)
  | d _ ih => exact ih.d.cast (by omega) (by omega)
theorem wk_nat {a b : Int} (h : Wk f f' g g' 0 a b) : ∀ k : Nat, Wk f f' g g' 0 (k * a) (k * b)
  | 0 => Wk.o.cast (by simp) (by simp)
  | k + 1 => (wk_add h (wk_nat h k)).cast (by rw [Int.natCast_add, Int.add_mul]; omega) (by rw [Int.natCast_add, Int.add_mul]; omega)
theorem wk_int (pf : IsP n f f') (pg : IsP n g g') (h0 : 0 < n) {a b : Int} (h : Wk f f' g g' 0 a b) (k : Int) : Wk f f' g g' 0 (k * a) (k * b) := by
  rcases Int.natAbs_eq k with e | e
  · rw [e]; exact wk_nat h _
  · rw [e, Int.neg_mul, Int.neg_mul]
    exact (wk_sub pf pg h0 (wk_nat h k.natAbs) .o).cast (by omega) (by omega)
def Per (f f' g g' : Nat → Nat) (A B C : Int) : Prop := ∀ x y, Ltt A B C x y → Wk f f' g g' 0 x y
theorem per_zero : Per f f' g g' 0 0 0 := by
  rintro x y ⟨i, j, rfl, rfl⟩
  exact Wk.o.cast (by simp) (by simp)
theorem per_next (pf : IsP n f f') (pg : IsP n g g') (h0 : 0 < n) {X Y A' B' C' : Int} (h : Per f f' g g' A B C) (hw : Wk f f' g g' 0 X Y) (e : ∀ x y, Ltt A' B' C' x y ↔ Spn A B C X Y x y) : Per f f' g g' A' B' C' := by
  intro x y hl
  obtain ⟨i, j, k, rfl, rfl⟩ := (e x y).1 hl
  exact wk_add (h _ _ ⟨i, j, rfl, rfl⟩) (wk_int pf pg h0 hw k)
theorem ltt_mono {X Y A' B' C' x y : Int} (e : ∀ x y, Ltt A' B' C' x y ↔ Spn A B C X Y x y) (h : Ltt A B C x y) : Ltt A' B' C' x y := by
  obtain ⟨i, j, rfl, rfl⟩ := h
  exact (e _ _).2 ⟨i, j, 0, by omega, by omega⟩
theorem ltt_new {X Y A' B' C' : Int} (e : ∀ x y, Ltt A' B' C' x y ↔ Spn A B C X Y x y) : Ltt A' B' C' X Y := (e _ _).2 ⟨0, 0, 1, by omega, by omega⟩
theorem ltt_add {x y x' y' : Int} (h : Ltt A B C x y) (k : Ltt A B C x' y') : Ltt A B C (x + x') (y + y') := by
  obtain ⟨i, j, rfl, rfl⟩ := h
  obtain ⟨i', j', rfl, rfl⟩ := k
  exact ⟨i + i', j + j', by rw [Int.add_mul, Int.add_mul]; omega, by rw [Int.add_mul]⟩
theorem ltt_sub {x y x' y' : Int} (h : Ltt A B C x y) (k : Ltt A B C x' y') : Ltt A B C (x - x') (y - y') := by
  obtain ⟨i, j, rfl, rfl⟩ := h
  obtain ⟨i', j', rfl, rfl⟩ := k
  exact ⟨i - i', j - j', by rw [Int.sub_mul, Int.sub_mul]; omega, by rw [Int.sub_mul]⟩
theorem Ltt.cast {x y x' y' : Int} (h : Ltt A B C x y) (hx : x' = x) (hy : y' = y) : Ltt A B C x' y' := by subst hx hy; exact h
structure Edg (n : Nat) (f g : Nat → Nat) (px py : Nat → Int) (A B C : Int) : Prop where
  zx : px 0 = 0
  zy : py 0 = 0
  r : ∀ s, s < n → Ltt A B C (px s + 1 - px (f s)) (py s - py (f s))
  u : ∀ s, s < n → Ltt A B C (px s - px (g s)) (py s + 1 - py (g s))
theorem wk_ltt (pf : IsP n f f') (pg : IsP n g g') (h0 : 0 < n) {px py : Nat → Int} (E : Edg n f g px py A B C) {s : Nat} {x y : Int} (h : Wk f f' g g' s x y) : Ltt A B C (x - px s) (y - py s) := by
  induction h with
  | o => exact Ltt.cast (x := 0) (y := 0) ⟨0, 0, by omega, by omega⟩ (by rw [E.zx]; omega) (by rw [E.zy]; omega)
  | @r s x y hs ih => exact (ltt_add ih (E.r s (wk_lt pf pg h0 hs))).cast (by omega) (by omega)
  | @l s x y hs ih =>
    have hl := wk_lt pf pg h0 hs
    have := E.r (f' s) (pf.glt s hl)
    rw [pf.fg s hl] at this
    exact (ltt_sub ih this).cast (by omega) (by omega)
  | @u s x y hs ih => exact (ltt_add ih (E.u s (wk_lt pf pg h0 hs))).cast (by omega) (by omega)
  | @d s x y hs ih =>
    have hl := wk_lt pf pg h0 hs
    have := E.u (g' s) (pg.glt s hl)
    rw [pg.fg s hl] at this
    exact (ltt_sub ih this).cast (by omega) (by omega)
theorem per_iff (pf : IsP n f f') (pg : IsP n g g') (h0 : 0 < n) {px py : Nat → Int} (E : Edg n f g px py A B C) (P : Per f f' g g' A B C) (x y : Int) : Ltt A B C x y ↔ Wk f f' g g' 0 x y := by
  refine ⟨P x y, fun h => (wk_ltt pf pg h0 E h).cast (by rw [E.zx]; omega) (by rw [E.zy]; omega)⟩
theorem wk_it : ∀ k : Nat, Wk f f' g g' (it f k 0) k 0
  | 0 => .o
  | k + 1 => (wk_it k).r.cast (by omega) rfl
theorem wk_itg : ∀ k : Nat, Wk f f' g g' (it g k 0) 0 k
  | 0 => .o
  | k + 1 => (wk_itg k).u.cast rfl (by omega)
theorem per_uniq (pf : IsP n f f') (pg : IsP n g g') (h0 : 0 < n) {px py qx qy : Nat → Int} {A' B' C' : Int} (E : Edg n f g px py A B C) (P : Per f f' g g' A B C) (N : NFm A B C) (E' : Edg n f g qx qy A' B' C') (P' : Per f f' g g' A' B' C') (N' : NFm A' B' C') : A = A' ∧ B = B' ∧ C = C' := by
  obtain ⟨k, hk0, hk⟩ : ∃ k, 0 < k ∧ it f k 0 = 0 := ⟨ordr f 0, (ordr_spec pf h0).1, (ordr_spec pf h0).2.1⟩
  obtain ⟨m, hm0, hm⟩ : ∃ k, 0 < k ∧ it g k 0 = 0 := ⟨ordr g 0, (ordr_spec pg h0).1, (ordr_spec pg h0).2.1⟩
  have w1 : Wk f f' g g' 0 k 0 := by have := wk_it (f := f) (f' := f') (g := g) (g' := g') k; rwa [hk] at this
  have w2 : Wk f f' g g' 0 0 m := by have := wk_itg (f := f) (f' := f') (g := g) (g' := g') m; rwa [hm] at this
  have pos : ∀ {A B C : Int}, NFm A B C → (∀ x y, Ltt A B C x y ↔ Wk f f' g g' 0 x y) → 0 < A ∧ 0 < C := fun {A B C} N e => by
    have hC : 0 < C := by
      obtain ⟨i, j, h1, h2⟩ := (e _ _).2 w2
      rcases Int.lt_or_le 0 C with h | h
      · exact h
      · have := N.c
        have : C = 0 := by omega
        subst this
        omega
    refine ⟨?_, hC⟩
    obtain ⟨i, j, h1, h2⟩ := (e _ _).2 w1
    have hj : j = 0 := by
      rcases Int.mul_eq_zero.1 h2.symm with h | h
      · exact h
      · omega
    subst hj
    have := N.a
    rcases Int.lt_or_le 0 A with h | h
    · exact h
    · have : A = 0 := by omega
      subst this
      omega
  have e1 := per_iff pf pg h0 E P
  have e2 := per_iff pf pg h0 E' P'
  obtain ⟨p1, p2⟩ := pos N e1
  obtain ⟨p3, p4⟩ := pos N' e2
  exact nf_uniq N N' p1 p2 p3 p4 fun x y => (e1 x y).trans (e2 x y).symm
end
end Go.PI
