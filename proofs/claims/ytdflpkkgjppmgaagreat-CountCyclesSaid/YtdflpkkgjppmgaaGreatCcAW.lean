/- Own work of the verifier: CoFm PiRowG PiImp OgMath. -/
import Derived.Test.YtdflpkkgjppmgaaGreatCcAA
import Derived.Test.YtdflpkkgjppmgaaGreatCcAV
import Derived.ProofKit
import Derived.LaidMore
import Derived.OpenShut
import Derived.Stop.Joined
import Derived.Below
import Derived.Test.YtdflpkkgjppmgaaGreatCcAP
set_option linter.all false
set_option exponentiation.threshold 3000
set_option linter.deprecated false
/- SUMS OF DIVISORS, and how the squares of primes are divided out. -/
namespace Go.PI
def NoDiv (q d : Nat) : Prop := ∀ x, 2 ≤ x → x < d → ¬ x ∣ q
def Pri (q : Nat) : Prop := NoDiv q q
open Classical in
/-- what is left of n n when the primes below q are done -/
noncomputable def rr (n : Nat) : Nat → Nat
  | 0 => n * n
  | q + 1 => if 2 ≤ q ∧ q ∣ n ∧ Pri q then rr n q / (q * q) * (q * q - 1) else rr n q
structure SqI (n q rest prod : Nat) : Prop where
  pos : 0 < rest
  nd : NoDiv rest q
  dvd : rest ∣ n
  pr : ∀ p, 2 ≤ p → Pri p → q ≤ p → p ∣ n → p ∣ rest
  sq : rest * rest ∣ prod
  eq : prod = rr n q
theorem SqI.start {n : Nat} (h : 2 ≤ n) : SqI n 2 n (n * n) := ⟨by omega, fun x h1 h2 => by omega, Nat.dvd_refl _, fun p _ _ _ h => h, Nat.dvd_refl _, by simp [rr]⟩
theorem SqI.skip {n q rest prod : Nat} (I : SqI n q rest prod) (h2 : 2 ≤ q) (h : ¬ q ∣ rest) : SqI n (q + 1) rest prod := by
  refine ⟨I.pos, fun x h1 h2 => ?_, I.dvd, fun p a b c d => I.pr p a b (by omega) d, I.sq, ?_⟩
  · by_cases e : x = q
    · subst e; exact h
    · exact I.nd x h1 (by omega)
  · unfold rr
    rw [if_neg (fun hh => h (I.pr q h2 hh.2.2 (Nat.le_refl _) hh.2.1))]
    exact I.eq
theorem SqI.prime {n q rest prod : Nat} (I : SqI n q rest prod) (h : q ∣ rest) : Pri q := fun x h1 h2 hx => I.nd x h1 h2 (Nat.dvd_trans hx h)
structure SqJ (n q rest0 prod rest : Nat) : Prop where
  pos : 0 < rest
  dvd : rest ∣ rest0
  m : rest = rest0 ∨ rest ∣ rest0 / q
  pr : ∀ p, 2 ≤ p → Pri p → q + 1 ≤ p → p ∣ n → p ∣ rest
theorem SqJ.start {n q rest prod : Nat} (I : SqI n q rest prod) : SqJ n q rest prod rest := ⟨I.pos, Nat.dvd_refl _, .inl rfl, fun p a b c d => I.pr p a b (by omega) d⟩
theorem SqJ.next {n q rest0 prod rest : Nat} (h2 : 2 ≤ q) (hq : Pri q) (J : SqJ n q rest0 prod rest) (h : q ∣ rest) : SqJ n q rest0 prod (rest / q) ∧ rest / q < rest := by
  obtain ⟨m, rfl⟩ := h
  have hm : 0 < m := Nat.pos_of_ne_zero fun e => by subst e; have := J.pos; simp at this
  have e1 : q * m / q = m := Nat.mul_div_cancel_left m (by omega)
  rw [e1]
  refine ⟨⟨hm, Nat.dvd_trans ⟨q, Nat.mul_comm _ _⟩ J.dvd, .inr ?_, fun p a b c d => ?_⟩, ?_⟩
  · rcases J.m with h | h
    · rw [← h, e1]; exact Nat.dvd_refl _
    · exact Nat.dvd_trans ⟨q, Nat.mul_comm _ _⟩ h
  · have hp := J.pr p a b c d
    refine Nat.Coprime.dvd_of_dvd_mul_left ?_ hp
    show Nat.gcd p q = 1
    have g1 := Nat.gcd_dvd_left p q
    have g2 := Nat.gcd_dvd_right p q
    have g0 : 0 < Nat.gcd p q := Nat.gcd_pos_of_pos_left _ (by omega)
    rcases Nat.lt_or_ge (Nat.gcd p q) 2 with hl | hl
    · omega
    · exfalso
      have l2 := Nat.le_of_dvd (by omega) g2
      exact b _ hl (by omega) g1
  · calc m < 2 * m := by omega
      _ ≤ q * m := Nat.mul_le_mul_right _ h2
theorem SqJ.done {n q rest0 prod rest : Nat} (h2 : 2 ≤ q) (I : SqI n q rest0 prod) (hd : q ∣ rest0) (J : SqJ n q rest0 prod rest) (h : ¬ q ∣ rest) : SqI n (q + 1) rest (prod / (q * q) * (q * q - 1)) := by
  have hm : rest ∣ rest0 / q := by
    rcases J.m with e | e
    · subst e; exact absurd hd h
    · exact e
  refine ⟨J.pos, fun x h1 h2 hx => ?_, Nat.dvd_trans J.dvd I.dvd, J.pr, ?_, ?_⟩
  · by_cases e : x = q
    · subst e; exact h hx
    · exact I.nd x h1 (by omega) (Nat.dvd_trans hx J.dvd)
  · obtain ⟨m, rfl⟩ := hd
    rw [Nat.mul_div_cancel_left m (by omega)] at hm
    obtain ⟨t, ht⟩ := I.sq
    rw [ht, show q * m * (q * m) * t = (q * q) * (m * m * t) by grind, Nat.mul_div_cancel_left _ (Nat.mul_pos (by omega) (by omega))]
    exact Nat.dvd_trans (Nat.mul_dvd_mul hm hm) ⟨t * (q * q - 1), by rw [Nat.mul_assoc]⟩
  · unfold rr
    rw [if_pos ⟨h2, Nat.dvd_trans hd I.dvd, I.prime hd⟩, I.eq]
theorem SqI.one {n q rest prod : Nat} (I : SqI n q rest prod) (h : rest < q) : rest = 1 := by
  rcases Nat.lt_or_ge rest 2 with h1 | h1
  · have := I.pos; omega
  · exact absurd (Nat.dvd_refl _) (I.nd rest h1 h)
end Go.PI
/- FROM THE INTERPRETER's WORD TO A ROW. -/
namespace Go.PI
open Go.ChangeShapes Go.WideShapes Go.ChangeAt Go.RowKit
theorem post_of_below {H : Type} {enc : TypeId × Value → H} {P : Program} {f : Func} {s : ChangeSpec} {apart fresh handsOn again : Bool} {W W' : World} {args : Array Value} {v : Value} {ds gs : List (DataW H)} {before pa pv : List MemPlace}
    (hW : DataW.Whole enc P f.params.toList s.vars apart W args.toList ds gs before)
    (hres : ∀ (b : Nat) (sp : Nat → Bool) (hd : Bool), DataW.TrodAll enc P W' b sp hd f.resultTypes.toList (v.resultList f.resultTypes.size) (s.fn H (ds ++ gs)).results [])
    (hargs : ∀ sp : Nat → Bool, (∀ p ∈ before, sp p.block = true) → DataW.TrodAll enc P W' 0 sp true f.params.toList args.toList (s.fn H (ds ++ gs)).args pa)
    (hvars : ∀ sp : Nat → Bool, (∀ p ∈ before, sp p.block = true) → DataW.TrodVars enc P W' sp s.vars (s.fn H (ds ++ gs)).vars pv)
    (hps : before = pa ++ pv) (hB : Below W.heap.size W W')
    (hok : ∀ (j : Nat) (t : TypeId) (r : Value), f.resultTypes[j]? = some t → (v.resultList f.resultTypes.size)[j]? = some r → Value.okWide P W' .any 0 t r) :
    s.post enc P f apart fresh handsOn again W args v W' := by
  have hold : ∀ p ∈ before, (fun b => decide (b < W.heap.size)) p.block = true := fun p hp => by simpa using hW.lt p hp
  have hlt := fun p hp => hW.lt p hp
  refine ⟨ds, gs, before, [], pa, pv, hW, hres _ _ _, hargs _ hold, hvars _ hold, World.keptBut_mono (fun p hp => ⟨hp, ?_⟩) (hB.frame (· ∈ before)), fun _ => ?_⟩
  · rw [hps, List.mem_append] at hp
    exact Or.inr hp
  · obtain ⟨_, _, _, _, _, hz, hn⟩ := hW
    refine ⟨hok, _, _, ([] ++ pa) ++ pv, ⟨[] ++ pa, pv, trodAll_append (hargs _ (fun _ _ => rfl)) (hres _ _ _), hvars _ (fun _ _ => rfl), rfl, ?_, ?_⟩, ?_⟩
    · intro b off hp
      have hp2 := hz b off (by rw [hps]; simpa using hp)
      have hp3 := hlt _ (by rw [hps]; simpa using hp)
      rw [hB.frozen (p := ⟨b, off, none⟩) hp3]
      exact hp2
    · intro ha
      have := hn ha
      rw [hps] at this
      simpa using this
    · intro p hp _
      rw [hps]
      simpa using hp
end Go.PI
/- ARGUMENTS: slices of integers that came in, as blocks that are only read. -/
namespace Go.PI
open Go.ChangeShapes Go.WideShapes Go.ChangeAt Go.RowKit
def NoOwn (H : Heap) : Prop := ∀ A, (H.get A).own = false
structure Imp (W : World) (μ : M) (H : Heap) : Prop where
  hr : HR μ H W
  no : NoOwn H
theorem below_of {μ : M} {H H' : Heap} {w w' : World} {v : AV} {u : Value} (hno : NoOwn H) (h : EffR μ H w v H' u w') : Below w.heap.size w w' := by
  obtain ⟨μ', -, -, hf⟩ := h
  refine ⟨hf.os, hf.tape, hf.output, hf.size, fun k hk => (hf.keep k hk ?_).1⟩
  rintro ⟨A, a, ho, -⟩
  rw [hno A] at ho
  cases ho
theorem imp0 (W : World) : Imp W (fun _ => none) ⟨0, .nil⟩ :=
  ⟨⟨by simp [PI.lim], fun _ _ => rfl, fun A bi hl hm => (by cases hm), fun A B a b _ _ _ hm => (by cases hm)⟩, fun A => by unfold Heap.get; simp [Blk.own]⟩
theorem Imp.push {W : World} {μ : M} {H : Heap} (h : Imp W μ H) (hn : H.n < lim) {bi : BI} {b : Blk} (ho : b.own = false) (hb : b.live = true → bi.c < W.heap.size ∧ BlkR (μ.set H.n bi) W bi b) :
    Imp W (μ.set H.n bi) (H.push b) ∧ M.le μ (μ.set H.n bi) := by
  have hle : M.le μ (μ.set H.n bi) := M.le_set (h.hr.dom _ (Nat.le_refl _))
  have hp := Heap.get_push (H := H) (b := b) hn
  refine ⟨⟨⟨?_, ?_, ?_, ?_⟩, ?_⟩, hle⟩
  · show H.n + 1 ≤ lim
    omega
  · intro A hA
    have hA : H.n + 1 ≤ A := hA
    unfold M.set
    rw [if_neg (by omega)]
    exact h.hr.dom A (by omega)
  · intro A bj hl hm
    rw [hp] at hl ⊢
    by_cases hA : A = H.n
    · subst hA
      rw [if_pos rfl] at hl ⊢
      rw [M.set_self] at hm
      cases hm
      exact hb hl
    · rw [if_neg hA] at hl ⊢
      unfold M.set at hm
      rw [if_neg hA] at hm
      obtain ⟨h1, h2⟩ := h.hr.blk A bj hl hm
      exact ⟨h1, h2.mono hle rfl⟩
  · intro A B a b' hAB hA
    rw [hp] at hA
    by_cases hA' : A = H.n
    · rw [if_pos hA', ho] at hA; cases hA
    · rw [if_neg hA', h.no A] at hA; cases hA
  · intro A
    rw [hp]
    by_cases hA : A = H.n
    · rw [if_pos hA]; exact ho
    · rw [if_neg hA]; exact h.no A
def slen : AV → Option Nat
  | .nils | .sle => some 0
  | .sl _ _ n _ | .slu _ _ n _ => some n
  | _ => none
def Seen (H : Heap) (v : AV) (xs : List Int) : Prop := slen v = some xs.length ∧ (xs.length ≤ 1000 → Sl H v xs)
theorem Seen.mono {H H' : Heap} {v : AV} {xs : List Int} (h : Seen H v xs) (k : ∀ A, A < H.n → H'.get A = H.get A) : Seen H' v xs := ⟨h.1, fun hl => (h.2 hl).mono k⟩
theorem cell_zero {W : World} {a : Addr} {v : Value} (h : W.cell? (a.add 0) = some v) : a = ⟨a.block, a.off, none⟩ := by
  obtain ⟨b, o, s⟩ := a
  cases s with
  | none => rfl
  | some s =>
    unfold World.cell? at h
    simp only [Addr.add, if_true] at h
    split at h
    · simp at h
    · cases h
theorem cell_row {W : World} {b o i : Nat} {v : Value} (h : W.cell? (Addr.add ⟨b, o, none⟩ i) = some v) : ∃ carr ty fz, W.heap[b]? = some (.cells carr ty fz) ∧ carr[o + i]? = some v := by
  have e : Addr.add ⟨b, o, none⟩ i = ⟨b, o + i, none⟩ := by
    unfold Addr.add
    split
    · rename_i h0; subst h0; rfl
    · rfl
  rw [e] at h
  unfold World.cell? at h
  split at h
  · rename_i carr ty fz hc
    exact ⟨carr, ty, fz, hc, by simpa using h⟩
  · cases h
end Go.PI
/- PERMUTATIONS OF 0 TO n - 1: iterates, cycles, what a list of integers has to be for it. -/
namespace Go.PI
theorem len_le_of {α : Type} [DecidableEq α] : ∀ {l m : List α}, l.Nodup → (∀ x ∈ l, x ∈ m) → l.length ≤ m.length
  | [], m, _, _ => Nat.zero_le _
  | a :: l, m, hl, h => by
    have ha : a ∈ m := h a (by simp)
    have hn := List.nodup_cons.1 hl
    have := len_le_of (m := m.erase a) hn.2 fun x hx => (List.mem_erase_of_ne (fun e => hn.1 (by rw [← e]; exact hx))).2 (h x (by simp [hx]))
    rw [List.length_erase_of_mem ha] at this
    have hp := List.length_pos_of_mem ha
    simp only [List.length_cons]
    omega
theorem ex_least {P : Nat → Prop} (h : ∃ n, P n) : ∃ n, P n ∧ ∀ m, m < n → ¬ P m := by
  obtain ⟨n, hn⟩ := h
  induction n using Nat.strongRecOn with
  | ind n ih =>
    by_cases h : ∃ m, m < n ∧ P m
    · obtain ⟨m, h1, h2⟩ := h; exact ih m h1 h2
    · exact ⟨n, hn, fun m hm hp => h ⟨m, hm, hp⟩⟩
def PL (n : Nat) (f : Nat → Nat) : List Int := (List.range n).map fun i => (f i : Int)
structure IsP (n : Nat) (f g : Nat → Nat) : Prop where
  lt : ∀ i, i < n → f i < n
  glt : ∀ i, i < n → g i < n
  gf : ∀ i, i < n → g (f i) = i
  fg : ∀ i, i < n → f (g i) = i
theorem IsP.comp {n : Nat} {f g f' g' : Nat → Nat} (h : IsP n f g) (k : IsP n f' g') : IsP n (fun i => f' (f i)) (fun i => g (g' i)) :=
  ⟨fun i hi => k.lt _ (h.lt i hi), fun i hi => h.glt _ (k.glt i hi), fun i hi => by show g (g' (f' (f i))) = i; rw [k.gf _ (h.lt i hi), h.gf i hi], fun i hi => by show f' (f (g (g' i))) = i; rw [h.fg _ (k.glt i hi), k.fg i hi]⟩
theorem IsP.inj {n : Nat} {f g : Nat → Nat} (h : IsP n f g) {i j : Nat} (hi : i < n) (hj : j < n) (e : f i = f j) : i = j := by rw [← h.gf i hi, e, h.gf j hj]
theorem PL_len {n : Nat} {f : Nat → Nat} : (PL n f).length = n := by simp [PL]
theorem PL_get {n : Nat} {f : Nat → Nat} {i : Nat} (h : i < n) : (PL n f)[i]? = some (f i : Int) := by simp [PL, h]
theorem PL_ext {n : Nat} {f : Nat → Nat} {xs : List Int} (hl : xs.length = n) (h : ∀ i, i < n → xs[i]? = some (f i : Int)) : xs = PL n f := by
  refine List.ext_getElem? fun i => ?_
  by_cases hi : i < n
  · rw [h i hi, PL_get hi]
  · rw [List.getElem?_eq_none (by omega), List.getElem?_eq_none (by rw [PL_len]; omega)]
def InR (xs : List Int) : Prop := ∀ x ∈ xs, 0 ≤ x ∧ x < xs.length
open Classical in
noncomputable def chkP (xs : List Int) : Int := if InR xs then if xs.Nodup then 0 else 3 else 2
theorem surj_of {xs : List Int} (h1 : InR xs) (h2 : xs.Nodup) {i : Nat} (hi : i < xs.length) : (i : Int) ∈ xs := by
  by_cases h : (i : Int) ∈ xs
  · exact h
  · exfalso
    have := len_le_of (l := (i : Int) :: xs) (m := List.map (fun k : Nat => (k : Int)) (List.range xs.length)) (List.nodup_cons.2 ⟨h, h2⟩) fun x hx => by
      rcases List.mem_cons.1 hx with rfl | hx
      · exact List.mem_map.2 ⟨i, List.mem_range.2 hi, rfl⟩
      · obtain ⟨a, b⟩ := h1 x hx
        exact List.mem_map.2 ⟨x.toNat, List.mem_range.2 (by omega), by omega⟩
    simp only [List.length_cons, List.length_map, List.length_range] at this
    omega
theorem perm_of {xs : List Int} (h1 : InR xs) (h2 : xs.Nodup) : ∃ f g, xs = PL xs.length f ∧ IsP xs.length f g := by
  have hget : ∀ i, i < xs.length → xs[i]? = some (((xs.getD i 0).toNat : Nat) : Int) := fun i hi => by
    have e := List.getElem?_eq_getElem hi
    have := h1 _ (List.getElem_mem hi)
    rw [List.getD_eq_getElem?_getD, e]
    simp only [Option.getD_some]
    congr 1
    omega
  have hin : ∀ i, i < xs.length → (xs.getD i 0).toNat < xs.length := fun i hi => by
    have := h1 _ (List.mem_of_getElem? (hget i hi))
    omega
  have hidx : ∀ i, i < xs.length → xs.idxOf (i : Int) < xs.length := fun i hi => List.idxOf_lt_length_of_mem (surj_of h1 h2 hi)
  have hat : ∀ i, i < xs.length → xs[xs.idxOf (i : Int)]? = some (i : Int) := fun i hi => by
    rw [List.getElem?_eq_getElem (hidx i hi), List.getElem_idxOf]
  refine ⟨fun i => (xs.getD i 0).toNat, fun i => xs.idxOf (i : Int), PL_ext rfl hget, hin, hidx, fun i hi => ?_, fun i hi => ?_⟩
  · have a := hat _ (hin i hi)
    rw [← hget i hi] at a
    exact (List.getElem?_inj (hidx _ (hin i hi)) h2).1 a
  · have a := hget _ (hidx i hi)
    rw [hat i hi] at a
    simp only [Option.some.injEq] at a
    omega
theorem chk2 {xs : List Int} (h : ¬ InR xs) : chkP xs = 2 := by unfold chkP; rw [if_neg h]
theorem chk3 {xs : List Int} (h : InR xs) (h2 : ¬ xs.Nodup) : chkP xs = 3 := by unfold chkP; rw [if_pos h, if_neg h2]
theorem chk0 {xs : List Int} (h : InR xs) (h2 : xs.Nodup) : chkP xs = 0 := by unfold chkP; rw [if_pos h, if_pos h2]
theorem chkP_cases (xs : List Int) : (chkP xs = 0 ∧ InR xs ∧ xs.Nodup) ∨ chkP xs = 3 ∨ chkP xs = 2 := by
  by_cases h : InR xs
  · by_cases h2 : xs.Nodup
    · exact .inl ⟨chk0 h h2, h, h2⟩
    · exact .inr (.inl (chk3 h h2))
  · exact .inr (.inr (chk2 h))
def it (f : Nat → Nat) : Nat → Nat → Nat
  | 0, x => x
  | k + 1, x => f (it f k x)
section
variable {n : Nat} {f g : Nat → Nat} {x y : Nat}
theorem it_add (f : Nat → Nat) (a b x : Nat) : it f (a + b) x = it f a (it f b x) := by
  induction a with
  | zero => simp [it]
  | succ a ih => rw [show a + 1 + b = a + b + 1 by omega]; simp only [it]; rw [ih]
theorem it_lt (h : IsP n f g) (hx : x < n) (k : Nat) : it f k x < n := by
  induction k with
  | zero => exact hx
  | succ k ih => exact h.lt _ ih
theorem it_inj (h : IsP n f g) (hx : x < n) (hy : y < n) : ∀ {k : Nat}, it f k x = it f k y → x = y
  | 0, e => e
  | k + 1, e => it_inj h hx hy (h.inj (it_lt h hx k) (it_lt h hy k) e)
theorem it_mul {m : Nat} (h : it f m x = x) (q : Nat) : it f (m * q) x = x := by
  induction q with
  | zero => rfl
  | succ q ih => rw [Nat.mul_succ, it_add, h, ih]
theorem returns (h : IsP n f g) (hx : x < n) : ∃ m, 0 < m ∧ m ≤ n ∧ it f m x = x := by
  by_cases hc : ∃ a b, a < b ∧ b ≤ n ∧ it f a x = it f b x
  · obtain ⟨a, b, h1, h2, h3⟩ := hc
    refine ⟨b - a, by omega, by omega, ?_⟩
    have e : it f b x = it f a (it f (b - a) x) := by rw [← it_add]; congr 1; omega
    rw [e] at h3
    exact (it_inj h hx (it_lt h hx _) h3).symm
  · exfalso
    have hd : ((List.range (n + 1)).map fun k => it f k x).Nodup := by
      unfold List.Nodup
      rw [List.pairwise_map]
      exact List.pairwise_lt_range.imp_of_mem fun {a b} _ hb hab e => hc ⟨a, b, hab, by have := List.mem_range.1 hb; omega, e⟩
    have := len_le_of hd (m := List.range n) fun y hy => by
      obtain ⟨k, -, rfl⟩ := List.mem_map.1 hy
      exact List.mem_range.2 (it_lt h hx k)
    simp only [List.length_map, List.length_range] at this
    omega
open Classical in
/-- the length of a cycle -/
noncomputable def ordr (f : Nat → Nat) (x : Nat) : Nat := if h : ∃ m, 0 < m ∧ it f m x = x then (ex_least h).choose else 0
theorem ordr_spec (h : IsP n f g) (hx : x < n) : 0 < ordr f x ∧ it f (ordr f x) x = x ∧ ordr f x ≤ n ∧ ∀ m, 0 < m → m < ordr f x → it f m x ≠ x := by
  obtain ⟨m, h1, h2, h3⟩ := returns h hx
  have he : ∃ m, 0 < m ∧ it f m x = x := ⟨m, h1, h3⟩
  have hs := (ex_least he).choose_spec
  have e : ordr f x = (ex_least he).choose := by unfold ordr; rw [dif_pos he]
  rw [← e] at hs
  refine ⟨hs.1.1, hs.1.2, ?_, fun m a b c => hs.2 m b ⟨a, c⟩⟩
  refine Nat.le_trans (Nat.le_of_not_lt fun hlt => ?_) h2
  exact hs.2 m hlt ⟨h1, h3⟩
def InC (f : Nat → Nat) (x y : Nat) : Prop := ∃ k, it f k x = y
theorem InC.refl (f : Nat → Nat) (x : Nat) : InC f x x := ⟨0, rfl⟩
theorem InC.trans {z : Nat} (a : InC f x y) (b : InC f y z) : InC f x z := by
  obtain ⟨k, rfl⟩ := a
  obtain ⟨m, rfl⟩ := b
  exact ⟨m + k, it_add f m k x⟩
theorem InC.symm (h : IsP n f g) (hx : x < n) (a : InC f x y) : InC f y x := by
  obtain ⟨k, rfl⟩ := a
  obtain ⟨h1, h2, -⟩ := ordr_spec h hx
  refine ⟨ordr f x * k - k, ?_⟩
  have : k ≤ ordr f x * k := Nat.le_mul_of_pos_left k h1
  rw [← it_add, show ordr f x * k - k + k = ordr f x * k by omega, it_mul h2]
noncomputable def cyc (f : Nat → Nat) (x : Nat) : List Int := (List.range (ordr f x)).map fun k => ((it f k x : Nat) : Int)
theorem cyc_len : (cyc f x).length = ordr f x := by simp [cyc]
theorem mem_cyc (h : IsP n f g) (hx : x < n) {v : Int} : v ∈ cyc f x ↔ ∃ y : Nat, v = y ∧ InC f x y := by
  constructor
  · intro hv
    obtain ⟨k, -, rfl⟩ := List.mem_map.1 hv
    exact ⟨_, rfl, k, rfl⟩
  · rintro ⟨y, rfl, k, rfl⟩
    obtain ⟨h1, h2, -⟩ := ordr_spec h hx
    refine List.mem_map.2 ⟨k % ordr f x, List.mem_range.2 (Nat.mod_lt _ h1), ?_⟩
    have : it f k x = it f (k % ordr f x) x := by
      conv => lhs; rw [← Nat.mod_add_div k (ordr f x)]
      rw [it_add, it_mul h2]
    rw [this]
def lead (f : Nat → Nat) (x : Nat) : Prop := ∀ y, InC f x y → x ≤ y
open Classical in
/-- the cycles -/
noncomputable def cycs (n : Nat) (f : Nat → Nat) : List (List Int) := ((List.range n).filter fun x => decide (lead f x)).map fun x => cyc f x
open Classical in
theorem cycs_step {i : Nat} : cycs (i + 1) f = if lead f i then cycs i f ++ [cyc f i] else cycs i f := by
  unfold cycs
  rw [List.range_succ, List.filter_append]
  by_cases h : lead f i
  · simp [h]
  · simp [h]
end
end Go.PI
