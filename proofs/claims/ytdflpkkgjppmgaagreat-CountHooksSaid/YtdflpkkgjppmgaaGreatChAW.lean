/- Own work of the verifier: CoFm PiRowG PiImp OgMath CrK PvYld. -/
import Derived.Test.YtdflpkkgjppmgaaGreatChAA
import Derived.Test.YtdflpkkgjppmgaaGreatChAV
import Derived.ProofKit
import Derived.LaidMore
import Derived.OpenShut
import Derived.Stop.Joined
import Derived.Below
import Derived.Test.YtdflpkkgjppmgaaGreatChAP
import Derived.KernelRfl
import Derived.Test.YtdflpkkgjppmgaaGreatChAT
set_option linter.all false
set_option exponentiation.threshold 3000
set_option linter.deprecated false
/- SUMS OF DIVISORS, and how the squares of primes are divided out. -/
namespace Go.PI
def NoDiv (q d : Nat) : Prop := ∀ x, 2 ≤ x → x < d → ¬ x ∣ q
def Pri (q : Nat) : Prop := NoDiv q q
open Classical in
/-- what is left of n n when the primes below q are done -/
noncomputable def rr (n : Nat) : Nat → Nat
  | 0 => n * n
  | q + 1 => if 2 ≤ q ∧ q ∣ n ∧ Pri q then rr n q / (q * q) * (q * q - 1) else rr n q
structure SqI (n q rest prod : Nat) : Prop where
  pos : 0 < rest
  nd : NoDiv rest q
  dvd : rest ∣ n
  pr : ∀ p, 2 ≤ p → Pri p → q ≤ p → p ∣ n → p ∣ rest
  sq : rest * rest ∣ prod
  eq : prod = rr n q
theorem SqI.start {n : Nat} (h : 2 ≤ n) : SqI n 2 n (n * n) := ⟨by omega, fun x h1 h2 => by omega, Nat.dvd_refl _, fun p _ _ _ h => h, Nat.dvd_refl _, by simp [rr]⟩
theorem SqI.skip {n q rest prod : Nat} (I : SqI n q rest prod) (h2 : 2 ≤ q) (h : ¬ q ∣ rest) : SqI n (q + 1) rest prod := by
  refine ⟨I.pos, fun x h1 h2 => ?_, I.dvd, fun p a b c d => I.pr p a b (by omega) d, I.sq, ?_⟩
  · by_cases e : x = q
    · subst e; exact h
    · exact I.nd x h1 (by omega)
  · unfold rr
    rw [if_neg (fun hh => h (I.pr q h2 hh.2.2 (Nat.le_refl _) hh.2.1))]
    exact I.eq
theorem SqI.prime {n q rest prod : Nat} (I : SqI n q rest prod) (h : q ∣ rest) : Pri q := fun x h1 h2 hx => I.nd x h1 h2 (Nat.dvd_trans hx h)
structure SqJ (n q rest0 prod rest : Nat) : Prop where
  pos : 0 < rest
  dvd : rest ∣ rest0
  m : rest = rest0 ∨ rest ∣ rest0 / q
  pr : ∀ p, 2 ≤ p → Pri p → q + 1 ≤ p → p ∣ n → p ∣ rest
theorem SqJ.start {n q rest prod : Nat} (I : SqI n q rest prod) : SqJ n q rest prod rest := ⟨I.pos, Nat.dvd_refl _, .inl rfl, fun p a b c d => I.pr p a b (by omega) d⟩
theorem SqJ.next {n q rest0 prod rest : Nat} (h2 : 2 ≤ q) (hq : Pri q) (J : SqJ n q rest0 prod rest) (h : q ∣ rest) : SqJ n q rest0 prod (rest / q) ∧ rest / q < rest := by
  obtain ⟨m, rfl⟩ := h
  have hm : 0 < m := Nat.pos_of_ne_zero fun e => by subst e; have := J.pos; simp at this
  have e1 : q * m / q = m := Nat.mul_div_cancel_left m (by omega)
  rw [e1]
  refine ⟨⟨hm, Nat.dvd_trans ⟨q, Nat.mul_comm _ _⟩ J.dvd, .inr ?_, fun p a b c d => ?_⟩, ?_⟩
  · rcases J.m with h | h
    · rw [← h, e1]; exact Nat.dvd_refl _
    · exact Nat.dvd_trans ⟨q, Nat.mul_comm _ _⟩ h
  · have hp := J.pr p a b c d
    refine Nat.Coprime.dvd_of_dvd_mul_left ?_ hp
    show Nat.gcd p q = 1
    have g1 := Nat.gcd_dvd_left p q
    have g2 := Nat.gcd_dvd_right p q
    have g0 : 0 < Nat.gcd p q := Nat.gcd_pos_of_pos_left _ (by omega)
    rcases Nat.lt_or_ge (Nat.gcd p q) 2 with hl | hl
    · omega
    · exfalso
      have l2 := Nat.le_of_dvd (by omega) g2
      exact b _ hl (by omega) g1
  · calc m < 2 * m := by omega
      _ ≤ q * m := Nat.mul_le_mul_right _ h2
theorem SqJ.done {n q rest0 prod rest : Nat} (h2 : 2 ≤ q) (I : SqI n q rest0 prod) (hd : q ∣ rest0) (J : SqJ n q rest0 prod rest) (h : ¬ q ∣ rest) : SqI n (q + 1) rest (prod / (q * q) * (q * q - 1)) := by
  have hm : rest ∣ rest0 / q := by
    rcases J.m with e | e
    · subst e; exact absurd hd h
    · exact e
  refine ⟨J.pos, fun x h1 h2 hx => ?_, Nat.dvd_trans J.dvd I.dvd, J.pr, ?_, ?_⟩
  · by_cases e : x = q
    · subst e; exact h hx
    · exact I.nd x h1 (by omega) (Nat.dvd_trans hx J.dvd)
  · obtain ⟨m, rfl⟩ := hd
    rw [Nat.mul_div_cancel_left m (by omega)] at hm
    obtain ⟨t, ht⟩ := I.sq
    rw [ht, show q * m * (q * m) * t = (q * q) * (m * m * t) by grind, Nat.mul_div_cancel_left _ (Nat.mul_pos (by omega) (by omega))]
    exact Nat.dvd_trans (Nat.mul_dvd_mul hm hm) ⟨t * (q * q - 1), by rw [Nat.mul_assoc]⟩
  · unfold rr
    rw [if_pos ⟨h2, Nat.dvd_trans hd I.dvd, I.prime hd⟩, I.eq]
theorem SqI.one {n q rest prod : Nat} (I : SqI n q rest prod) (h : rest < q) : rest = 1 := by
  rcases Nat.lt_or_ge rest 2 with h1 | h1
  · have := I.pos; omega
  · exact absurd (Nat.dvd_refl _) (I.nd rest h1 h)
end Go.PI
/- FROM THE INTERPRETER's WORD TO A ROW. -/
namespace Go.PI
open Go.ChangeShapes Go.WideShapes Go.ChangeAt Go.RowKit
theorem post_of_below {H : Type} {enc : TypeId × Value → H} {P : Program} {f : Func} {s : ChangeSpec} {apart fresh handsOn again : Bool} {W W' : World} {args : Array Value} {v : Value} {ds gs : List (DataW H)} {before pa pv : List MemPlace}
    (hW : DataW.Whole enc P f.params.toList s.vars apart W args.toList ds gs before)
    (hres : ∀ (b : Nat) (sp : Nat → Bool) (hd : Bool), DataW.TrodAll enc P W' b sp hd f.resultTypes.toList (v.resultList f.resultTypes.size) (s.fn H (ds ++ gs)).results [])
    (hargs : ∀ sp : Nat → Bool, (∀ p ∈ before, sp p.block = true) → DataW.TrodAll enc P W' 0 sp true f.params.toList args.toList (s.fn H (ds ++ gs)).args pa)
    (hvars : ∀ sp : Nat → Bool, (∀ p ∈ before, sp p.block = true) → DataW.TrodVars enc P W' sp s.vars (s.fn H (ds ++ gs)).vars pv)
    (hps : before = pa ++ pv) (hB : Below W.heap.size W W')
    (hok : ∀ (j : Nat) (t : TypeId) (r : Value), f.resultTypes[j]? = some t → (v.resultList f.resultTypes.size)[j]? = some r → Value.okWide P W' .any 0 t r) :
    s.post enc P f apart fresh handsOn again W args v W' := by
  have hold : ∀ p ∈ before, (fun b => decide (b < W.heap.size)) p.block = true := fun p hp => by simpa using hW.lt p hp
  have hlt := fun p hp => hW.lt p hp
  refine ⟨ds, gs, before, [], pa, pv, hW, hres _ _ _, hargs _ hold, hvars _ hold, World.keptBut_mono (fun p hp => ⟨hp, ?_⟩) (hB.frame (· ∈ before)), fun _ => ?_⟩
  · rw [hps, List.mem_append] at hp
    exact Or.inr hp
  · obtain ⟨_, _, _, _, _, hz, hn⟩ := hW
    refine ⟨hok, _, _, ([] ++ pa) ++ pv, ⟨[] ++ pa, pv, trodAll_append (hargs _ (fun _ _ => rfl)) (hres _ _ _), hvars _ (fun _ _ => rfl), rfl, ?_, ?_⟩, ?_⟩
    · intro b off hp
      have hp2 := hz b off (by rw [hps]; simpa using hp)
      have hp3 := hlt _ (by rw [hps]; simpa using hp)
      rw [hB.frozen (p := ⟨b, off, none⟩) hp3]
      exact hp2
    · intro ha
      have := hn ha
      rw [hps] at this
      simpa using this
    · intro p hp _
      rw [hps]
      simpa using hp
end Go.PI
/- ARGUMENTS: slices of integers that came in, as blocks that are only read. -/
namespace Go.PI
open Go.ChangeShapes Go.WideShapes Go.ChangeAt Go.RowKit
def NoOwn (H : Heap) : Prop := ∀ A, (H.get A).own = false
structure Imp (W : World) (μ : M) (H : Heap) : Prop where
  hr : HR μ H W
  no : NoOwn H
theorem below_of {μ : M} {H H' : Heap} {w w' : World} {v : AV} {u : Value} (hno : NoOwn H) (h : EffR μ H w v H' u w') : Below w.heap.size w w' := by
  obtain ⟨μ', -, -, hf⟩ := h
  refine ⟨hf.os, hf.tape, hf.output, hf.size, fun k hk => (hf.keep k hk ?_).1⟩
  rintro ⟨A, a, ho, -⟩
  rw [hno A] at ho
  cases ho
theorem imp0 (W : World) : Imp W (fun _ => none) ⟨0, .nil⟩ :=
  ⟨⟨by simp [PI.lim], fun _ _ => rfl, fun A bi hl hm => (by cases hm), fun A B a b _ _ _ hm => (by cases hm)⟩, fun A => by unfold Heap.get; simp [Blk.own]⟩
theorem Imp.push {W : World} {μ : M} {H : Heap} (h : Imp W μ H) (hn : H.n < lim) {bi : BI} {b : Blk} (ho : b.own = false) (hb : b.live = true → bi.c < W.heap.size ∧ BlkR (μ.set H.n bi) W bi b) :
    Imp W (μ.set H.n bi) (H.push b) ∧ M.le μ (μ.set H.n bi) := by
  have hle : M.le μ (μ.set H.n bi) := M.le_set (h.hr.dom _ (Nat.le_refl _))
  have hp := Heap.get_push (H := H) (b := b) hn
  refine ⟨⟨⟨?_, ?_, ?_, ?_⟩, ?_⟩, hle⟩
  · show H.n + 1 ≤ lim
    omega
  · intro A hA
    have hA : H.n + 1 ≤ A := hA
    unfold M.set
    rw [if_neg (by omega)]
    exact h.hr.dom A (by omega)
  · intro A bj hl hm
    rw [hp] at hl ⊢
    by_cases hA : A = H.n
    · subst hA
      rw [if_pos rfl] at hl ⊢
      rw [M.set_self] at hm
      cases hm
      exact hb hl
    · rw [if_neg hA] at hl ⊢
      unfold M.set at hm
      rw [if_neg hA] at hm
      obtain ⟨h1, h2⟩ := h.hr.blk A bj hl hm
      exact ⟨h1, h2.mono hle rfl⟩
  · intro A B a b' hAB hA
    rw [hp] at hA
    by_cases hA' : A = H.n
    · rw [if_pos hA', ho] at hA; cases hA
    · rw [if_neg hA', h.no A] at hA; cases hA
  · intro A
    rw [hp]
    by_cases hA : A = H.n
    · rw [if_pos hA]; exact ho
    · rw [if_neg hA]; exact h.no A
def slen : AV → Option Nat
  | .nils | .sle => some 0
  | .sl _ _ n _ | .slu _ _ n _ => some n
  | _ => none
def Seen (H : Heap) (v : AV) (xs : List Int) : Prop := slen v = some xs.length ∧ (xs.length ≤ 1000 → Sl H v xs)
theorem Seen.mono {H H' : Heap} {v : AV} {xs : List Int} (h : Seen H v xs) (k : ∀ A, A < H.n → H'.get A = H.get A) : Seen H' v xs := ⟨h.1, fun hl => (h.2 hl).mono k⟩
theorem cell_zero {W : World} {a : Addr} {v : Value} (h : W.cell? (a.add 0) = some v) : a = ⟨a.block, a.off, none⟩ := by
  obtain ⟨b, o, s⟩ := a
  cases s with
  | none => rfl
  | some s =>
    unfold World.cell? at h
    simp only [Addr.add, if_true] at h
    split at h
    · simp at h
    · cases h
theorem cell_row {W : World} {b o i : Nat} {v : Value} (h : W.cell? (Addr.add ⟨b, o, none⟩ i) = some v) : ∃ carr ty fz, W.heap[b]? = some (.cells carr ty fz) ∧ carr[o + i]? = some v := by
  have e : Addr.add ⟨b, o, none⟩ i = ⟨b, o + i, none⟩ := by
    unfold Addr.add
    split
    · rename_i h0; subst h0; rfl
    · rfl
  rw [e] at h
  unfold World.cell? at h
  split at h
  · rename_i carr ty fz hc
    exact ⟨carr, ty, fz, hc, by simpa using h⟩
  · cases h
end Go.PI
/- PERMUTATIONS OF 0 TO n - 1: iterates, cycles, what a list of integers has to be for it. -/
namespace Go.PI
theorem len_le_of {α : Type} [DecidableEq α] : ∀ {l m : List α}, l.Nodup → (∀ x ∈ l, x ∈ m) → l.length ≤ m.length
  | [], m, _, _ => Nat.zero_le _
  | a :: l, m, hl, h => by
    have ha : a ∈ m := h a (by simp)
    have hn := List.nodup_cons.1 hl
    have := len_le_of (m := m.erase a) hn.2 fun x hx => (List.mem_erase_of_ne (fun e => hn.1 (by rw [← e]; exact hx))).2 (h x (by simp [hx]))
    rw [List.length_erase_of_mem ha] at this
    have hp := List.length_pos_of_mem ha
    simp only [List.length_cons]
    omega
theorem ex_least {P : Nat → Prop} (h : ∃ n, P n) : ∃ n, P n ∧ ∀ m, m < n → ¬ P m := by
  obtain ⟨n, hn⟩ := h
  induction n using Nat.strongRecOn with
  | ind n ih =>
    by_cases h : ∃ m, m < n ∧ P m
    · obtain ⟨m, h1, h2⟩ := h; exact ih m h1 h2
    · exact ⟨n, hn, fun m hm hp => h ⟨m, hm, hp⟩⟩
structure IsP (n : Nat) (f g : Nat → Nat) : Prop where
  lt : ∀ i, i < n → f i < n
  glt : ∀ i, i < n → g i < n
  gf : ∀ i, i < n → g (f i) = i
  fg : ∀ i, i < n → f (g i) = i
theorem IsP.comp {n : Nat} {f g f' g' : Nat → Nat} (h : IsP n f g) (k : IsP n f' g') : IsP n (fun i => f' (f i)) (fun i => g (g' i)) :=
  ⟨fun i hi => k.lt _ (h.lt i hi), fun i hi => h.glt _ (k.glt i hi), fun i hi => by show g (g' (f' (f i))) = i; rw [k.gf _ (h.lt i hi), h.gf i hi], fun i hi => by show f' (f (g (g' i))) = i; rw [h.fg _ (k.glt i hi), k.fg i hi]⟩
theorem IsP.inj {n : Nat} {f g : Nat → Nat} (h : IsP n f g) {i j : Nat} (hi : i < n) (hj : j < n) (e : f i = f j) : i = j := by rw [← h.gf i hi, e, h.gf j hj]
def it (f : Nat → Nat) : Nat → Nat → Nat
  | 0, x => x
  | k + 1, x => f (it f k x)
section
variable {n : Nat} {f g : Nat → Nat} {x y : Nat}
theorem it_add (f : Nat → Nat) (a b x : Nat) : it f (a + b) x = it f a (it f b x) := by
  induction a with
  | zero => simp [it]
  | succ a ih => rw [show a + 1 + b = a + b + 1 by omega]; simp only [it]; rw [ih]
theorem it_lt (h : IsP n f g) (hx : x < n) (k : Nat) : it f k x < n := by
  induction k with
  | zero => exact hx
  | succ k ih => exact h.lt _ ih
theorem it_inj (h : IsP n f g) (hx : x < n) (hy : y < n) : ∀ {k : Nat}, it f k x = it f k y → x = y
  | 0, e => e
  | k + 1, e => it_inj h hx hy (h.inj (it_lt h hx k) (it_lt h hy k) e)
theorem it_mul {m : Nat} (h : it f m x = x) (q : Nat) : it f (m * q) x = x := by
  induction q with
  | zero => rfl
  | succ q ih => rw [Nat.mul_succ, it_add, h, ih]
theorem returns (h : IsP n f g) (hx : x < n) : ∃ m, 0 < m ∧ m ≤ n ∧ it f m x = x := by
  by_cases hc : ∃ a b, a < b ∧ b ≤ n ∧ it f a x = it f b x
  · obtain ⟨a, b, h1, h2, h3⟩ := hc
    refine ⟨b - a, by omega, by omega, ?_⟩
    have e : it f b x = it f a (it f (b - a) x) := by rw [← it_add]; congr 1; omega
    rw [e] at h3
    exact (it_inj h hx (it_lt h hx _) h3).symm
  · exfalso
    have hd : ((List.range (n + 1)).map fun k => it f k x).Nodup := by
      unfold List.Nodup
      rw [List.pairwise_map]
      exact List.pairwise_lt_range.imp_of_mem fun {a b} _ hb hab e => hc ⟨a, b, hab, by have := List.mem_range.1 hb; omega, e⟩
    have := len_le_of hd (m := List.range n) fun y hy => by
      obtain ⟨k, -, rfl⟩ := List.mem_map.1 hy
      exact List.mem_range.2 (it_lt h hx k)
    simp only [List.length_map, List.length_range] at this
    omega
open Classical in
/-- the length of a cycle -/
noncomputable def ordr (f : Nat → Nat) (x : Nat) : Nat := if h : ∃ m, 0 < m ∧ it f m x = x then (ex_least h).choose else 0
theorem ordr_spec (h : IsP n f g) (hx : x < n) : 0 < ordr f x ∧ it f (ordr f x) x = x ∧ ordr f x ≤ n ∧ ∀ m, 0 < m → m < ordr f x → it f m x ≠ x := by
  obtain ⟨m, h1, h2, h3⟩ := returns h hx
  have he : ∃ m, 0 < m ∧ it f m x = x := ⟨m, h1, h3⟩
  have hs := (ex_least he).choose_spec
  have e : ordr f x = (ex_least he).choose := by unfold ordr; rw [dif_pos he]
  rw [← e] at hs
  refine ⟨hs.1.1, hs.1.2, ?_, fun m a b c => hs.2 m b ⟨a, c⟩⟩
  refine Nat.le_trans (Nat.le_of_not_lt fun hlt => ?_) h2
  exact hs.2 m hlt ⟨h1, h3⟩
def InC (f : Nat → Nat) (x y : Nat) : Prop := ∃ k, it f k x = y
theorem InC.refl (f : Nat → Nat) (x : Nat) : InC f x x := ⟨0, rfl⟩
theorem InC.trans {z : Nat} (a : InC f x y) (b : InC f y z) : InC f x z := by
  obtain ⟨k, rfl⟩ := a
  obtain ⟨m, rfl⟩ := b
  exact ⟨m + k, it_add f m k x⟩
theorem InC.symm (h : IsP n f g) (hx : x < n) (a : InC f x y) : InC f y x := by
  obtain ⟨k, rfl⟩ := a
  obtain ⟨h1, h2, -⟩ := ordr_spec h hx
  refine ⟨ordr f x * k - k, ?_⟩
  have : k ≤ ordr f x * k := Nat.le_mul_of_pos_left k h1
  rw [← it_add, show ordr f x * k - k + k = ordr f x * k by omega, it_mul h2]
end
end Go.PI
/- HOW MANY BITS ARE SET: the sums of a word's fields. -/
namespace Go.PI
set_option maxRecDepth 20000
def M1 : Nat → Nat
  | 0 => 0
  | k + 1 => 85 + 256 * M1 k
def M2 : Nat → Nat
  | 0 => 0
  | k + 1 => 51 + 256 * M2 k
def M3 : Nat → Nat
  | 0 => 0
  | k + 1 => 15 + 256 * M3 k
def g1 (k w : Nat) : Nat := (w / 2 &&& M1 k) + (w &&& M1 k)
def g2 (k w : Nat) : Nat := (w / 4 &&& M2 k) + (w &&& M2 k)
def g3 (k w : Nat) : Nat := (w / 16 + w) &&& M3 k
def p1 (y : Nat) : Nat := (y / 2 &&& 85) + (y &&& 85)
def p2 (y : Nat) : Nat := (y / 4 &&& 51) + (y &&& 51)
def pc : Nat → Nat → Nat
  | 0, _ => 0
  | n + 1, w => w % 2 + pc n (w / 2)
theorem and_split (x m n : Nat) (hm : m < 256) : x &&& (m + 256 * n) = (x % 256 &&& m) + 256 * (x / 256 &&& n) := by
  have h1 := Nat.and_mod_two_pow (a := x) (b := m + 256 * n) (n := 8)
  have h2 := Nat.and_div_two_pow (a := x) (b := m + 256 * n) (n := 8)
  have e1 : (m + 256 * n) % 2 ^ 8 = m := by omega
  have e2 : (m + 256 * n) / 2 ^ 8 = n := by omega
  rw [e1] at h1
  rw [e2] at h2
  have e3 : (2 : Nat) ^ 8 = 256 := rfl
  rw [e3] at h1 h2
  omega
theorem d1 : ∀ y, y < 256 → ∀ b, b < 2 → (y / 2 + 128 * b) &&& 85 = y / 2 &&& 85 := by decide +kernel
theorem d2 : ∀ y, y < 256 → ∀ b, b < 4 → (y / 4 + 64 * b) &&& 51 = y / 4 &&& 51 := by decide +kernel
theorem d3 : ∀ y, y < 256 → p1 y < 256 ∧ p2 (p1 y) < 256 ∧ p2 (p1 y) % 16 ≤ 4 ∧ p2 (p1 y) / 16 ≤ 4 := by decide +kernel
theorem d4 : ∀ y, y < 256 → ∀ c, c < 5 → (p2 (p1 y) / 16 + 16 * c + p2 (p1 y)) &&& 15 = pc 8 y := by decide +kernel
theorem d5 : ∀ y, y < 256 → pc 8 y ≤ 8 := by decide +kernel
theorem g1_split (k w : Nat) : g1 (k + 1) w = p1 (w % 256) + 256 * g1 k (w / 256) := by
  have h := d1 (w % 256) (Nat.mod_lt _ (by omega)) (w / 256 % 2) (Nat.mod_lt _ (by omega))
  show (w / 2 &&& (85 + 256 * M1 k)) + (w &&& (85 + 256 * M1 k)) = _
  rw [and_split _ _ _ (by omega), and_split w _ _ (by omega)]
  have e1 : w / 2 % 256 = w % 256 / 2 + 128 * (w / 256 % 2) := by omega
  have e2 : w / 2 / 256 = w / 256 / 2 := by omega
  rw [e1, e2, h]
  unfold p1 g1
  omega
theorem g2_split (k w : Nat) : g2 (k + 1) w = p2 (w % 256) + 256 * g2 k (w / 256) := by
  have h := d2 (w % 256) (Nat.mod_lt _ (by omega)) (w / 256 % 4) (Nat.mod_lt _ (by omega))
  show (w / 4 &&& (51 + 256 * M2 k)) + (w &&& (51 + 256 * M2 k)) = _
  rw [and_split _ _ _ (by omega), and_split w _ _ (by omega)]
  have e1 : w / 4 % 256 = w % 256 / 4 + 64 * (w / 256 % 4) := by omega
  have e2 : w / 4 / 256 = w / 256 / 4 := by omega
  rw [e1, e2, h]
  unfold p2 g2
  omega
theorem g12 (k w : Nat) : g2 (k + 1) (g1 (k + 1) w) = p2 (p1 (w % 256)) + 256 * g2 k (g1 k (w / 256)) := by
  obtain ⟨h1, -⟩ := d3 (w % 256) (Nat.mod_lt _ (by omega))
  rw [g2_split, g1_split]
  have e1 : (p1 (w % 256) + 256 * g1 k (w / 256)) % 256 = p1 (w % 256) := by omega
  have e2 : (p1 (w % 256) + 256 * g1 k (w / 256)) / 256 = g1 k (w / 256) := by omega
  rw [e1, e2]
theorem g12_low (k w : Nat) : g2 k (g1 k w) % 16 ≤ 4 := by
  cases k with
  | zero => show ((g1 0 w / 4 &&& 0) + (g1 0 w &&& 0)) % 16 ≤ 4; simp
  | succ k =>
    rw [g12]
    have := (d3 (w % 256) (Nat.mod_lt _ (by omega))).2.2.1
    omega
theorem g123 (k w : Nat) : g3 (k + 1) (g2 (k + 1) (g1 (k + 1) w)) = pc 8 (w % 256) + 256 * g3 k (g2 k (g1 k (w / 256))) := by
  have hy := Nat.mod_lt w (show 256 > 0 by omega)
  obtain ⟨h1, h2, h3, h4⟩ := d3 (w % 256) hy
  have hl := g12_low k (w / 256)
  have h5 := d4 (w % 256) hy (g2 k (g1 k (w / 256)) % 16) (by omega)
  rw [g12]
  generalize g2 k (g1 k (w / 256)) = z at hl h5 ⊢
  generalize p2 (p1 (w % 256)) = y at h2 h3 h4 h5 ⊢
  show ((y + 256 * z) / 16 + (y + 256 * z)) &&& (15 + 256 * M3 k) = _
  rw [and_split _ _ _ (by omega)]
  have e1 : ((y + 256 * z) / 16 + (y + 256 * z)) % 256 = y / 16 + 16 * (z % 16) + y := by omega
  have e2 : ((y + 256 * z) / 16 + (y + 256 * z)) / 256 = z / 16 + z := by omega
  rw [e1, e2, h5]
  rfl
def bys : Nat → Nat → Nat
  | 0, _ => 0
  | k + 1, w => pc 8 (w % 256) + bys k (w / 256)
theorem dv {x c B r : Nat} (h : x = c + B * r) (hc : c < B) : x / B = r := by
  subst h
  rw [Nat.add_mul_div_left _ _ (by omega), Nat.div_eq_of_lt hc, Nat.zero_add]
theorem md {x s r : Nat} (h : x = s + 128 * r) (hs : s < 128) : x % 128 = s := by
  subst h
  rw [Nat.add_mul_mod_self_left, Nat.mod_eq_of_lt hs]
theorem fin8 {c0 c1 c2 c3 c4 c5 c6 c7 : Nat} (h0 : c0 ≤ 8) (h1 : c1 ≤ 8) (h2 : c2 ≤ 8) (h3 : c3 ≤ 8) (h4 : c4 ≤ 8) (h5 : c5 ≤ 8) (h6 : c6 ≤ 8) (h7 : c7 ≤ 8) {x x4 x5 x6 : Nat}
    (hx : x = c0 + 256 * c1 + 65536 * c2 + 16777216 * c3 + 4294967296 * c4 + 1099511627776 * c5 + 281474976710656 * c6 + 72057594037927936 * c7) (e4 : x4 = x + x / 256) (e5 : x5 = x4 + x4 / 65536) (e6 : x6 = x5 + x5 / 4294967296) :
    x6 % 128 = c0 + c1 + c2 + c3 + c4 + c5 + c6 + c7 ∧ x4 < 9223372036854775808 ∧ x5 < 9223372036854775808 ∧ x6 < 9223372036854775808 ∧ x < 9223372036854775808 := by
  have a4 := dv (x := x) (c := c0) (B := 256) (r := c1 + 256 * c2 + 65536 * c3 + 16777216 * c4 + 4294967296 * c5 + 1099511627776 * c6 + 281474976710656 * c7) (by omega) (by omega)
  rw [a4] at e4
  have a5 := dv (x := x4) (c := (c0 + c1) + 256 * (c1 + c2)) (B := 65536) (r := (c2 + c3) + 256 * (c3 + c4) + 65536 * (c4 + c5) + 16777216 * (c5 + c6) + 4294967296 * (c6 + c7) + 1099511627776 * c7) (by omega) (by omega)
  rw [a5] at e5
  have a6 := dv (x := x5) (c := (c0 + c1 + c2 + c3) + 256 * (c1 + c2 + c3 + c4) + 65536 * (c2 + c3 + c4 + c5) + 16777216 * (c3 + c4 + c5 + c6)) (B := 4294967296) (r := (c4 + c5 + c6 + c7) + 256 * (c5 + c6 + c7) + 65536 * (c6 + c7) + 16777216 * c7) (by omega) (by omega)
  rw [a6] at e6
  clear a4 a5 a6
  refine ⟨md (r := 2 * ((c1 + c2 + c3 + c4 + (c5 + c6 + c7)) + 256 * (c2 + c3 + c4 + c5 + (c6 + c7)) + 65536 * (c3 + c4 + c5 + c6 + c7) + 16777216 * (c4 + c5 + c6 + c7) + 4294967296 * (c5 + c6 + c7) + 1099511627776 * (c6 + c7) + 281474976710656 * c7)) ?_ (by omega), by omega, by omega, by omega, by omega⟩
  omega
end Go.PI
/- PLAIN VALUES: the body of a loop over a function. -/
namespace Go.PI
def pfold (T : List PV) : List Tmp → List PV → List PV
  | p :: ps, a :: as => pfold (T.set p a) ps as
  | _, _ => T
theorem pfold_rel {H : Heap} {W : Nat → Prop} {β : List Nat} : ∀ {ps : List Tmp} {T : List PV} {T' : List AV} {as : List PV} {bs : List AV}, All2 (RelV H W β) T T' → All2 (RelV H W β) as bs → All2 (RelV H W β) (pfold T ps as) (foldPar T' ps bs)
  | [], T, T', as, bs, h, k => by
    cases k <;> exact h
  | p :: ps, T, T', as, bs, h, k => by
    cases k with
    | nil => exact h
    | cons a b => exact pfold_rel (ps := ps) (All2.set h a p) b
def Ex.cont (e : Ex) : Bool := e.jump.isNone
def LpD.to (y : LpD) (e : Ex) : LpD := { y with st := if e.cont then .ready else .done, e := e }
def LpD.busy (y : LpD) : LpD := { y with st := .busy }
theorem cy_of (O : Opn) {C : Ctx} {i : Nat} {ps : List PV} {σ : List StB} {d : Nat} {Q : Bool → List StB → Prop} {x : LpD} (hi : σ[i]? = some (.lp x)) (hst : x.st = .ready) (hlen : ps.length = x.ps.size)
    (h : ∀ c k, k + d ≤ c → wC O (some i) C c x.as ⟨pfold x.T x.ps.toList ps, σ, k⟩ fun e s => e = .normal ∧ ∃ y, s.σ[i]? = some (.lp y) ∧ y.st = .ready ∧
      wC O (some i) C c x.bd ⟨s.T, s.σ.set i (.lp y.busy), s.k⟩ fun e s2 => ∃ z, s2.σ[i]? = some (.lp z) ∧ s2.k ≤ k + d ∧ Q e.cont (s2.σ.set i (.lp (z.to e)))) : Cy C i ps σ d Q := by
  intro H0 W0 c k W β H as l I hc hl hr
  obtain ⟨hW, L, hL, hx⟩ := I.lop i x l hi hl
  have hst0 : SR (some i) W β H H0 W0 c ⟨pfold x.T x.ps.toList ps, σ, k⟩ ⟨foldPar L.tmps L.params.toList as, H, []⟩ := by
    refine ⟨W, β, ⟨fun _ => rfl, List.nodup_nil, fun d hd => by cases hd⟩, Ext.refl _ _ _, I, ?_⟩
    rw [hx.ps]
    exact pfold_rel hx.T hr
  obtain ⟨n1, e1, t1, h1, s1, ⟨W1, β1, hd1, E1, I1, hr1⟩, he1, y, hy, hyst, h2⟩ := wC_ok (rd := some i) (rdH := some l) (show β[i]? = some l from hl) (h c k hc) hst0
  subst he1
  obtain ⟨T1, H1, D1⟩ := t1
  simp only at hd1 E1 I1 hr1 h2
  have hD1 : D1 = [] := hd1.nil rfl
  subst hD1
  have hl1 := E1.bt _ _ hl
  obtain ⟨hW1, L1, hL1, hy1⟩ := I1.lop i y l hy hl1
  obtain ⟨E2, I2⟩ := I1.writeB hy rfl hl1 (y := .lp y.busy) (bk := .loop { L1 with state := .busy }) ⟨_, rfl, rfl, hy1.e, hy1.ps, hy1.as, hy1.bd, hy1.T⟩
  have E12 := E1.trans E2
  have hst2 : SR (some i) W1 β1 (H1.set l (.loop { L1 with state := .busy })) H0 W0 c ⟨s1.T, s1.σ.set i (.lp y.busy), s1.k⟩ ⟨T1, H1.set l (.loop { L1 with state := .busy }), []⟩ :=
    ⟨W1, β1, ⟨fun _ => rfl, List.nodup_nil, fun d hd => by cases hd⟩, Ext.refl _ _ _, I2, RelVs.ext E2 hr1⟩
  obtain ⟨n2, e2, t2, h3, s2, ⟨W2, β2, hd2, E3, I3, hr2⟩, z, hz, hk, hQ⟩ := wC_ok (rd := some i) (rdH := some l) (show β1[i]? = some l from hl1) h2 hst2
  obtain ⟨T2, H2, D2⟩ := t2
  simp only at hd2 E3 I3 hr2 hz hk hQ
  have hD2 : D2 = [] := hd2.nil rfl
  subst hD2
  have hl2 := E3.bt _ _ hl1
  obtain ⟨hW2, L2, hL2, hz2⟩ := I3.lop i z l hz hl2
  obtain ⟨E4, I4⟩ := I3.writeB hz rfl hl2 (y := .lp (z.to e2)) (bk := .loop { L2 with state := if e2.jump.isNone then .ready else .done, pending := e2.jump }) ⟨_, rfl, rfl, rfl, hz2.ps, hz2.as, hz2.bd, hz2.T⟩
  refine ⟨max n1 n2, .bool e2.jump.isNone, H2.set l (.loop { L2 with state := if e2.jump.isNone then .ready else .done, pending := e2.jump }), ?_, e2.cont, _, s2.k, W2, β2, (E12.trans E3).trans E4, I4, rfl, hQ, hk⟩
  have hal : as.length = L.params.size := by rw [hx.ps, ← hlen, hr.length]
  rw [← hx.as] at h1
  rw [← hx.bd] at h3
  have h1' := ev_mono (Nat.le_max_left n1 n2) _ _ _ _ h1
  have h3' : ev C (max n1 n2) (some l) L.body ⟨T1, H1.set l (.loop { L1 with state := .busy }), []⟩ = some (e2, ⟨T2, H2, []⟩) := ev_mono (Nat.le_max_right n1 n2) _ _ _ _ h3
  simp only [yieldF, hL]
  rw [if_pos ⟨hal, hx.st.trans hst⟩, h1']
  simp only [hL1]
  rw [if_pos (hy1.st.trans hyst), h3']
  simp only [hL2]
end Go.PI
