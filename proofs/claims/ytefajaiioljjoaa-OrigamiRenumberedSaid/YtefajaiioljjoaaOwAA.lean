/- Own work of the verifier: PiDefs. -/
import Derived.RangeFuncRecord
import Derived.CallsIn
import Derived.Orders
import Derived.Below
import Derived.Laws.Cells
import Derived.Laws.CopyRow
import Derived.MapKept
set_option linter.all false
set_option exponentiation.threshold 3000
set_option linter.deprecated false
/- AN INTERPRETER OF THE LOADED CODE OVER A HEAP OF ITS OWN, WITHOUT A TAPE. -/
namespace Go.PI
inductive All2 {α β : Type} (R : α → β → Prop) : List α → List β → Prop
  | nil : All2 R [] []
  | cons {a : α} {b : β} {as : List α} {bs : List β} : R a b → All2 R as bs → All2 R (a :: as) (b :: bs)
inductive AV where
  | int (k : IntKind) (n : Int)
  | bool (b : Bool)
  | str (s : ByteArray)
  | nilp
  | ptr (b off : Nat)
  | nils
  | sl (b off len cap : Nat)
  | slu (b off len esz : Nat)
  | sle
  | nilf
  | yld (l : Nat)
  | nilm
  | mp (b : Nat)
  | fn (f : Nat) (first captured : List AV)
  | nili
  | ifc (t : TypeId) (v : AV)
  | agg (cs : List AV)
  | tup (vs : List AV)
  | any (v : Value)
  deriving Inhabited
structure BI where
  c : Nat
  top : Nat
  base : Nat
def qty (t : Nat) : Bool := !(t == 226 || t == 248 || t == 147 || t == 132)
abbrev M := Nat → Option BI
def M.le (μ ν : M) : Prop := ∀ A b, μ A = some b → ν A = some b
theorem M.le.refl (μ : M) : M.le μ μ := fun _ _ h => h
theorem M.le.trans {a b c : M} (h : M.le a b) (k : M.le b c) : M.le a c := fun A x e => k A x (h A x e)
def M.cut (μ : M) (n : Nat) : M := fun A => if A < n then μ A else none
theorem M.cut_mono {μ ν : M} {m n : Nat} (h : M.le μ ν) (k : m ≤ n) : M.le (μ.cut m) (ν.cut n) := fun A b e => by
  unfold M.cut at *
  split at e
  · rw [if_pos (by omega)]; exact h A b e
  · cases e
def M.set (μ : M) (A : Nat) (b : BI) : M := fun X => if X = A then some b else μ X
theorem M.le_set {μ : M} {A : Nat} {b : BI} (h : μ A = none) : M.le μ (μ.set A b) := fun X x e => by
  unfold M.set; split
  · rename_i hx; subst hx; rw [h] at e; cases e
  · exact e
theorem M.set_self (μ : M) (A : Nat) (b : BI) : (μ.set A b) A = some b := by simp [M.set]
inductive VR (μ : M) : AV → Value → Prop
  | int (k : IntKind) (n : Int) : VR μ (.int k n) (.int k n)
  | bool (b : Bool) : VR μ (.bool b) (.bool b)
  | str (s : ByteArray) : VR μ (.str s) (.string s)
  | nilp : VR μ .nilp (.pointer none)
  | ptr {b off : Nat} {bi : BI} (h : μ b = some bi) : VR μ (.ptr b off) (.pointer (some ⟨bi.c, bi.base + off, none⟩))
  | nils : VR μ .nils (.slice none 0 0)
  | sl {b off len cap : Nat} {bi : BI} (h : μ b = some bi) : VR μ (.sl b off len cap) (.slice (some ⟨bi.c, bi.base + off, none⟩) len cap)
  | slu {b off len cap esz : Nat} {bi : BI} (h : μ b = some bi) (hc : off + cap * esz ≤ bi.top) (hl : len ≤ cap) (hm : cap ≤ maxLen) : VR μ (.slu b off len esz) (.slice (some ⟨bi.c, bi.base + off, none⟩) len cap)
  | sluz {b : Nat} {bi : BI} (h : μ b = some bi) (off esz : Nat) (a : Addr) : VR μ (.slu b off 0 esz) (.slice (some a) 0 0)
  | sle (a : Addr) (cap : Nat) : VR μ .sle (.slice (some a) 0 cap)
  | nilf : VR μ .nilf .nilFunc
  | nilm : VR μ .nilm (.map none)
  | mp {b : Nat} {bi : BI} (h : μ b = some bi) : VR μ (.mp b) (.map (some bi.c))
  | yld {l : Nat} {bi : BI} (h : μ l = some bi) : VR μ (.yld l) (.func (.yield bi.c) #[] #[])
  | fn {f : Nat} {as bs : List AV} {xs ys : Array Value} (h : All2 (VR μ) as xs.toList) (k : All2 (VR μ) bs ys.toList) : VR μ (.fn f as bs) (.func (.func f) xs ys)
  | nili : VR μ .nili .nilIface
  | ifc {t : TypeId} {a : AV} {v : Value} (h : VR μ a v) : VR μ (.ifc t a) (.iface t v)
  | agg {as : List AV} {xs : Array Value} (h : All2 (VR μ) as xs.toList) : VR μ (.agg as) (.agg xs)
  | tup {as : List AV} {xs : Array Value} (h : All2 (VR μ) as xs.toList) : VR μ (.tup as) (.tuple xs)
  | any (v : Value) (h : ∀ b, v ≠ .bool b) : VR μ (.any v) v
theorem VR.sl0 {μ : M} {b o l k c : Nat} {bi : BI} (h : μ b = some bi) (hc : bi.c = c := by rfl) (hb : bi.base = 0 := by rfl) : VR μ (.sl b o l k) (.slice (some ⟨c, o, none⟩) l k) := by
  have := VR.sl (off := o) (len := l) (cap := k) h
  rw [hc, hb, Nat.zero_add] at this
  exact this
theorem VR.ptr0 {μ : M} {b o c : Nat} {bi : BI} (h : μ b = some bi) (hc : bi.c = c := by rfl) (hb : bi.base = 0 := by rfl) : VR μ (.ptr b o) (.pointer (some ⟨c, o, none⟩)) := by
  have := VR.ptr (off := o) h
  rw [hc, hb, Nat.zero_add] at this
  exact this
theorem All2.mono' {α β : Type} {R S : α → β → Prop} (h : ∀ a b, R a b → S a b) {as : List α} {bs : List β} (k : All2 R as bs) : All2 S as bs := by
  induction k with
  | nil => exact .nil
  | cons x _ ih => exact .cons (h _ _ x) ih
theorem VR.mono {μ ν : M} (hm : M.le μ ν) {a : AV} {v : Value} (h : VR μ a v) : VR ν a v := by
  induction h using VR.rec (motive_2 := fun as bs _ => All2 (VR ν) as bs) with
  | int k n => exact .int k n
  | bool b => exact .bool b
  | str s => exact .str s
  | nilp => exact .nilp
  | ptr h => exact .ptr (hm _ _ h)
  | nils => exact .nils
  | sl h => exact .sl (hm _ _ h)
  | slu h a b d => exact .slu (hm _ _ h) a b d
  | sluz h o e a => exact .sluz (hm _ _ h) o e a
  | sle a c => exact .sle a c
  | nilf => exact .nilf
  | nilm => exact .nilm
  | mp h => exact .mp (hm _ _ h)
  | yld h => exact .yld (hm _ _ h)
  | fn _ _ a b => exact .fn a b
  | nili => exact .nili
  | ifc _ a => exact .ifc a
  | agg _ a => exact .agg a
  | tup _ a => exact .tup a
  | any v h => exact .any v h
  | nil => exact .nil
  | cons _ _ a b => exact .cons a b
abbrev VRs (μ : M) := All2 (VR μ)
theorem VRs.mono {μ ν : M} (hm : M.le μ ν) {as : List AV} {vs : List Value} (h : VRs μ as vs) : VRs ν as vs := All2.mono' (fun _ _ => VR.mono hm) h
section
variable {α β : Type} {R : α → β → Prop}
theorem All2.length {as : List α} {bs : List β} (h : All2 R as bs) : as.length = bs.length := by
  induction h with
  | nil => rfl
  | cons _ _ ih => simp [ih]
theorem All2.get {as : List α} {bs : List β} (h : All2 R as bs) {i : Nat} {a : α} (e : as[i]? = some a) : ∃ b, bs[i]? = some b ∧ R a b := by
  induction h generalizing i with
  | nil => simp at e
  | cons x _ ih =>
    cases i with
    | zero => simp at e; subst e; exact ⟨_, by simp, x⟩
    | succ i => simp at e; simpa using ih e
theorem All2.get_none {as : List α} {bs : List β} (h : All2 R as bs) {i : Nat} (e : as[i]? = none) : bs[i]? = none := by
  have := h.length
  simp at e ⊢; omega
theorem All2.append {as cs : List α} {bs ds : List β} (h : All2 R as bs) (k : All2 R cs ds) : All2 R (as ++ cs) (bs ++ ds) := by
  induction h with
  | nil => exact k
  | cons x _ ih => exact .cons x ih
theorem All2.take {as : List α} {bs : List β} (h : All2 R as bs) (n : Nat) : All2 R (as.take n) (bs.take n) := by
  induction h generalizing n with
  | nil => simp; exact .nil
  | cons x _ ih => cases n <;> simp; exact .nil; exact .cons x (ih _)
theorem All2.drop {as : List α} {bs : List β} (h : All2 R as bs) (n : Nat) : All2 R (as.drop n) (bs.drop n) := by
  induction h generalizing n with
  | nil => simp; exact .nil
  | cons x h ih => cases n <;> simp; exact .cons x h; exact ih _
theorem All2.set {as : List α} {bs : List β} (h : All2 R as bs) {a : α} {b : β} (r : R a b) (i : Nat) : All2 R (as.set i a) (bs.set i b) := by
  induction h generalizing i with
  | nil => exact .nil
  | cons x h ih => cases i <;> simp; exact .cons r h; exact .cons x (ih _)
theorem All2.replicate {a : α} {b : β} (r : R a b) (n : Nat) : All2 R (List.replicate n a) (List.replicate n b) := by
  induction n with
  | zero => exact .nil
  | succ n ih => exact .cons r ih
theorem All2.of_get {as : List α} {bs : List β} (hl : as.length = bs.length) (h : ∀ (i : Nat) a b, as[i]? = some a → bs[i]? = some b → R a b) : All2 R as bs := by
  induction as generalizing bs with
  | nil => cases bs with
    | nil => exact .nil
    | cons b bs => simp at hl
  | cons a as ih => cases bs with
    | nil => simp at hl
    | cons b bs => exact .cons (h 0 a b rfl rfl) (ih (by simpa using hl) fun i x y ex ey => h (i + 1) x y (by simpa using ex) (by simpa using ey))
end
structure ALoop where
  state : LoopState
  pending : Option Code
  tmps : List AV
  params : Array Tmp
  assign : Code
  body : Code
  dfr : Nat
inductive Blk where
  | dead
  | cells (rw : Bool) (ty : TypeId) (cs : List AV)
  | dfr
  | loop (l : ALoop)
  /-- a map of integers of a kind -/
  | map (k : IntKind) (es : List (Int × AV))
  /-- a map of texts -/
  | smap (es : List (ByteArray × AV))
  /-- how far one has come in a text -/
  | siter (s : ByteArray) (pos : Nat)
inductive Tr where
  | nil
  | nd (v : Blk) (l r : Tr)
def Tr.get : Tr → Nat → Blk
  | .nil, _ => .dead
  | .nd v l r, k => if k = 0 then v else if k % 2 = 1 then l.get (k / 2) else r.get (k / 2 - 1)
def Tr.set : Nat → Tr → Nat → Blk → Tr
  | 0, t, _, _ => t
  | d + 1, .nil, k, b => if k = 0 then .nd b .nil .nil else if k % 2 = 1 then .nd .dead (Tr.set d .nil (k / 2) b) .nil else .nd .dead .nil (Tr.set d .nil (k / 2 - 1) b)
  | d + 1, .nd v l r, k, b => if k = 0 then .nd b l r else if k % 2 = 1 then .nd v (Tr.set d l (k / 2) b) r else .nd v l (Tr.set d r (k / 2 - 1) b)
theorem Tr.get_set (d : Nat) : ∀ (t : Tr) (k : Nat) (b : Blk) (j : Nat), k + 1 < 2 ^ d → (Tr.set d t k b).get j = if j = k then b else t.get j := by
  induction d with
  | zero => intro t k b j h; simp at h
  | succ d ih =>
    intro t k b j h
    rw [Nat.pow_succ] at h
    cases t with
    | nil =>
      simp only [Tr.set]
      by_cases hk : k = 0
      · subst hk
        simp only [if_true, Tr.get]
        by_cases hj : j = 0
        · simp [hj]
        · simp [hj]
      · rw [if_neg hk]
        by_cases ho : k % 2 = 1
        · rw [if_pos ho]
          simp only [Tr.get]
          by_cases hj : j = 0
          · simp [hj, Ne.symm hk]
          · rw [if_neg hj]
            by_cases hjo : j % 2 = 1
            · rw [if_pos hjo, ih _ _ _ _ (by omega)]
              by_cases e : j = k
              · subst e; simp
              · rw [if_neg e, if_neg (by omega)]; rfl
            · rw [if_neg hjo, if_neg (by intro e; subst e; exact hjo ho)]
        · rw [if_neg ho]
          simp only [Tr.get]
          by_cases hj : j = 0
          · simp [hj, Ne.symm hk]
          · rw [if_neg hj]
            by_cases hjo : j % 2 = 1
            · rw [if_pos hjo, if_neg (by intro e; subst e; exact ho hjo)]
            · rw [if_neg hjo, ih _ _ _ _ (by omega)]
              by_cases e : j = k
              · subst e; simp
              · rw [if_neg e, if_neg (by omega)]; rfl
    | nd v l r =>
      simp only [Tr.set]
      by_cases hk : k = 0
      · subst hk
        simp only [if_true, Tr.get]
        by_cases hj : j = 0
        · simp [hj]
        · simp [hj]
      · rw [if_neg hk]
        by_cases ho : k % 2 = 1
        · rw [if_pos ho]
          simp only [Tr.get]
          by_cases hj : j = 0
          · simp [hj, Ne.symm hk]
          · rw [if_neg hj, if_neg hj]
            by_cases hjo : j % 2 = 1
            · rw [if_pos hjo, if_pos hjo, ih _ _ _ _ (by omega)]
              by_cases e : j = k
              · subst e; simp
              · rw [if_neg e, if_neg (by omega)]
            · rw [if_neg hjo, if_neg hjo, if_neg (by intro e; subst e; exact hjo ho)]
        · rw [if_neg ho]
          simp only [Tr.get]
          by_cases hj : j = 0
          · simp [hj, Ne.symm hk]
          · rw [if_neg hj, if_neg hj]
            by_cases hjo : j % 2 = 1
            · rw [if_pos hjo, if_pos hjo, if_neg (by intro e; subst e; exact ho hjo)]
            · rw [if_neg hjo, if_neg hjo, ih _ _ _ _ (by omega)]
              by_cases e : j = k
              · subst e; simp
              · rw [if_neg e, if_neg (by omega)]
structure Heap where
  n : Nat
  t : Tr
def Heap.get (H : Heap) (A : Nat) : Blk := if A < H.n then H.t.get A else .dead
def Heap.set (H : Heap) (A : Nat) (b : Blk) : Heap := ⟨H.n, Tr.set 40 H.t A b⟩
def Heap.push (H : Heap) (b : Blk) : Heap := ⟨H.n + 1, Tr.set 40 H.t H.n b⟩
def lim : Nat := 2 ^ 39
theorem Heap.get_set {H : Heap} {A : Nat} {b : Blk} (hA : A < H.n) (hn : H.n < lim) (X : Nat) : (H.set A b).get X = if X = A then b else H.get X := by
  unfold Heap.get Heap.set lim at *
  simp only
  by_cases hX : X < H.n
  · rw [if_pos hX, if_pos hX, Tr.get_set 40 _ _ _ _ (by omega)]
  · rw [if_neg hX, if_neg hX, if_neg (by omega)]
theorem Heap.get_push {H : Heap} {b : Blk} (hn : H.n < lim) (X : Nat) : (H.push b).get X = if X = H.n then b else H.get X := by
  unfold Heap.get Heap.push lim at *
  simp only
  by_cases hX : X < H.n + 1
  · rw [if_pos hX, Tr.get_set 40 _ _ _ _ (by omega)]
    by_cases e : X = H.n
    · rw [if_pos e, if_pos e]
    · rw [if_neg e, if_neg e, if_pos (by omega)]
  · rw [if_neg hX, if_neg (by omega), if_neg (by omega)]
theorem Heap.get_out {H : Heap} {A : Nat} (h : H.n ≤ A) : H.get A = .dead := by unfold Heap.get; rw [if_neg (by omega)]
theorem Heap.lt_of_get {H : Heap} {A : Nat} (h : H.get A ≠ .dead) : A < H.n := by
  rcases Nat.lt_or_ge A H.n with h' | h'
  · exact h'
  · exact absurd (Heap.get_out h') h
def Blk.own : Blk → Bool
  | .cells rw _ _ => rw
  | .dfr | .loop _ | .map _ _ | .smap _ | .siter _ _ => true
  | .dead => false
def Blk.live : Blk → Bool
  | .dead => false
  | _ => true
theorem Blk.live_of_own {b : Blk} (h : b.own = true) : b.live = true := by cases b <;> simp_all [Blk.own, Blk.live]
def EntS (μ : M) (e : ByteArray × AV) (m : MapEntry) : Prop := m.key = .string e.1 ∧ VR μ e.2 m.val
def EntR (μ : M) (k : IntKind) (e : Int × AV) (m : MapEntry) : Prop := m.key = .int k e.1 ∧ VR μ e.2 m.val
def BlkR (μ : M) (w : World) (bi : BI) : Blk → Prop
  | .dead => True
  | .cells rw ty cs => ∃ carr fz, w.heap[bi.c]? = some (.cells carr ty fz) ∧ carr.size = bi.base + bi.top ∧ cs.length ≤ bi.top ∧ VRs μ cs ((carr.toList.drop bi.base).take cs.length) ∧ (rw = true → fz = (0, 0)) ∧ (bi.base = 0 ∨ qty ty = true)
  | .dfr => w.heap[bi.c]? = some (.deferred (some []))
  | .loop L => ∃ lp, w.heap[bi.c]? = some (.loop lp) ∧ lp.state = L.state ∧ lp.pending = L.pending ∧ VRs μ L.tmps lp.tmps.toList ∧ lp.params = L.params ∧ lp.assign = L.assign ∧ lp.body = L.body ∧ ∃ bd, μ L.dfr = some bd ∧ lp.defers = bd.c
  | .map k es => ∃ ms clock, w.heap[bi.c]? = some (.map ms clock) ∧ All2 (EntR μ k) es ms.toList
  | .smap es => ∃ ms clock, w.heap[bi.c]? = some (.map ms clock) ∧ All2 (EntS μ) es ms.toList
  | .siter s pos => bi.base = 0 ∧ w.heap[bi.c]? = some (.stringIter s pos)
theorem blk0 {μ : M} {w : World} {bi : BI} {rw : Bool} {ty : TypeId} {cs : List AV} (hb : bi.base = 0) (h : ∃ carr fz, w.heap[bi.c]? = some (.cells carr ty fz) ∧ carr.size = bi.top ∧ cs.length ≤ carr.size ∧ VRs μ cs (carr.toList.take cs.length) ∧ (rw = true → fz = (0, 0))) : BlkR μ w bi (.cells rw ty cs) := by
  obtain ⟨carr, fz, h1, h2, h3, h4, h5⟩ := h
  exact ⟨carr, fz, h1, by omega, by omega, by rw [hb]; exact h4, h5, .inl hb⟩
structure HR (μ : M) (H : Heap) (w : World) : Prop where
  lim : H.n ≤ lim
  dom : ∀ A, H.n ≤ A → μ A = none
  blk : ∀ A bi, (H.get A).live = true → μ A = some bi → bi.c < w.heap.size ∧ BlkR μ w bi (H.get A)
  inj : ∀ A B a b, A ≠ B → (H.get A).own = true → (H.get B).live = true → μ A = some a → μ B = some b → a.c ≠ b.c
def Own (μ : M) (H : Heap) (k : Nat) : Prop := ∃ A a, (H.get A).own = true ∧ μ A = some a ∧ a.c = k
structure Fr (μ : M) (H : Heap) (w : World) (μ' : M) (H' : Heap) (w' : World) : Prop where
  le : M.le μ μ'
  eq : ∀ A, A < H.n → μ' A = μ A
  n : H.n ≤ H'.n
  os : w'.os = w.os
  tape : w'.tape = w.tape
  output : w'.output = w.output
  size : w.heap.size ≤ w'.heap.size
  keep : ∀ k, k < w.heap.size → ¬ Own μ H k → w'.heap[k]? = w.heap[k]? ∧ ¬ Own μ' H' k
  ro : ∀ A, (H'.get A).live = true → (H'.get A).own = false → A < H.n ∧ H'.get A = H.get A
theorem Fr.refl (μ : M) (H : Heap) (w : World) : Fr μ H w μ H w := ⟨M.le.refl _, fun _ _ => rfl, Nat.le_refl _, rfl, rfl, rfl, Nat.le_refl _, fun _ _ h => ⟨rfl, h⟩, fun A hl _ => ⟨Heap.lt_of_get (fun e => by rw [e] at hl; cases hl), rfl⟩⟩
theorem Fr.trans {μ μ' μ'' : M} {H H' H'' : Heap} {w w' w'' : World} (h : Fr μ H w μ' H' w') (k : Fr μ' H' w' μ'' H'' w'') : Fr μ H w μ'' H'' w'' :=
  ⟨h.le.trans k.le, fun A hA => (k.eq A (Nat.lt_of_lt_of_le hA h.n)).trans (h.eq A hA), Nat.le_trans h.n k.n, k.os.trans h.os, k.tape.trans h.tape, k.output.trans h.output, Nat.le_trans h.size k.size,
    fun i hi ho => by
      obtain ⟨h1, h2⟩ := h.keep i hi ho
      obtain ⟨k1, k2⟩ := k.keep i (Nat.lt_of_lt_of_le hi h.size) h2
      exact ⟨k1.trans h1, k2⟩, fun A hl ho => by
      obtain ⟨k1, k2⟩ := k.ro A hl ho
      rw [k2] at hl ho
      obtain ⟨h1, h2⟩ := h.ro A hl ho
      exact ⟨h1, k2.trans h2⟩⟩
end Go.PI
