/- Own work of the verifier: PvDefs PvPure. -/
import Derived.Test.YtdflpkkgjppmgaaGreatChAK
set_option linter.all false
set_option exponentiation.threshold 3000
set_option linter.deprecated false
/- PLAIN VALUES: slices that nobody writes any more stand for their contents; blocks of a function's own stand in a store. -/
namespace Go.PI
inductive PV where
  | int (k : IntKind) (n : Int)
  | bool (b : Bool)
  | str (s : ByteArray)
  | nilp
  | nilf
  | nilm
  | nili
  | fn (f : Nat)
  /-- a function with what it has captured -/
  | fnc (f : Nat) (cs : List PV)
  /-- a map of our own -/
  | omap (i : Nat)
  /-- the body of a loop over a function -/
  | yld (i : Nat)
  | nils
  /-- a slice of n elements with these cells -/
  | lst (n : Nat) (cs : List PV)
  /-- a pointer to these cells -/
  | lptr (cs : List PV)
  /-- a slice of a block of our own; e is the size of an element -/
  | own (i o n c e : Nat)
  /-- one that append has made -/
  | ownu (i n e : Nat)
  /-- one that append has made, without its first elements -/
  | ownq (i o n e : Nat)
  | optr (i o : Nat)
  /-- a pointer to cells that are not ours to write, and that is ours for the length of a call -/
  | bptr (cs : List PV)
  | agg (cs : List PV)
  | tup (vs : List PV)
  deriving Inhabited
abbrev pn (n : Int) : PV := .int .i64 n
def undefP : PV := .tup []
inductive RelC (H : Heap) (W : Nat → Prop) : PV → AV → Prop
  | int (k : IntKind) (n : Int) : RelC H W (.int k n) (.int k n)
  | bool (b : Bool) : RelC H W (.bool b) (.bool b)
  | str (s : ByteArray) : RelC H W (.str s) (.str s)
  | nilp : RelC H W .nilp .nilp
  | nilf : RelC H W .nilf .nilf
  | nilm : RelC H W .nilm .nilm
  | nili : RelC H W .nili .nili
  | fn (f : Nat) : RelC H W (.fn f) (.fn f [] [])
  | fnc (f : Nat) {cs : List PV} {as : List AV} (h : All2 (RelC H W) cs as) : RelC H W (.fnc f cs) (.fn f [] as)
  | lnil : RelC H W (.lst 0 []) .nils
  | lsle : RelC H W (.lst 0 []) .sle
  | sl {n : Nat} {cs : List PV} {b o c : Nat} {rw : Bool} {ty : TypeId} {bcs : List AV} (hW : ¬ W b) (hg : H.get b = .cells rw ty bcs) (hb : o + cs.length ≤ bcs.length) (hc : n ≤ c) (h : All2 (RelC H W) cs ((bcs.drop o).take cs.length)) : RelC H W (.lst n cs) (.sl b o n c)
  | slu {n : Nat} {cs : List PV} {b o e : Nat} {rw : Bool} {ty : TypeId} {bcs : List AV} (hW : ¬ W b) (hg : H.get b = .cells rw ty bcs) (hb : o + cs.length ≤ bcs.length) (he : cs.length = n * e ∧ (n = 0 → e = 1)) (h : All2 (RelC H W) cs ((bcs.drop o).take cs.length)) : RelC H W (.lst n cs) (.slu b o n e)
  | lptr {cs : List PV} {b o : Nat} {rw : Bool} {ty : TypeId} {bcs : List AV} (hW : ¬ W b) (hg : H.get b = .cells rw ty bcs) (hb : o + cs.length ≤ bcs.length) (h : All2 (RelC H W) cs ((bcs.drop o).take cs.length)) : RelC H W (.lptr cs) (.ptr b o)
  | agg {cs : List PV} {as : List AV} (h : All2 (RelC H W) cs as) : RelC H W (.agg cs) (.agg as)
  | tup {cs : List PV} {as : List AV} (h : All2 (RelC H W) cs as) : RelC H W (.tup cs) (.tup as)
inductive RelV (H : Heap) (W : Nat → Prop) (β : List Nat) : PV → AV → Prop
  | clo {p : PV} {a : AV} (h : RelC H W p a) : RelV H W β p a
  | nils : RelV H W β .nils .nils
  | fnc (f : Nat) {cs : List PV} {as : List AV} (h : All2 (RelV H W β) cs as) : RelV H W β (.fnc f cs) (.fn f [] as)
  | omap {i b : Nat} (h : β[i]? = some b) : RelV H W β (.omap i) (.mp b)
  | yld {i b : Nat} (h : β[i]? = some b) : RelV H W β (.yld i) (.yld b)
  | own {i b : Nat} (o n c e : Nat) (h : β[i]? = some b) : RelV H W β (.own i o n c e) (.sl b o n c)
  | ownu {i b : Nat} (n e : Nat) (h : β[i]? = some b) : RelV H W β (.ownu i n e) (.slu b 0 n e)
  | ownq {i b : Nat} (o n e : Nat) (h : β[i]? = some b) : RelV H W β (.ownq i o n e) (.slu b o n e)
  | optr {i b : Nat} (o : Nat) (h : β[i]? = some b) : RelV H W β (.optr i o) (.ptr b o)
  | bptr {cs : List PV} {b o : Nat} {rw : Bool} {ty : TypeId} {bcs : List AV} (hn : ∀ i : Nat, β[i]? ≠ some b) (hg : H.get b = .cells rw ty bcs) (hb : o + cs.length ≤ bcs.length) (h : All2 (RelC H W) cs ((bcs.drop o).take cs.length)) : RelV H W β (.bptr cs) (.ptr b o)
  | agg {cs : List PV} {as : List AV} (h : All2 (RelV H W β) cs as) : RelV H W β (.agg cs) (.agg as)
  | tup {cs : List PV} {as : List AV} (h : All2 (RelV H W β) cs as) : RelV H W β (.tup cs) (.tup as)
theorem Heap.lt_cells {H : Heap} {b : Nat} {rw : Bool} {ty : TypeId} {cs : List AV} (h : H.get b = .cells rw ty cs) : b < H.n := Heap.lt_of_get (by rw [h]; simp)
structure Ext (W : Nat → Prop) (β : List Nat) (H : Heap) (W' : Nat → Prop) (β' : List Nat) (H' : Heap) : Prop where
  n : H.n ≤ H'.n
  get : ∀ A, A < H.n → ¬ W A → H'.get A = H.get A
  w : ∀ A, A < H.n → W' A → W A
  bt : ∀ (i b : Nat), β[i]? = some b → β'[i]? = some b
  o : ∀ A, A < H.n → (∀ i : Nat, β[i]? ≠ some A) → H'.get A = H.get A
  bk : ∀ (i x : Nat), β'[i]? = some x → x < H.n → ∃ j : Nat, β[j]? = some x
theorem Ext.refl (W : Nat → Prop) (β : List Nat) (H : Heap) : Ext W β H W β H := ⟨Nat.le_refl _, fun _ _ _ => rfl, fun _ _ h => h, fun _ _ h => h, fun _ _ _ => rfl, fun i _ h _ => ⟨i, h⟩⟩
theorem Ext.trans {W W' W'' : Nat → Prop} {β β' β'' : List Nat} {H H' H'' : Heap} (h : Ext W β H W' β' H') (k : Ext W' β' H' W'' β'' H'') : Ext W β H W'' β'' H'' :=
  ⟨Nat.le_trans h.n k.n, fun A hA hW => by rw [k.get A (Nat.lt_of_lt_of_le hA h.n) fun hw => hW (h.w A hA hw), h.get A hA hW], fun A hA hw => h.w A hA (k.w A (Nat.lt_of_lt_of_le hA h.n) hw), fun i b hb => k.bt i b (h.bt i b hb), fun A hA hn => by
    rw [k.o A (Nat.lt_of_lt_of_le hA h.n) (fun i hi => by obtain ⟨j, hj⟩ := h.bk i A hi hA; exact hn j hj), h.o A hA hn],
   fun i x hx hl => by
    obtain ⟨j, hj⟩ := k.bk i x hx (Nat.lt_of_lt_of_le hl h.n)
    exact h.bk j x hj hl⟩
theorem RelC.mono {H H' : Heap} {W W' : Nat → Prop} (hg : ∀ A, A < H.n → ¬ W A → H'.get A = H.get A) (hw : ∀ A, A < H.n → W' A → W A) {p : PV} {a : AV} (h : RelC H W p a) : RelC H' W' p a := by
  induction h using RelC.rec (motive_2 := fun ps as _ => All2 (RelC H' W') ps as) with
  | int k n => exact .int k n
  | bool b => exact .bool b
  | str s => exact .str s
  | nilp => exact .nilp
  | nilf => exact .nilf
  | nilm => exact .nilm
  | nili => exact .nili
  | fn f => exact .fn f
  | fnc f _ ih => exact .fnc f ih
  | lnil => exact .lnil
  | lsle => exact .lsle
  | sl hW h1 hb hc _ ih => exact .sl (fun x => hW (hw _ (Heap.lt_cells h1) x)) ((hg _ (Heap.lt_cells h1) hW).trans h1) hb hc ih
  | slu hW h1 hb hc _ ih => exact .slu (fun x => hW (hw _ (Heap.lt_cells h1) x)) ((hg _ (Heap.lt_cells h1) hW).trans h1) hb hc ih
  | lptr hW h1 hb _ ih => exact .lptr (fun x => hW (hw _ (Heap.lt_cells h1) x)) ((hg _ (Heap.lt_cells h1) hW).trans h1) hb ih
  | agg _ ih => exact .agg ih
  | tup _ ih => exact .tup ih
  | nil => exact .nil
  | cons _ _ i1 i2 => exact .cons i1 i2
theorem RelC.ext {H H' : Heap} {W W' : Nat → Prop} {β β' : List Nat} (e : Ext W β H W' β' H') {p : PV} {a : AV} (h : RelC H W p a) : RelC H' W' p a := h.mono e.get e.w
theorem RelCs.ext {H H' : Heap} {W W' : Nat → Prop} {β β' : List Nat} (e : Ext W β H W' β' H') {ps : List PV} {as : List AV} (h : All2 (RelC H W) ps as) : All2 (RelC H' W') ps as := All2.mono' (fun _ _ => RelC.ext e) h
theorem RelV.ext {H H' : Heap} {W W' : Nat → Prop} {β β' : List Nat} (e : Ext W β H W' β' H') {p : PV} {a : AV} (h : RelV H W β p a) : RelV H' W' β' p a := by
  induction h using RelV.rec (motive_2 := fun ps as _ => All2 (RelV H' W' β') ps as) with
  | clo h => exact .clo (h.ext e)
  | nils => exact .nils
  | fnc f _ ih => exact .fnc f ih
  | omap h => exact .omap (e.bt _ _ h)
  | yld h => exact .yld (e.bt _ _ h)
  | own o n c z h => exact .own o n c z (e.bt _ _ h)
  | ownu n z h => exact .ownu n z (e.bt _ _ h)
  | ownq o n z h => exact .ownq o n z (e.bt _ _ h)
  | optr o h => exact .optr o (e.bt _ _ h)
  | bptr hn hg hb h => exact .bptr (fun i hi => by obtain ⟨j, hj⟩ := e.bk i _ hi (Heap.lt_cells hg); exact hn j hj) ((e.o _ (Heap.lt_cells hg) hn).trans hg) hb (RelCs.ext e h)
  | agg _ ih => exact .agg ih
  | tup _ ih => exact .tup ih
  | nil => exact .nil
  | cons _ _ i1 i2 => exact .cons i1 i2
theorem RelVs.ext {H H' : Heap} {W W' : Nat → Prop} {β β' : List Nat} (e : Ext W β H W' β' H') {ps : List PV} {as : List AV} (h : All2 (RelV H W β) ps as) : All2 (RelV H' W' β') ps as := All2.mono' (fun _ _ => RelV.ext e) h
theorem RelVs.clo {H : Heap} {W : Nat → Prop} {β : List Nat} {ps : List PV} {as : List AV} (h : All2 (RelC H W) ps as) : All2 (RelV H W β) ps as := All2.mono' (fun _ _ h => .clo h) h
def EntP (H : Heap) (W : Nat → Prop) (e : Int × PV) (a : Int × AV) : Prop := e.1 = a.1 ∧ RelC H W e.2 a.2
theorem EntPs.ext {H H' : Heap} {W W' : Nat → Prop} {β β' : List Nat} (e : Ext W β H W' β' H') {ps : List (Int × PV)} {as : List (Int × AV)} (h : All2 (EntP H W) ps as) : All2 (EntP H' W') ps as := All2.mono' (fun _ _ h => ⟨h.1, h.2.ext e⟩) h
structure LpD where
  st : LoopState
  e : Ex
  T : List PV
  ps : Array Tmp
  as : Code
  bd : Code
structure LpD.Is (H : Heap) (W : Nat → Prop) (β : List Nat) (x : LpD) (L : ALoop) : Prop where
  st : L.state = x.st
  e : L.pending = x.e.jump
  ps : L.params = x.ps
  as : L.assign = x.as
  bd : L.body = x.bd
  T : All2 (RelV H W β) x.T L.tmps
theorem LpD.Is.ext {H H' : Heap} {W W' : Nat → Prop} {β β' : List Nat} (e : Ext W β H W' β' H') {x : LpD} {L : ALoop} (h : x.Is H W β L) : x.Is H' W' β' L := ⟨h.st, h.e, h.ps, h.as, h.bd, RelVs.ext e h.T⟩
inductive StB where
  | dead
  | live (ty : TypeId) (cs : List PV)
  | frz (ty : TypeId) (cs : List PV)
  /-- one whose cells may be slices and pointers of our own -/
  | liv (ty : TypeId) (cs : List PV)
  /-- a map -/
  | mp (k : IntKind) (es : List (Int × PV))
  | lp (x : LpD)
def StB.cont : StB → Option (TypeId × List PV)
  | .dead => none
  | .live t cs => some (t, cs)
  | .frz t cs => some (t, cs)
  | .liv _ _ => none
  | .mp _ _ => none
  | .lp _ => none
def livOf (σ : List StB) (i : Nat) : Option (TypeId × List PV) :=
  match σ[i]? with
  | some (.liv t cs) => some (t, cs)
  | _ => none
def contOf (σ : List StB) (i : Nat) : Option (TypeId × List PV) :=
  match σ[i]? with
  | some b => b.cont
  | none => none
structure Sto (H0 : Heap) (W0 : Nat → Prop) (c : Nat) (σ : List StB) (k : Nat) (W : Nat → Prop) (β : List Nat) (H : Heap) : Prop where
  room : H0.n + c < lim
  kc : k ≤ c
  lo : H0.n ≤ H.n
  hi : H.n ≤ H0.n + k
  keep : ∀ A, A < H0.n → H.get A = H0.get A
  w0n : ∀ b, W0 b → b < H0.n
  w0 : ∀ b, W0 b → W b
  wn : ∀ b, W b → W0 b ∨ (H0.n ≤ b ∧ b < H.n)
  len : β.length = σ.length
  bl : ∀ (i b : Nat), β[i]? = some b → H0.n ≤ b ∧ b < H.n
  live : ∀ (i : Nat) (ty : TypeId) (cs : List PV) (b : Nat), σ[i]? = some (.live ty cs) → β[i]? = some b → W b ∧ ∃ acs, H.get b = .cells true ty acs ∧ All2 (RelC H W) cs acs
  frz : ∀ (i : Nat) (ty : TypeId) (cs : List PV) (b : Nat), σ[i]? = some (.frz ty cs) → β[i]? = some b → ¬ W b ∧ ∃ rw acs, H.get b = .cells rw ty acs ∧ All2 (RelC H W) cs acs
  inj : ∀ (i j b : Nat), β[i]? = some b → β[j]? = some b → i = j
  liv : ∀ (i : Nat) (ty : TypeId) (cs : List PV) (b : Nat), σ[i]? = some (.liv ty cs) → β[i]? = some b → W b ∧ ∃ acs, H.get b = .cells true ty acs ∧ All2 (RelV H W β) cs acs
  map : ∀ (i : Nat) (kd : IntKind) (es : List (Int × PV)) (b : Nat), σ[i]? = some (.mp kd es) → β[i]? = some b → W b ∧ ∃ aes, H.get b = .map kd aes ∧ All2 (EntP H W) es aes
  lop : ∀ (i : Nat) (l : LpD) (b : Nat), σ[i]? = some (.lp l) → β[i]? = some b → W b ∧ ∃ L, H.get b = .loop L ∧ l.Is H W β L
theorem Sto.blk {H0 H : Heap} {W0 : Nat → Prop} {c k : Nat} {σ : List StB} {W : Nat → Prop} {β : List Nat} (I : Sto H0 W0 c σ k W β H) {i : Nat} {b : StB} (h : σ[i]? = some b) : ∃ n, β[i]? = some n := by
  have := (List.getElem?_eq_some_iff.1 h).1
  exact ⟨_, List.getElem?_eq_getElem (by have := I.len; omega)⟩
theorem Sto.cont {H0 H : Heap} {W0 : Nat → Prop} {c k : Nat} {σ : List StB} {W : Nat → Prop} {β : List Nat} (I : Sto H0 W0 c σ k W β H) {i : Nat} {ty : TypeId} {cs : List PV} {b : Nat} (h : contOf σ i = some (ty, cs)) (hb : β[i]? = some b) :
    ∃ rw acs, H.get b = .cells rw ty acs ∧ All2 (RelC H W) cs acs := by
  unfold contOf at h
  cases hs : σ[i]? with
  | none => rw [hs] at h; cases h
  | some x =>
    rw [hs] at h
    cases x with
    | dead => cases h
    | live t l => cases h; obtain ⟨-, acs, h1, h2⟩ := I.live i _ _ b hs hb; exact ⟨true, acs, h1, h2⟩
    | frz t l => cases h; obtain ⟨-, h1⟩ := I.frz i _ _ b hs hb; exact h1
    | liv t l => cases h
    | mp t l => cases h
    | lp l => cases h
theorem Sto.freeze {H0 H : Heap} {W0 : Nat → Prop} {c k : Nat} {σ : List StB} {W : Nat → Prop} {β : List Nat} (I : Sto H0 W0 c σ k W β H) {i : Nat} {ty : TypeId} {cs : List PV} (h : contOf σ i = some (ty, cs)) :
    ∃ W' b, β[i]? = some b ∧ Ext W β H W' β H ∧ Sto H0 W0 c (σ.set i (.frz ty cs)) k W' β H ∧ ¬ W' b ∧ ∃ rw acs, H.get b = .cells rw ty acs ∧ All2 (RelC H W') cs acs := by
  have hi : ∃ x, σ[i]? = some x := by
    unfold contOf at h
    cases hs : σ[i]? with
    | none => rw [hs] at h; cases h
    | some x => exact ⟨x, rfl⟩
  obtain ⟨x, hx⟩ := hi
  obtain ⟨b, hb⟩ := I.blk hx
  obtain ⟨rw, acs, h1, h2⟩ := I.cont h hb
  have E : Ext W β H (fun A => W A ∧ A ≠ b) β H := ⟨Nat.le_refl _, fun _ _ _ => rfl, fun A _ h => h.1, fun _ _ h => h, fun _ _ _ => rfl, fun i _ h _ => ⟨i, h⟩⟩
  refine ⟨fun A => W A ∧ A ≠ b, b, hb, E, ⟨I.room, I.kc, I.lo, I.hi, I.keep, I.w0n, fun A h => ⟨I.w0 A h, fun e => by have h1 := I.w0n A h; have h2 := (I.bl i b hb).1; omega⟩, fun A h => I.wn A h.1, by simp [I.len], I.bl, fun j t l d hj hd => ?_, fun j t l d hj hd => ?_, I.inj, fun j t l d hj hd => ?_, fun j t l d hj hd => ?_, fun j l d hj hd => ?_⟩, fun h => h.2 rfl, rw, acs, h1, RelCs.ext E h2⟩
  · have hji : j ≠ i := fun e => by
      subst e
      rw [List.getElem?_set_self (List.getElem?_eq_some_iff.1 hx).1] at hj
      cases hj
    rw [List.getElem?_set_ne (Ne.symm hji)] at hj
    obtain ⟨q1, q2, q3, q4⟩ := I.live j t l d hj hd
    exact ⟨⟨q1, fun e => by subst e; exact hji (I.inj j i _ hd hb)⟩, q2, q3, RelCs.ext E q4⟩
  · by_cases hji : j = i
    · subst hji
      rw [List.getElem?_set_self (List.getElem?_eq_some_iff.1 hx).1] at hj
      cases hj
      rw [hb] at hd
      cases hd
      exact ⟨fun h => h.2 rfl, rw, acs, h1, RelCs.ext E h2⟩
    · rw [List.getElem?_set_ne (Ne.symm hji)] at hj
      obtain ⟨q1, q2, q3, q4, q5⟩ := I.frz j t l d hj hd
      exact ⟨fun h => q1 h.1, q2, q3, q4, RelCs.ext E q5⟩
  · have hji : j ≠ i := fun e => by
      subst e
      rw [List.getElem?_set_self (List.getElem?_eq_some_iff.1 hx).1] at hj
      cases hj
    rw [List.getElem?_set_ne (Ne.symm hji)] at hj
    obtain ⟨q1, q2, q3, q4⟩ := I.liv j t l d hj hd
    exact ⟨⟨q1, fun e => by subst e; exact hji (I.inj j i _ hd hb)⟩, q2, q3, RelVs.ext E q4⟩
  · have hji : j ≠ i := fun e => by
      subst e
      rw [List.getElem?_set_self (List.getElem?_eq_some_iff.1 hx).1] at hj
      cases hj
    rw [List.getElem?_set_ne (Ne.symm hji)] at hj
    obtain ⟨q1, q2, q3, q4⟩ := I.map j t l d hj hd
    exact ⟨⟨q1, fun e => by subst e; exact hji (I.inj j i _ hd hb)⟩, q2, q3, EntPs.ext E q4⟩
  · have hji : j ≠ i := fun e => by
      subst e
      rw [List.getElem?_set_self (List.getElem?_eq_some_iff.1 hx).1] at hj
      cases hj
    rw [List.getElem?_set_ne (Ne.symm hji)] at hj
    obtain ⟨q1, q2, q3, q4⟩ := I.lop j l d hj hd
    exact ⟨⟨q1, fun e => by subst e; exact hji (I.inj j i _ hd hb)⟩, q2, q3, q4.ext E⟩
def frzK (σ : List StB) (p : PV) (K : PV → List StB → Prop) : Prop :=
  match p with
  | .own i o n c e => ∃ ty cs cs', contOf σ i = some (ty, cs) ∧ (o + n * e ≤ cs.length ∧ n ≤ c) ∧ (cs.drop o).take (n * e) = cs' ∧ K (.lst n cs') (σ.set i (.frz ty cs))
  | .ownu i n e => ∃ ty cs cs', contOf σ i = some (ty, cs) ∧ (n * e ≤ cs.length ∧ (n = 0 → e = 1)) ∧ cs.take (n * e) = cs' ∧ K (.lst n cs') (σ.set i (.frz ty cs))
  | .ownq i o n e => ∃ ty cs cs', contOf σ i = some (ty, cs) ∧ (o + n * e ≤ cs.length ∧ (n = 0 → e = 1)) ∧ (cs.drop o).take (n * e) = cs' ∧ K (.lst n cs') (σ.set i (.frz ty cs))
  | .optr i o => ∃ ty cs, contOf σ i = some (ty, cs) ∧ o ≤ cs.length ∧ K (.lptr (cs.drop o)) (σ.set i (.frz ty cs))
  | .nils => K (.lst 0 []) σ
  | .int k n => K (.int k n) σ
  | .bool b => K (.bool b) σ
  | .str s => K (.str s) σ
  | .nilp => K .nilp σ
  | .nilf => K .nilf σ
  | .nilm => K .nilm σ
  | .nili => K .nili σ
  | .fn f => K (.fn f) σ
  | .lst n cs => K (.lst n cs) σ
  | .lptr cs => K (.lptr cs) σ
  | .bptr _ => False
  | .agg _ => False
  | .tup _ => False
  | .fnc _ _ => False
  | .omap _ => False
  | .yld _ => False
def frzsK (σ : List StB) : List PV → (List PV → List StB → Prop) → Prop
  | [], K => K [] σ
  | p :: ps, K => frzK σ p fun p' σ' => frzsK σ' ps fun ps' σ'' => K (p' :: ps') σ''
def frzAK (σ : List StB) (p : PV) (K : PV → List StB → Prop) : Prop :=
  match p with
  | .agg cs => frzsK σ cs fun cs' σ' => K (.agg cs') σ'
  | .fnc f cs => frzsK σ cs fun cs' σ' => K (.fnc f cs') σ'
  | p => frzK σ p K
def frzAsK (σ : List StB) : List PV → (List PV → List StB → Prop) → Prop
  | [], K => K [] σ
  | p :: ps, K => frzAK σ p fun p' σ' => frzAsK σ' ps fun ps' σ'' => K (p' :: ps') σ''
def Same (σ σ' : List StB) : Prop := ∀ i, i < σ.length → contOf σ i = contOf σ' i
theorem Same.refl (σ : List StB) : Same σ σ := fun _ _ => rfl
theorem contOf_set {σ : List StB} {i : Nat} {ty : TypeId} {cs : List PV} (h : contOf σ i = some (ty, cs)) (j : Nat) : contOf (σ.set i (.frz ty cs)) j = contOf σ j := by
  have hi : i < σ.length := by
    unfold contOf at h
    cases hs : σ[i]? with
    | none => rw [hs] at h; cases h
    | some x => exact (List.getElem?_eq_some_iff.1 hs).1
  by_cases e : j = i
  · subst e
    rw [h]
    unfold contOf
    rw [List.getElem?_set_self hi]
    rfl
  · unfold contOf
    rw [List.getElem?_set_ne (Ne.symm e)]
theorem livOf_set {σ : List StB} {i : Nat} {ty : TypeId} {cs : List PV} (h : contOf σ i = some (ty, cs)) (j : Nat) : livOf (σ.set i (.frz ty cs)) j = livOf σ j := by
  have hi : i < σ.length := by
    unfold contOf at h
    cases hs : σ[i]? with
    | none => rw [hs] at h; cases h
    | some x => exact (List.getElem?_eq_some_iff.1 hs).1
  by_cases e : j = i
  · subst e
    have : livOf σ j = none := by
      unfold contOf at h
      unfold livOf
      cases hs : σ[j]? with
      | none => rfl
      | some x => rw [hs] at h; cases x <;> first | rfl | cases h
    rw [this]
    unfold livOf
    rw [List.getElem?_set_self hi]
  · unfold livOf
    rw [List.getElem?_set_ne (Ne.symm e)]
def FrzO (H0 : Heap) (W0 : Nat → Prop) (c k : Nat) (σ : List StB) (W : Nat → Prop) (β : List Nat) (H : Heap) (σ' : List StB) (W' : Nat → Prop) : Prop := Ext W β H W' β H ∧ Sto H0 W0 c σ' k W' β H ∧ σ'.length = σ.length ∧ (∀ j, contOf σ' j = contOf σ j) ∧ ∀ j, livOf σ' j = livOf σ j
theorem frzK_ok {H0 H : Heap} {W0 : Nat → Prop} {c k : Nat} {σ : List StB} {W : Nat → Prop} {β : List Nat} {p : PV} {a : AV} {K : PV → List StB → Prop} (h : frzK σ p K) (I : Sto H0 W0 c σ k W β H) (hr : RelV H W β p a) :
    ∃ p' σ' W', FrzO H0 W0 c k σ W β H σ' W' ∧ RelC H W' p' a ∧ K p' σ' := by
  have triv : ∀ {p'}, RelC H W p' a → K p' σ → ∃ p' σ' W', FrzO H0 W0 c k σ W β H σ' W' ∧ RelC H W' p' a ∧ K p' σ' := fun h1 h2 => ⟨_, σ, W, ⟨Ext.refl _ _ _, I, rfl, fun _ => rfl, fun _ => rfl⟩, h1, h2⟩
  cases hr with
  | nils => exact triv .lnil h
  | bptr => exact h.elim
  | agg h' => exact h.elim
  | tup h' => exact h.elim
  | fnc f h' => exact h.elim
  | omap h' => exact h.elim
  | yld h' => exact h.elim
  | own o n cp e hb =>
    obtain ⟨ty, cs, cs', h1, h2, rfl, h3⟩ := h
    obtain ⟨W', b, q1, q2, q3, q4, rw, acs, q5, q6⟩ := I.freeze h1
    rw [hb] at q1
    cases q1
    have hl := q6.length
    refine ⟨_, _, W', ⟨q2, q3, by simp, fun j => contOf_set h1 j, fun j => livOf_set h1 j⟩, .sl q4 q5 ?_ h2.2 ?_, h3⟩
    · simp; omega
    · have : (List.take (n * e) (List.drop o cs)).length = n * e := by simp; omega
      rw [this]
      exact (q6.drop o).take _
  | ownu n e hb =>
    obtain ⟨ty, cs, cs', h1, h2, rfl, h3⟩ := h
    obtain ⟨W', b, q1, q2, q3, q4, rw, acs, q5, q6⟩ := I.freeze h1
    rw [hb] at q1
    cases q1
    have hl := q6.length
    refine ⟨_, _, W', ⟨q2, q3, by simp, fun j => contOf_set h1 j, fun j => livOf_set h1 j⟩, .slu q4 q5 ?_ ⟨?_, h2.2⟩ ?_, h3⟩
    · simp; omega
    · simp; omega
    · have : (List.take (n * e) cs).length = n * e := by simp; omega
      rw [this]
      exact (q6.drop 0).take _
  | ownq o n e hb =>
    obtain ⟨ty, cs, cs', h1, h2, rfl, h3⟩ := h
    obtain ⟨W', b, q1, q2, q3, q4, rw, acs, q5, q6⟩ := I.freeze h1
    rw [hb] at q1
    cases q1
    have hl := q6.length
    refine ⟨_, _, W', ⟨q2, q3, by simp, fun j => contOf_set h1 j, fun j => livOf_set h1 j⟩, .slu q4 q5 ?_ ⟨?_, h2.2⟩ ?_, h3⟩
    · simp; omega
    · simp; omega
    · have : (List.take (n * e) (List.drop o cs)).length = n * e := by simp; omega
      rw [this]
      exact (q6.drop o).take _
  | optr o hb =>
    obtain ⟨ty, cs, h1, h2, h3⟩ := h
    obtain ⟨W', b, q1, q2, q3, q4, rw, acs, q5, q6⟩ := I.freeze h1
    rw [hb] at q1
    cases q1
    have hl := q6.length
    refine ⟨_, _, W', ⟨q2, q3, by simp, fun j => contOf_set h1 j, fun j => livOf_set h1 j⟩, .lptr q4 q5 ?_ ?_, h3⟩
    · simp; omega
    · have := (q6.drop o).take (cs.drop o).length
      rwa [List.take_of_length_le (Nat.le_refl _)] at this
  | clo h' =>
    cases h' with
    | int => exact triv (.int _ _) h
    | bool => exact triv (.bool _) h
    | str => exact triv (.str _) h
    | nilp => exact triv .nilp h
    | nilf => exact triv .nilf h
    | nilm => exact triv .nilm h
    | nili => exact triv .nili h
    | fn => exact triv (.fn _) h
    | lnil => exact triv .lnil h
    | lsle => exact triv .lsle h
    | sl a1 a2 a3 a4 a5 => exact triv (.sl a1 a2 a3 a4 a5) h
    | slu a1 a2 a3 a4 a5 => exact triv (.slu a1 a2 a3 a4 a5) h
    | lptr a1 a2 a3 a4 => exact triv (.lptr a1 a2 a3 a4) h
    | agg _ => exact h.elim
    | tup _ => exact h.elim
    | fnc _ _ => exact h.elim
theorem FrzO.trans {H0 H : Heap} {W0 : Nat → Prop} {c k : Nat} {σ σ' σ'' : List StB} {W W' W'' : Nat → Prop} {β : List Nat} (a : FrzO H0 W0 c k σ W β H σ' W') (b : FrzO H0 W0 c k σ' W' β H σ'' W'') : FrzO H0 W0 c k σ W β H σ'' W'' :=
  ⟨a.1.trans b.1, b.2.1, b.2.2.1.trans a.2.2.1, fun j => (b.2.2.2.1 j).trans (a.2.2.2.1 j), fun j => (b.2.2.2.2 j).trans (a.2.2.2.2 j)⟩
theorem frzsK_ok {H0 H : Heap} {W0 : Nat → Prop} {c k : Nat} {β : List Nat} : ∀ {ps : List PV} {σ : List StB} {W : Nat → Prop} {as : List AV} {K : List PV → List StB → Prop}, frzsK σ ps K → Sto H0 W0 c σ k W β H → All2 (RelV H W β) ps as →
    ∃ ps' σ' W', FrzO H0 W0 c k σ W β H σ' W' ∧ All2 (RelC H W') ps' as ∧ K ps' σ'
  | [], σ, W, as, K, h, I, hr => by
    cases hr
    exact ⟨[], σ, W, ⟨Ext.refl _ _ _, I, rfl, fun _ => rfl, fun _ => rfl⟩, .nil, h⟩
  | p :: ps, σ, W, as, K, h, I, hr => by
    cases hr with
    | cons h1 h2 =>
      obtain ⟨p', σ1, W1, f1, r1, h3⟩ := frzK_ok (show frzK σ p fun p' σ' => frzsK σ' ps fun ps' σ'' => K (p' :: ps') σ'' from h) I h1
      obtain ⟨ps', σ2, W2, f2, r2, h4⟩ := frzsK_ok h3 f1.2.1 (RelVs.ext f1.1 h2)
      exact ⟨p' :: ps', σ2, W2, f1.trans f2, .cons (r1.ext f2.1) r2, h4⟩
theorem frzAK_ok {H0 H : Heap} {W0 : Nat → Prop} {c k : Nat} {σ : List StB} {W : Nat → Prop} {β : List Nat} {p : PV} {a : AV} {K : PV → List StB → Prop} (h : frzAK σ p K) (I : Sto H0 W0 c σ k W β H) (hr : RelV H W β p a) :
    ∃ p' σ' W', FrzO H0 W0 c k σ W β H σ' W' ∧ RelC H W' p' a ∧ K p' σ' := by
  unfold frzAK at h
  split at h
  · rename_i cs
    have hx : ∃ as, a = .agg as ∧ All2 (RelV H W β) cs as := by
      cases hr with
      | clo h => cases h with
        | agg h => exact ⟨_, rfl, RelVs.clo h⟩
      | agg h => exact ⟨_, rfl, h⟩
    obtain ⟨as, rfl, hr2⟩ := hx
    obtain ⟨cs', σ', W', f, r, h⟩ := frzsK_ok h I hr2
    exact ⟨.agg cs', σ', W', f, .agg r, h⟩
  · rename_i f cs
    have hx : ∃ as, a = .fn f [] as ∧ All2 (RelV H W β) cs as := by
      cases hr with
      | clo h => cases h with
        | fnc _ h => exact ⟨_, rfl, RelVs.clo h⟩
      | fnc _ h => exact ⟨_, rfl, h⟩
    obtain ⟨as, rfl, hr2⟩ := hx
    obtain ⟨cs', σ', W', f', r, h⟩ := frzsK_ok h I hr2
    exact ⟨.fnc f cs', σ', W', f', .fnc f r, h⟩
  · exact frzK_ok h I hr
theorem frzAsK_ok {H0 H : Heap} {W0 : Nat → Prop} {c k : Nat} {β : List Nat} : ∀ {ps : List PV} {σ : List StB} {W : Nat → Prop} {as : List AV} {K : List PV → List StB → Prop}, frzAsK σ ps K → Sto H0 W0 c σ k W β H → All2 (RelV H W β) ps as →
    ∃ ps' σ' W', FrzO H0 W0 c k σ W β H σ' W' ∧ All2 (RelC H W') ps' as ∧ K ps' σ'
  | [], σ, W, as, K, h, I, hr => by
    cases hr
    exact ⟨[], σ, W, ⟨Ext.refl _ _ _, I, rfl, fun _ => rfl, fun _ => rfl⟩, .nil, h⟩
  | p :: ps, σ, W, as, K, h, I, hr => by
    cases hr with
    | cons h1 h2 =>
      obtain ⟨p', σ1, W1, f1, r1, h3⟩ := frzAK_ok (show frzAK σ p fun p' σ' => frzAsK σ' ps fun ps' σ'' => K (p' :: ps') σ'' from h) I h1
      obtain ⟨ps', σ2, W2, f2, r2, h4⟩ := frzAsK_ok h3 f1.2.1 (RelVs.ext f1.1 h2)
      exact ⟨p' :: ps', σ2, W2, f1.trans f2, .cons (r1.ext f2.1) r2, h4⟩
end Go.PI
/- PLAIN VALUES: operations that ask nothing of memory. -/
namespace Go.PI
def pgetK : List PV → Nat → (PV → Prop) → Prop
  | [], _, K => K undefP
  | a :: _, 0, K => K a
  | _ :: as, n + 1, K => pgetK as n K
theorem pgetK_ok : ∀ {T : List PV} {n : Nat} {K : PV → Prop}, pgetK T n K → K (T.getD n undefP)
  | [], _, _, h => h
  | _ :: _, 0, _, h => h
  | _ :: as, n + 1, _, h => by
    have := pgetK_ok (T := as) (n := n) h
    simpa using this
def psetK : List PV → Nat → PV → (List PV → Prop) → Prop
  | [], _, _, K => K []
  | _ :: as, 0, v, K => K (v :: as)
  | a :: as, n + 1, v, K => psetK as n v fun as' => K (a :: as')
theorem psetK_ok : ∀ {T : List PV} {n : Nat} {v : PV} {K : List PV → Prop}, psetK T n v K → K (T.set n v)
  | [], _, _, _, h => h
  | _ :: _, 0, _, _, h => h
  | _ :: as, n + 1, v, _, h => by
    have := psetK_ok (T := as) (n := n) (v := v) h
    simpa using this
def pputK (T : List PV) (d : Option Tmp) (v : PV) (K : List PV → Prop) : Prop :=
  match d with
  | some d => psetK T d v K
  | none => K T
def pputT (T : List PV) (d : Option Tmp) (v : PV) : List PV :=
  match d with
  | some d => T.set d v
  | none => T
theorem pputK_ok {T : List PV} {d : Option Tmp} {v : PV} {K : List PV → Prop} (h : pputK T d v K) : K (pputT T d v) := by
  cases d with
  | none => exact h
  | some d => exact psetK_ok h
def cellP : AV → Option PV
  | .int k n => some (.int k n)
  | .bool b => some (.bool b)
  | .str s => some (.str s)
  | .nilp => some .nilp
  | .nilf => some .nilf
  | .nilm => some .nilm
  | .nili => some .nili
  | .nils => some (.lst 0 [])
  | _ => none
def cellPs : List AV → Option (List PV)
  | [] => some []
  | a :: as => match cellP a, cellPs as with
    | some p, some ps => some (p :: ps)
    | _, _ => none
theorem cellP_ok {H : Heap} {W : Nat → Prop} {a : AV} {p : PV} (h : cellP a = some p) : RelC H W p a := by
  cases a <;> simp [cellP] at h <;> subst h
  · exact .int _ _
  · exact .bool _
  · exact .str _
  · exact .nilp
  · exact .lnil
  · exact .nilf
  · exact .nilm
  · exact .nili
theorem cellPs_ok {H : Heap} {W : Nat → Prop} : ∀ {as : List AV} {ps : List PV}, cellPs as = some ps → All2 (RelC H W) ps as
  | [], _, h => by cases h; exact .nil
  | a :: as, ps, h => by
    unfold cellPs at h
    split at h
    · rename_i p ps' h1 h2
      cases h
      exact .cons (cellP_ok h1) (cellPs_ok h2)
    · cases h
def cellV : AV → Option PV
  | .nils => some .nils
  | a => cellP a
def cellVs : List AV → Option (List PV)
  | [] => some []
  | a :: as => match cellV a, cellVs as with
    | some p, some ps => some (p :: ps)
    | _, _ => none
theorem cellV_ok {H : Heap} {W : Nat → Prop} {β : List Nat} {a : AV} {p : PV} (h : cellV a = some p) : RelV H W β p a := by
  unfold cellV at h
  split at h
  · cases h; exact .nils
  · exact .clo (cellP_ok h)
theorem cellVs_ok {H : Heap} {W : Nat → Prop} {β : List Nat} : ∀ {as : List AV} {ps : List PV}, cellVs as = some ps → All2 (RelV H W β) ps as
  | [], _, h => by cases h; exact .nil
  | a :: as, ps, h => by
    unfold cellVs at h
    split at h
    · rename_i p ps' h1 h2
      cases h
      exact .cons (cellV_ok h1) (cellVs_ok h2)
    · cases h
def constA : AV → Option PV
  | .agg as => match cellPs as with
    | some ps => some (.agg ps)
    | none => none
  | .tup [] => some (.tup [])
  | .nils => some .nils
  | a => cellP a
theorem constA_ok {H : Heap} {W : Nat → Prop} {β : List Nat} {a : AV} {p : PV} (h : constA a = some p) : RelV H W β p a := by
  unfold constA at h
  split at h
  · split at h
    · rename_i ps h1
      cases h
      exact .clo (.agg (cellPs_ok h1))
    · cases h
  · cases h; exact .clo (.tup .nil)
  · cases h; exact .nils
  · exact .clo (cellP_ok h)
def popdK (T : List PV) (x : Operand) (K : PV → Prop) : Prop :=
  match x with
  | .tmp t => pgetK T t K
  | .const v => match ofConst v with
    | some a => match constA a with
      | some p => K p
      | none => False
    | none => False
  | .global _ => False
  | .func f => K (.fn f)
def popdsK (T : List PV) : List Operand → (List PV → Prop) → Prop
  | [], K => K []
  | x :: xs, K => popdK T x fun a => popdsK T xs fun as => K (a :: as)
def TR (H : Heap) (W : Nat → Prop) (β : List Nat) (T : List PV) (T' : List AV) (x : Operand) : Prop :=
  match x with
  | .tmp t => RelV H W β (T.getD t undefP) (T'.getD t undefA)
  | _ => True
def pOp (T : List PV) (x : Operand) : Option PV :=
  match x with
  | .tmp t => some (T.getD t undefP)
  | .const v => match ofConst v with
    | some a => constA a
    | none => none
  | .global _ => none
  | .func f => some (.fn f)
def pOps (T : List PV) : List Operand → Option (List PV)
  | [] => some []
  | x :: xs => match pOp T x, pOps T xs with
    | some a, some as => some (a :: as)
    | _, _ => none
theorem popdK_ok {T : List PV} {x : Operand} {K : PV → Prop} (h : popdK T x K) : ∃ p, pOp T x = some p ∧ K p := by
  cases x with
  | tmp t => exact ⟨_, rfl, pgetK_ok h⟩
  | const v =>
    simp only [popdK] at h
    split at h
    · rename_i a ha
      split at h
      · rename_i p hp
        exact ⟨p, by simp only [pOp, ha, hp], h⟩
      · exact h.elim
    · exact h.elim
  | global g => exact h.elim
  | func f => exact ⟨_, rfl, h⟩
theorem popdsK_ok {T : List PV} : ∀ {xs : List Operand} {K : List PV → Prop}, popdsK T xs K → ∃ ps, pOps T xs = some ps ∧ K ps
  | [], _, h => ⟨[], rfl, h⟩
  | x :: xs, K, h => by
    obtain ⟨a, h1, h2⟩ := popdK_ok (show popdK T x fun a => popdsK T xs fun as => K (a :: as) from h)
    obtain ⟨as, h3, h4⟩ := popdsK_ok h2
    exact ⟨a :: as, by simp [pOps, h1, h3], h4⟩
section
variable {H : Heap} {W : Nat → Prop} {β : List Nat} {T : List PV} {T' : List AV}
theorem pOp_rel {x : Operand} {p : PV} (h : pOp T x = some p) (r : TR H W β T T' x) : ∃ a, opd T' x = some a ∧ RelV H W β p a := by
  cases x with
  | tmp t => cases h; exact ⟨_, rfl, r⟩
  | const v =>
    simp only [pOp] at h
    split at h
    · rename_i a ha
      exact ⟨a, ha, constA_ok h⟩
    · cases h
  | global g => cases h
  | func f => cases h; exact ⟨_, rfl, .clo (.fn f)⟩
theorem pOps_rel : ∀ {xs : List Operand} {ps : List PV}, pOps T xs = some ps → (∀ x ∈ xs, TR H W β T T' x) → ∃ as, opds (opd T') xs = some as ∧ All2 (RelV H W β) ps as
  | [], _, h, _ => by cases h; exact ⟨[], rfl, .nil⟩
  | x :: xs, ps, h, r => by
    unfold pOps at h
    split at h
    · rename_i a as h1 h2
      cases h
      obtain ⟨b, q1, q2⟩ := pOp_rel h1 (r x (by simp))
      obtain ⟨bs, q3, q4⟩ := pOps_rel h2 fun y hy => r y (by simp [hy])
      exact ⟨b :: bs, by simp [opds, q1, q3], .cons q2 q4⟩
    · cases h
end
section
variable {H : Heap} {W : Nat → Prop} {β : List Nat} {a : AV}
theorem RelV.int_inv {k : IntKind} {n : Int} (h : RelV H W β (.int k n) a) : a = .int k n := by
  cases h with
  | clo h => cases h; rfl
theorem RelV.bool_inv {b : Bool} (h : RelV H W β (.bool b) a) : a = .bool b := by
  cases h with
  | clo h => cases h; rfl
theorem RelV.str_inv {s : ByteArray} (h : RelV H W β (.str s) a) : a = .str s := by
  cases h with
  | clo h => cases h; rfl
theorem RelV.nilp_inv (h : RelV H W β .nilp a) : a = .nilp := by
  cases h with
  | clo h => cases h; rfl
theorem RelV.nils_inv (h : RelV H W β .nils a) : a = .nils := by
  cases h with
  | clo h => cases h
  | nils => rfl
theorem RelV.fn_inv {f : Nat} (h : RelV H W β (.fn f) a) : a = .fn f [] [] := by
  cases h with
  | clo h => cases h; rfl
theorem RelV.own_inv {i o n c e : Nat} (h : RelV H W β (.own i o n c e) a) : ∃ b, β[i]? = some b ∧ a = .sl b o n c := by
  cases h with
  | clo h => cases h
  | own o n c e h => exact ⟨_, h, rfl⟩
theorem RelV.ownu_inv {i n e : Nat} (h : RelV H W β (.ownu i n e) a) : ∃ b, β[i]? = some b ∧ a = .slu b 0 n e := by
  cases h with
  | clo h => cases h
  | ownu n e h => exact ⟨_, h, rfl⟩
theorem RelV.ownq_inv {i o n e : Nat} (h : RelV H W β (.ownq i o n e) a) : ∃ b, β[i]? = some b ∧ a = .slu b o n e := by
  cases h with
  | clo h => cases h
  | ownq o n e h => exact ⟨_, h, rfl⟩
theorem RelV.optr_inv {i o : Nat} (h : RelV H W β (.optr i o) a) : ∃ b, β[i]? = some b ∧ a = .ptr b o := by
  cases h with
  | clo h => cases h
  | optr o h => exact ⟨_, h, rfl⟩
theorem RelV.lptr_inv {cs : List PV} (h : RelV H W β (.lptr cs) a) : ∃ b o rw ty bcs, a = .ptr b o ∧ ¬ W b ∧ H.get b = .cells rw ty bcs ∧ o + cs.length ≤ bcs.length ∧ All2 (RelC H W) cs ((bcs.drop o).take cs.length) := by
  cases h with
  | clo h => cases h with
    | lptr h1 h2 h3 h4 => exact ⟨_, _, _, _, _, rfl, h1, h2, h3, h4⟩
theorem RelV.bptr_inv {cs : List PV} (h : RelV H W β (.bptr cs) a) : ∃ b o rw ty bcs, a = .ptr b o ∧ (∀ i : Nat, β[i]? ≠ some b) ∧ H.get b = .cells rw ty bcs ∧ o + cs.length ≤ bcs.length ∧ All2 (RelC H W) cs ((bcs.drop o).take cs.length) := by
  cases h with
  | clo h => cases h
  | bptr h1 h2 h3 h4 => exact ⟨_, _, _, _, _, rfl, h1, h2, h3, h4⟩
theorem RelV.agg_inv {cs : List PV} (h : RelV H W β (.agg cs) a) : ∃ as, a = .agg as ∧ All2 (RelV H W β) cs as := by
  cases h with
  | clo h => cases h with
    | agg h => exact ⟨_, rfl, RelVs.clo h⟩
  | agg h => exact ⟨_, rfl, h⟩
theorem RelV.tup_inv {cs : List PV} (h : RelV H W β (.tup cs) a) : ∃ as, a = .tup as ∧ All2 (RelV H W β) cs as := by
  cases h with
  | clo h => cases h with
    | tup h => exact ⟨_, rfl, RelVs.clo h⟩
  | tup h => exact ⟨_, rfl, h⟩
theorem RelV.lst_inv {n : Nat} {cs : List PV} (h : RelV H W β (.lst n cs) a) : RelC H W (.lst n cs) a := by
  cases h with
  | clo h => exact h
end
def partP (i : TI) (cs : List PV) (o : Nat) : Option PV :=
  match i.desc with
  | .struct _ | .array _ _ => if o + i.size ≤ cs.length then some (.agg ((cs.drop o).take i.size)) else none
  | _ => cs[o]?
theorem partP_ok {C : Ctx} {t : TypeId} {i : TI} (ht : C.ty t = some i) {R : PV → AV → Prop} (hagg : ∀ cs as, All2 R cs as → R (.agg cs) (.agg as)) {cs : List PV} {as : List AV} (h : All2 R cs as) {o : Nat} {r : PV} (hp : partP i cs o = some r) :
    ∃ v, partE C t as o = some v ∧ R r v := by
  have hl := h.length
  unfold partP at hp
  unfold partE
  rw [ht]
  simp only
  split at hp
  · split at hp
    · cases hp
      rename_i hd hle
      simp only [hd]
      exact ⟨_, by rw [if_pos (by omega)], hagg _ _ ((h.drop o).take _)⟩
    · cases hp
  · split at hp
    · cases hp
      rename_i hd hle
      simp only [hd]
      exact ⟨_, by rw [if_pos (by omega)], hagg _ _ ((h.drop o).take _)⟩
    · cases hp
  · rename_i n1 n2
    obtain ⟨v, h1, h2⟩ := h.get hp
    refine ⟨v, ?_, h2⟩
    split
    · rename_i hd; exact absurd hd (n1 _)
    · rename_i hd; exact absurd hd (n2 _ _)
    · exact h1
def toPK (K : PV → Prop) : AV → Prop
  | .int k n => K (.int k n)
  | .bool b => K (.bool b)
  | .str s => K (.str s)
  | _ => False
theorem toPK_ok {K : PV → Prop} {v : AV} (h : toPK K v) : ∃ r, K r ∧ ∀ (H : Heap) (W : Nat → Prop) (β : List Nat), RelV H W β r v := by
  cases v <;> simp only [toPK] at h <;> try exact h.elim
  · exact ⟨_, h, fun _ _ _ => .clo (.int _ _)⟩
  · exact ⟨_, h, fun _ _ _ => .clo (.bool _)⟩
  · exact ⟨_, h, fun _ _ _ => .clo (.str _)⟩
def optK (K : AV → Prop) (x : Option AV) : Prop :=
  match x with
  | some v => K v
  | none => False
theorem optK_ok {K : AV → Prop} {x : Option AV} (h : optK K x) : ∃ v, x = some v ∧ K v := by
  cases x with
  | none => exact h.elim
  | some v => exact ⟨v, rfl, h⟩
def pstrK (op : BinOp) (s u : ByteArray) (K : AV → Prop) : Prop :=
  match op with
  | .eql => ∃ β, (s.toList == u.toList) = β ∧ K (.bool β)
  | .neq => ∃ β, (s.toList == u.toList) = β ∧ K (.bool (!β))
  | op => ∃ v, strBin op s u = some v ∧ K v
theorem pstrK_ok {op : BinOp} {s u : ByteArray} {K : AV → Prop} (h : pstrK op s u K) : ∃ v, strBin op s u = some v ∧ K v := by
  unfold pstrK at h
  split at h
  · obtain ⟨β, h1, h2⟩ := h
    exact ⟨_, by simp only [strBin, h1], h2⟩
  · obtain ⟨β, h1, h2⟩ := h
    exact ⟨_, by simp only [strBin, h1], h2⟩
  · exact h
def peqI : List PV → List PV → Option Bool
  | [], [] => some true
  | .int k m :: as, .int k' n :: bs => match peqI as bs with
    | some r => if k = k' then some (m == n && r) else none
    | none => none
  | _, _ => none
def pbinK (C : Ctx) (op : BinOp) (t : TypeId) (a b : PV) (K : AV → Prop) : Prop :=
  match a, b with
  | .int k m, .int k' n => match isShift op with
    | true => ∃ v, shiftE op k m n = some v ∧ K v
    | false => match k, k' with
      | .i64, .i64 => vInt op m n K
      | k, k' => k = k' ∧ ∃ v, intBin op k m n = some v ∧ K v
  | .str s, .str u => pstrK op s u K
  | .bool p, .bool q => optK K (eqIf C .bool op t (p == q))
  | .nilp, .nilp => optK K (eqIf C .ptr op t true)
  | .nilp, .optr _ _ => optK K (eqIf C .ptr op t false)
  | .nilp, .lptr _ => optK K (eqIf C .ptr op t false)
  | .optr _ _, .nilp => optK K (eqIf C .ptr op t false)
  | .lptr _, .nilp => optK K (eqIf C .ptr op t false)
  | .bptr _, .nilp => optK K (eqIf C .ptr op t false)
  | .nils, .nils => optK K (eqIf C .slice op t true)
  | .own _ _ _ _ _, .nils => optK K (eqIf C .slice op t false)
  | .ownu _ _ _, .nils => optK K (eqIf C .slice op t false)
  | .lst n _, .nils => n ≠ 0 ∧ optK K (eqIf C .slice op t false)
  | .agg ps, .agg qs => ∃ β, (peqI ps qs = some β ∧ eqOk C t ps.length = true) ∧ match op with
    | .eql => (match β with
      | true => K (.bool true)
      | false => K (.bool false))
    | .neq => (match β with
      | true => K (.bool false)
      | false => K (.bool true))
    | _ => False
  | _, _ => False
theorem peqI_ok {H : Heap} {W : Nat → Prop} {β : List Nat} : ∀ {ps qs : List PV} {as bs : List AV} {r : Bool}, peqI ps qs = some r → All2 (RelV H W β) ps as → All2 (RelV H W β) qs bs → eqInts as bs = some r
  | [], [], _, _, r, h, h1, h2 => by cases h1; cases h2; exact h
  | [], _ :: _, _, _, _, h, _, _ => by simp [peqI] at h
  | p :: ps, [], _, _, _, h, _, _ => by cases p <;> simp [peqI] at h
  | p :: ps, q :: qs, _, _, r, h, h1, h2 => by
    cases h1 with
    | cons a1 a2 =>
      cases h2 with
      | cons b1 b2 =>
        unfold peqI at h
        split at h
        · cases ‹_ :: _ = []›
        · rename_i k m ps2 k' n qs2 e1 e2
          cases e1; cases e2
          split at h
          · rename_i r2 hr
            split at h
            · rename_i hk
              cases h
              rw [a1.int_inv, b1.int_inv]
              simp only [eqInts, hk, if_true, peqI_ok hr a2 b2]
            · cases h
          · cases h
        · cases h
theorem pbinK_ok {C : Ctx} {op : BinOp} {t : TypeId} {a b : PV} {K : AV → Prop} (h : pbinK C op t a b K) :
    ∃ v, K v ∧ ∀ (H : Heap) (W : Nat → Prop) (β : List Nat) (x y : Operand) (a' b' : AV), RelV H W β a a' → RelV H W β b b' → binE C op t x y a' b' = some v := by
  unfold pbinK at h
  split at h
  · rename_i k m k' n
    split at h
    · rename_i hs
      obtain ⟨v, h1, h2⟩ := h
      refine ⟨v, h2, fun H W β x y a' b' ha hb => ?_⟩
      rw [ha.int_inv, hb.int_inv]
      simp only [binE, hs, if_true, h1]
    · rename_i hs
      split at h
      · obtain ⟨v, h1, h2⟩ := vInt_ok h
        refine ⟨v, h2, fun H W β x y a' b' ha hb => ?_⟩
        rw [ha.int_inv, hb.int_inv]
        simp [binE, hs, h1]
      · obtain ⟨rfl, v, h1, h2⟩ := h
        refine ⟨v, h2, fun H W β x y a' b' ha hb => ?_⟩
        rw [ha.int_inv, hb.int_inv]
        simp [binE, hs, h1]
  · obtain ⟨v, h1, h2⟩ := pstrK_ok h
    refine ⟨v, h2, fun H W β x y a' b' ha hb => ?_⟩
    rw [ha.str_inv, hb.str_inv]
    exact h1
  · obtain ⟨v, h1, h2⟩ := optK_ok h
    refine ⟨v, h2, fun H W β x y a' b' ha hb => ?_⟩
    rw [ha.bool_inv, hb.bool_inv]
    exact h1
  · obtain ⟨v, h1, h2⟩ := optK_ok h
    refine ⟨v, h2, fun H W β x y a' b' ha hb => ?_⟩
    rw [ha.nilp_inv, hb.nilp_inv]
    exact h1
  · obtain ⟨v, h1, h2⟩ := optK_ok h
    refine ⟨v, h2, fun H W β x y a' b' ha hb => ?_⟩
    obtain ⟨b, -, rfl⟩ := hb.optr_inv
    rw [ha.nilp_inv]
    exact h1
  · obtain ⟨v, h1, h2⟩ := optK_ok h
    refine ⟨v, h2, fun H W β x y a' b' ha hb => ?_⟩
    obtain ⟨b, o, _, _, _, rfl, -⟩ := hb.lptr_inv
    rw [ha.nilp_inv]
    exact h1
  · obtain ⟨v, h1, h2⟩ := optK_ok h
    refine ⟨v, h2, fun H W β x y a' b' ha hb => ?_⟩
    obtain ⟨b, -, rfl⟩ := ha.optr_inv
    rw [hb.nilp_inv]
    exact h1
  · obtain ⟨v, h1, h2⟩ := optK_ok h
    refine ⟨v, h2, fun H W β x y a' b' ha hb => ?_⟩
    obtain ⟨b, o, _, _, _, rfl, -⟩ := ha.lptr_inv
    rw [hb.nilp_inv]
    exact h1
  · obtain ⟨v, h1, h2⟩ := optK_ok h
    refine ⟨v, h2, fun H W β x y a' b' ha hb => ?_⟩
    obtain ⟨b, o, _, _, _, rfl, -⟩ := ha.bptr_inv
    rw [hb.nilp_inv]
    exact h1
  · obtain ⟨v, h1, h2⟩ := optK_ok h
    refine ⟨v, h2, fun H W β x y a' b' ha hb => ?_⟩
    rw [ha.nils_inv, hb.nils_inv]
    exact h1
  · obtain ⟨v, h1, h2⟩ := optK_ok h
    refine ⟨v, h2, fun H W β x y a' b' ha hb => ?_⟩
    obtain ⟨b, -, rfl⟩ := ha.own_inv
    rw [hb.nils_inv]
    exact h1
  · obtain ⟨v, h1, h2⟩ := optK_ok h
    refine ⟨v, h2, fun H W β x y a' b' ha hb => ?_⟩
    obtain ⟨b, -, rfl⟩ := ha.ownu_inv
    rw [hb.nils_inv]
    exact h1
  · obtain ⟨hn, h⟩ := h
    obtain ⟨v, h1, h2⟩ := optK_ok h
    refine ⟨v, h2, fun H W β x y a' b' ha hb => ?_⟩
    rw [hb.nils_inv]
    cases ha with
    | clo h => cases h with
      | lnil => exact absurd rfl hn
      | lsle => exact absurd rfl hn
      | sl => exact h1
      | slu => exact h1
  · rename_i ps qs
    obtain ⟨r, ⟨h1, h2⟩, h3⟩ := h
    have key : ∀ (H : Heap) (W : Nat → Prop) (β : List Nat) (x y : Operand) (a' b' : AV) (v : AV), eqOp op r = some v → RelV H W β (.agg ps) a' → RelV H W β (.agg qs) b' → binE C op t x y a' b' = some v := fun H W β x y a' b' v e ha hb => by
      obtain ⟨as, rfl, ga⟩ := ha.agg_inv
      obtain ⟨bs, rfl, gb⟩ := hb.agg_inv
      simp only [binE, eqStr]
      rw [← ga.length, h2]
      simp only [peqI_ok h1 ga gb]
      exact e
    split at h3
    · cases r
      · exact ⟨_, h3, fun H W β x y a' b' ha hb => key H W β x y a' b' _ rfl ha hb⟩
      · exact ⟨_, h3, fun H W β x y a' b' ha hb => key H W β x y a' b' _ rfl ha hb⟩
    · cases r
      · exact ⟨_, h3, fun H W β x y a' b' ha hb => key H W β x y a' b' _ rfl ha hb⟩
      · exact ⟨_, h3, fun H W β x y a' b' ha hb => key H W β x y a' b' _ rfl ha hb⟩
    · exact h3.elim
  · exact h.elim
end Go.PI
