/- Own work of the verifier: PvMem PvOps. -/
import Derived.Test.YtgmhmahdmbdngaaGreatDoorGvAH
set_option linter.all false
set_option linter.deprecated false
namespace Go.PI
variable {C : Ctx} {H0 H : Heap} {W0 W : Nat -> Prop} {c k : Nat} {σ : List StB} {β : List Nat}
theorem Sto.nlim (I : Sto H0 W0 c σ k W β H) : H.n < lim := by
 have h1 := I.hi
 have h2 := I.kc
 have h3 := I.room
 omega
theorem All2.get2 {α γ : Type} {R : α -> γ -> Prop} {as : List α} {bs : List γ} (h : All2 R as bs) {i : Nat} {b : γ} (e : bs[i]? = some b) : ∃ a, as[i]? = some a /\ R a b := by
 have hl := h.length
 have hi := (List.getElem?_eq_some_iff.1 e).1
 obtain ⟨b', h1, h2⟩ := h.get (List.getElem?_eq_getElem (show i < as.length by omega))
 rw [e] at h1
 cases h1
 exact ⟨_, List.getElem?_eq_getElem (by omega), h2⟩
def StB.Is (H : Heap) (W : Nat -> Prop) (β : List Nat) (x : StB) (ty : TypeId) (acs : List AV) : Prop :=
 match x with
 | .live t cs => t = ty /\ All2 (RelC H W) cs acs
 | .liv t cs => t = ty /\ All2 (RelV H W β) cs acs
 | _ => False
theorem StB.Is.ext {H H' : Heap} {W W' : Nat -> Prop} {β β' : List Nat} (e : Ext W β H W' β' H') {x : StB} {ty : TypeId} {acs : List AV} (h : x.Is H W β ty acs) : x.Is H' W' β' ty acs := by
 cases x with
 | live t cs => exact ⟨h.1, RelCs.ext e h.2⟩
 | liv t cs => exact ⟨h.1, RelVs.ext e h.2⟩
 | dead => exact h.elim
 | frz t cs => exact h.elim
theorem Sto.is (I : Sto H0 W0 c σ k W β H) {j b : Nat} {x : StB} (hj : σ[j]? = some x) (hb : β[j]? = some b) (hx : (∃ t cs, x = .live t cs) ∨ ∃ t cs, x = .liv t cs) : W b /\ ∃ ty acs, H.get b = .cells true ty acs /\ x.Is H W β ty acs := by
 rcases hx with ⟨t, cs, rfl⟩ | ⟨t, cs, rfl⟩
 ·obtain ⟨h1, acs, h2, h3⟩ := I.live j t cs b hj hb
  exact ⟨h1, t, acs, h2, rfl, h3⟩
 ·obtain ⟨h1, acs, h2, h3⟩ := I.liv j t cs b hj hb
  exact ⟨h1, t, acs, h2, rfl, h3⟩
theorem Sto.pushG (I : Sto H0 W0 c σ k W β H) (hk : k < c) {ty : TypeId} {x : StB} {acs : List AV} (hc : x.Is H W β ty acs) :
  ∃ W', Ext W β H W' (β ++ [H.n]) (H.push (.cells true ty acs)) /\ Sto H0 W0 c (σ ++ [x]) (k + 1) W' (β ++ [H.n]) (H.push (.cells true ty acs)) /\ (β ++ [H.n])[σ.length]? = some H.n := by
 have hn := I.nlim
 have hp := Heap.get_push (H := H) (b := .cells true ty acs) hn
 have hpn : (H.push (.cells true ty acs)).n = H.n + 1 := rfl
 generalize H.push (.cells true ty acs) = H' at hp hpn ⊢
 have hbl : (β ++ [H.n])[σ.length]? = some H.n := by rw [← I.len]; simp
 have hold : ∀ i b, β[i]? = some b -> (β ++ [H.n])[i]? = some b := fun i b h => by
  rw [List.getElem?_append_left (List.getElem?_eq_some_iff.1 h).1]; exact h
 have hinv : ∀ i b, (β ++ [H.n])[i]? = some b -> (β[i]? = some b /\ b < H.n) ∨ (i = σ.length /\ b = H.n) := fun i b h => by
  rcases Nat.lt_trichotomy i β.length with h1 | h1 | h1
  ·rw [List.getElem?_append_left h1] at h
   exact .inl ⟨h, (I.bl i b h).2⟩
  ·subst h1
   rw [I.len, hbl] at h
   cases h
   exact .inr ⟨I.len, rfl⟩
  ·rw [List.getElem?_eq_none (by simp; omega)] at h
   cases h
 have E : Ext W β H (fun A => W A ∨ A = H.n) (β ++ [H.n]) H' := ⟨by omega, fun A hA _ => by rw [hp, if_neg (by omega)], fun A hA h => by rcases h with h | h; exact h; omega, hold, fun A hA _ => by rw [hp, if_neg (by omega)], fun i x hx hl => by
  rcases hinv i x hx with h | h
  ·exact ⟨i, h.1⟩
  ·omega⟩
 have hsig : ∀ i b, (σ ++ [x])[i]? = some b -> (σ[i]? = some b /\ i < σ.length) ∨ (i = σ.length /\ b = x) := fun i b h => by
  rcases Nat.lt_trichotomy i σ.length with h1 | h1 | h1
  ·rw [List.getElem?_append_left h1] at h
   exact .inl ⟨h, h1⟩
  ·subst h1
   simp at h
   exact .inr ⟨rfl, h.symm⟩
  ·rw [List.getElem?_eq_none (by simp; omega)] at h
   cases h
 have hlb : ∀ i, i < σ.length -> ∀ b, (β ++ [H.n])[i]? = some b -> β[i]? = some b /\ b < H.n := fun i hi b h => by
  rcases hinv i b h with h | h
  ·exact h
  ·omega
 refine ⟨fun A => W A ∨ A = H.n, E, ⟨I.room, by omega, by have := I.lo; omega, by have := I.hi; omega, fun A hA => ?_, I.w0n, fun b h => .inl (I.w0 b h), fun b h => ?_, by simp [I.len], fun i b h => ?_, fun i t l b h1 h2 => ?_, fun i t l b h1 h2 => ?_, fun i j b h1 h2 => ?_, fun i t l b h1 h2 => ?_⟩, hbl⟩
 ·have := I.lo
  rw [hp, if_neg (by omega)]
  exact I.keep A hA
 ·rcases h with h | rfl
  ·rcases I.wn b h with h | h
   ·exact .inl h
   ·exact .inr (by omega)
  ·exact .inr ⟨I.lo, by omega⟩
 ·rcases hinv i b h with ⟨h1, h2⟩ | ⟨-, rfl⟩
  ·have := (I.bl i b h1).1
   omega
  ·exact ⟨I.lo, by omega⟩
 ·rcases hsig i _ h1 with ⟨h3, h4⟩ | ⟨rfl, h4⟩
  ·obtain ⟨g1, g2⟩ := hlb i h4 b h2
   obtain ⟨q1, acs', q2, q3⟩ := I.live i t l b h3 g1
   exact ⟨.inl q1, acs', by rw [hp, if_neg (by omega)]; exact q2, RelCs.ext E q3⟩
  ·subst h4
   rw [hbl] at h2
   cases h2
   obtain ⟨rfl, hc⟩ := hc
   exact ⟨.inr rfl, acs, by rw [hp, if_pos rfl], RelCs.ext E hc⟩
 ·rcases hsig i _ h1 with ⟨h3, h4⟩ | ⟨rfl, h4⟩
  ·obtain ⟨g1, g2⟩ := hlb i h4 b h2
   obtain ⟨q1, rw', acs', q2, q3⟩ := I.frz i t l b h3 g1
   refine ⟨fun h => ?_, rw', acs', by rw [hp, if_neg (by omega)]; exact q2, RelCs.ext E q3⟩
   rcases h with h | h
   ·exact q1 h
   ·omega
  ·subst h4
   exact hc.elim
 ·rcases hinv i b h1 with ⟨a1, a2⟩ | ⟨a1, a2⟩ <;> rcases hinv j b h2 with ⟨b1, b2⟩ | ⟨b1, b2⟩
  ·exact I.inj i j b a1 b1
  ·omega
  ·omega
  ·omega
 ·rcases hsig i _ h1 with ⟨h3, h4⟩ | ⟨rfl, h4⟩
  ·obtain ⟨g1, g2⟩ := hlb i h4 b h2
   obtain ⟨q1, acs', q2, q3⟩ := I.liv i t l b h3 g1
   exact ⟨.inl q1, acs', by rw [hp, if_neg (by omega)]; exact q2, RelVs.ext E q3⟩
  ·subst h4
   rw [hbl] at h2
   cases h2
   obtain ⟨rfl, hc⟩ := hc
   exact ⟨.inr rfl, acs, by rw [hp, if_pos rfl], RelVs.ext E hc⟩
theorem Sto.push (I : Sto H0 W0 c σ k W β H) (hk : k < c) {ty : TypeId} {cs : List PV} {acs : List AV} (hc : All2 (RelC H W) cs acs) :
  ∃ W', Ext W β H W' (β ++ [H.n]) (H.push (.cells true ty acs)) /\ Sto H0 W0 c (σ ++ [.live ty cs]) (k + 1) W' (β ++ [H.n]) (H.push (.cells true ty acs)) /\ (β ++ [H.n])[σ.length]? = some H.n := I.pushG hk (x := .live ty cs) ⟨rfl, hc⟩
theorem contOf_push {ty : TypeId} {cs : List PV} {j : Nat} (hj : j < σ.length) : contOf (σ ++ [.live ty cs]) j = contOf σ j := by
 unfold contOf
 rw [List.getElem?_append_left hj]
theorem Sto.writeG (I : Sto H0 W0 c σ k W β H) {j : Nat} {ty' : TypeId} {x y : StB} {b : Nat} {acs' : List AV} (hj : σ[j]? = some x) (hx : (∃ t cs, x = .live t cs) ∨ ∃ t cs, x = .liv t cs) (hb : β[j]? = some b) (hc : y.Is H W β ty' acs') :
  Ext W β H W β (H.set b (.cells true ty' acs')) /\ Sto H0 W0 c (σ.set j y) k W β (H.set b (.cells true ty' acs')) := by
 have hn := I.nlim
 obtain ⟨hbl, hbh⟩ := I.bl j b hb
 obtain ⟨hW, tx, acs, hg, hcs⟩ := I.is hj hb hx
 have hnf : ∀ t l, x ≠ .frz t l := fun t l e => by rcases hx with ⟨_, _, rfl⟩ | ⟨_, _, rfl⟩ <;> cases e
 have hp := Heap.get_set (H := H) (A := b) (b := .cells true ty' acs') hbh hn
 have hpn : (H.set b (.cells true ty' acs')).n = H.n := rfl
 generalize H.set b (.cells true ty' acs') = H' at hp hpn ⊢
 have E : Ext W β H W β H' := ⟨by omega, fun A hA hw => by rw [hp, if_neg (fun e => hw (by rw [e]; exact hW))], fun A _ h => h, fun _ _ h => h, fun A hA hn => by rw [hp, if_neg (fun e => hn j (by rw [e]; exact hb))], fun i _ h _ => ⟨i, h⟩⟩
 have hjl := (List.getElem?_eq_some_iff.1 hj).1
 refine ⟨E, I.room, I.kc, by have := I.lo; omega, by have := I.hi; omega, fun A hA => ?_, I.w0n, I.w0, fun x h => ?_, by simp [I.len], fun i x h => ?_, fun i t l x h1 h2 => ?_, fun i t l x h1 h2 => ?_, I.inj, fun i t l x h1 h2 => ?_⟩
 ·rw [hp, if_neg (by omega)]; exact I.keep A hA
 ·rcases I.wn x h with h | h
  ·exact .inl h
  ·exact .inr (by omega)
 ·have := I.bl i x h; omega
 ·by_cases e : i = j
  ·subst e
   rw [List.getElem?_set_self hjl] at h1
   cases h1
   rw [hb] at h2
   cases h2
   obtain ⟨rfl, hc⟩ := hc
   exact ⟨hW, acs', by rw [hp, if_pos rfl], RelCs.ext E hc⟩
  ·rw [List.getElem?_set_ne (Ne.symm e)] at h1
   obtain ⟨q1, a, q2, q3⟩ := I.live i t l x h1 h2
   exact ⟨q1, a, by rw [hp, if_neg (fun e' => e (I.inj i j b (by rw [← e']; exact h2) hb))]; exact q2, RelCs.ext E q3⟩
 ·by_cases e : i = j
  ·subst e
   rw [List.getElem?_set_self hjl] at h1
   cases h1
   exact hc.elim
  ·rw [List.getElem?_set_ne (Ne.symm e)] at h1
   obtain ⟨q1, r, a, q2, q3⟩ := I.frz i t l x h1 h2
   exact ⟨q1, r, a, by rw [hp, if_neg (fun e' => q1 (by rw [e']; exact hW))]; exact q2, RelCs.ext E q3⟩
 ·by_cases e : i = j
  ·subst e
   rw [List.getElem?_set_self hjl] at h1
   cases h1
   rw [hb] at h2
   cases h2
   obtain ⟨rfl, hc⟩ := hc
   exact ⟨hW, acs', by rw [hp, if_pos rfl], RelVs.ext E hc⟩
  ·rw [List.getElem?_set_ne (Ne.symm e)] at h1
   obtain ⟨q1, a, q2, q3⟩ := I.liv i t l x h1 h2
   exact ⟨q1, a, by rw [hp, if_neg (fun e' => e (I.inj i j b (by rw [← e']; exact h2) hb))]; exact q2, RelVs.ext E q3⟩
theorem Sto.write (I : Sto H0 W0 c σ k W β H) {j : Nat} {ty ty' : TypeId} {cs cs' : List PV} {b : Nat} {acs' : List AV} (hj : σ[j]? = some (.live ty cs)) (hb : β[j]? = some b) (hc : All2 (RelC H W) cs' acs') :
  Ext W β H W β (H.set b (.cells true ty' acs')) /\ Sto H0 W0 c (σ.set j (.live ty' cs')) k W β (H.set b (.cells true ty' acs')) := I.writeG hj (.inl ⟨_, _, rfl⟩) hb (y := .live ty' cs') ⟨rfl, hc⟩
theorem Sto.killG (I : Sto H0 W0 c σ k W β H) {j : Nat} {x : StB} {b : Nat} (hj : σ[j]? = some x) (hx : (∃ t cs, x = .live t cs) ∨ ∃ t cs, x = .liv t cs) (hb : β[j]? = some b) :
  Ext W β H W β (H.set b .dead) /\ Sto H0 W0 c (σ.set j .dead) k W β (H.set b .dead) := by
 have hn := I.nlim
 obtain ⟨hbl, hbh⟩ := I.bl j b hb
 obtain ⟨hW, tx, acs, hg, hcs⟩ := I.is hj hb hx
 have hp := Heap.get_set (H := H) (A := b) (b := .dead) hbh hn
 have hpn : (H.set b .dead).n = H.n := rfl
 generalize H.set b .dead = H' at hp hpn ⊢
 have E : Ext W β H W β H' := ⟨by omega, fun A hA hw => by rw [hp, if_neg (fun e => hw (by rw [e]; exact hW))], fun A _ h => h, fun _ _ h => h, fun A hA hn => by rw [hp, if_neg (fun e => hn j (by rw [e]; exact hb))], fun i _ h _ => ⟨i, h⟩⟩
 have hjl := (List.getElem?_eq_some_iff.1 hj).1
 refine ⟨E, I.room, I.kc, by have := I.lo; omega, by have := I.hi; omega, fun A hA => ?_, I.w0n, I.w0, fun x h => ?_, by simp [I.len], fun i x h => ?_, fun i t l x h1 h2 => ?_, fun i t l x h1 h2 => ?_, I.inj, fun i t l x h1 h2 => ?_⟩
 ·rw [hp, if_neg (by omega)]; exact I.keep A hA
 ·rcases I.wn x h with h | h
  ·exact .inl h
  ·exact .inr (by omega)
 ·have := I.bl i x h; omega
 ·by_cases e : i = j
  ·subst e
   rw [List.getElem?_set_self hjl] at h1
   cases h1
  ·rw [List.getElem?_set_ne (Ne.symm e)] at h1
   obtain ⟨q1, a, q2, q3⟩ := I.live i t l x h1 h2
   exact ⟨q1, a, by rw [hp, if_neg (fun e' => e (I.inj i j b (by rw [← e']; exact h2) hb))]; exact q2, RelCs.ext E q3⟩
 ·by_cases e : i = j
  ·subst e
   rw [List.getElem?_set_self hjl] at h1
   cases h1
  ·rw [List.getElem?_set_ne (Ne.symm e)] at h1
   obtain ⟨q1, r, a, q2, q3⟩ := I.frz i t l x h1 h2
   exact ⟨q1, r, a, by rw [hp, if_neg (fun e' => q1 (by rw [e']; exact hW))]; exact q2, RelCs.ext E q3⟩
 ·by_cases e : i = j
  ·subst e
   rw [List.getElem?_set_self hjl] at h1
   cases h1
  ·rw [List.getElem?_set_ne (Ne.symm e)] at h1
   obtain ⟨q1, a, q2, q3⟩ := I.liv i t l x h1 h2
   exact ⟨q1, a, by rw [hp, if_neg (fun e' => e (I.inj i j b (by rw [← e']; exact h2) hb))]; exact q2, RelVs.ext E q3⟩
theorem Sto.kill (I : Sto H0 W0 c σ k W β H) {j : Nat} {ty : TypeId} {cs : List PV} {b : Nat} (hj : σ[j]? = some (.live ty cs)) (hb : β[j]? = some b) :
  Ext W β H W β (H.set b .dead) /\ Sto H0 W0 c (σ.set j .dead) k W β (H.set b .dead) := I.killG hj (.inl ⟨_, _, rfl⟩) hb
/-! ### Calls -/
def KpH (H H' : Heap) (c : Nat) : Prop := H.n <= H'.n /\ H'.n <= H.n + c /\ ∀ A, A < H.n -> H'.get A = H.get A
def Ct (C : Ctx) (g : FuncId) (ps : List PV) (c : Nat) (Q : PV -> Prop) : Prop :=
 ∀ (H : Heap) (W : Nat -> Prop) (as : List AV), (∀ b, W b -> b < H.n) -> All2 (RelC H W) ps as -> H.n + c < lim -> Cl C g as H fun v H' => ∃ r, Q r /\ RelC H' W r v /\ KpH H H' c
def Cfr (C : Ctx) (g : FuncId) (ps : List PV) (c : Nat) (Q : TypeId -> Nat -> Nat -> Nat -> List PV -> Prop) : Prop :=
 ∀ (H : Heap) (W : Nat -> Prop) (as : List AV), (∀ b, W b -> b < H.n) -> All2 (RelC H W) ps as -> H.n + c < lim -> Cl C g as H fun v H' =>
  ∃ ty n cp e cs b acs, Q ty n cp e cs /\ v = .sl b 0 n cp /\ H.n <= b /\ b < H'.n /\ H'.get b = .cells true ty acs /\ All2 (RelC H' fun A => W A ∨ A = b) cs acs /\ KpH H H' c
def Cb (C : Ctx) (g : FuncId) (ps : List PV) (c : Nat) (Q : PV -> Prop) : Prop :=
 ∀ (H : Heap) (W : Nat -> Prop) (as : List AV), (∀ b, W b -> b < H.n) -> All2 (RelV H W []) ps as -> H.n + c < lim -> Cl C g as H fun v H' => ∃ r, Q r /\ RelC H' W r v /\ KpH H H' c
theorem Cb.ct {g : FuncId} {ps : List PV} {c : Nat} {Q : PV -> Prop} (h : Cb C g ps c Q) : Ct C g ps c Q := fun H W as hw ha hn => h H W as hw (RelVs.clo ha) hn
theorem Ct.mono {g : FuncId} {ps : List PV} {c c' : Nat} {Q Q' : PV -> Prop} (h : Ct C g ps c Q) (hc : c <= c') (hq : ∀ r, Q r -> Q' r) : Ct C g ps c' Q' := fun H W as hw ha hn => (h H W as hw ha (by omega)).mono fun v H' ⟨r, h1, h2, h3, h4, h5⟩ => ⟨r, hq r h1, h2, h3, by omega, h5⟩
theorem Ct.post {g : FuncId} {ps : List PV} {c : Nat} {Q Q' : PV -> Prop} (h : Ct C g ps c Q) (hq : ∀ r, Q r -> Q' r) : Ct C g ps c Q' := h.mono (Nat.le_refl _) hq
theorem Sto.wlt (I : Sto H0 W0 c σ k W β H) : ∀ b, W b -> b < H.n := fun b h => by
 rcases I.wn b h with h | h
 ·have := I.w0n b h; have := I.lo; omega
 ·exact h.2
theorem Sto.call (I : Sto H0 W0 c σ k W β H) {H' : Heap} {d : Nat} (h : KpH H H' d) (hd : k + d <= c) : Ext W β H W β H' /\ Sto H0 W0 c σ (k + d) W β H' := by
 obtain ⟨h1, h2, h3⟩ := h
 have E : Ext W β H W β H' := ⟨h1, fun A hA _ => h3 A hA, fun _ _ h => h, fun _ _ h => h, fun A hA _ => h3 A hA, fun i _ h _ => ⟨i, h⟩⟩
 refine ⟨E, I.room, hd, by have := I.lo; omega, by have := I.hi; omega, fun A hA => ?_, I.w0n, I.w0, fun x h => ?_, I.len, fun i x h => ?_, fun i t l x a1 a2 => ?_, fun i t l x a1 a2 => ?_, I.inj, fun i t l x a1 a2 => ?_⟩
 ·have := I.lo
  rw [h3 A (by omega)]; exact I.keep A hA
 ·rcases I.wn x h with h | h
  ·exact .inl h
  ·exact .inr (by omega)
 ·have := I.bl i x h; omega
 ·obtain ⟨q1, a, q2, q3⟩ := I.live i t l x a1 a2
  exact ⟨q1, a, by rw [h3 x (I.bl i x a2).2]; exact q2, RelCs.ext E q3⟩
 ·obtain ⟨q1, r, a, q2, q3⟩ := I.frz i t l x a1 a2
  exact ⟨q1, r, a, by rw [h3 x (I.bl i x a2).2]; exact q2, RelCs.ext E q3⟩
 ·obtain ⟨q1, a, q2, q3⟩ := I.liv i t l x a1 a2
  exact ⟨q1, a, by rw [h3 x (I.bl i x a2).2]; exact q2, RelVs.ext E q3⟩
theorem Sto.adopt (I : Sto H0 W0 c σ k W β H) {b : Nat} {ty : TypeId} {cs : List PV} {acs : List AV} (hb : H0.n <= b /\ b < H.n) (hne : ∀ i : Nat, β[i]? ≠ some b) (hg : H.get b = .cells true ty acs) (hc : All2 (RelC H fun A => W A ∨ A = b) cs acs)
  (hfree : ∀ (i : Nat) (t : TypeId) (l : List PV) (x : Nat), σ[i]? = some (.live t l) ∨ σ[i]? = some (.frz t l) -> β[i]? = some x -> ∀ rw a, H.get x = .cells rw t a -> All2 (RelC H W) l a -> All2 (RelC H fun A => W A ∨ A = b) l a)
  (hfv : ∀ (i : Nat) (t : TypeId) (l : List PV) (x : Nat), σ[i]? = some (.liv t l) -> β[i]? = some x -> ∀ a, H.get x = .cells true t a -> All2 (RelV H (fun A => W A ∨ A = b) (β ++ [b])) l a) :
  Sto H0 W0 c (σ ++ [.live ty cs]) k (fun A => W A ∨ A = b) (β ++ [b]) H := by
 have hbl : (β ++ [b])[σ.length]? = some b := by rw [← I.len]; simp
 have hinv : ∀ i x, (β ++ [b])[i]? = some x -> (β[i]? = some x) ∨ (i = σ.length /\ x = b) := fun i x h => by
  rcases Nat.lt_trichotomy i β.length with h1 | h1 | h1
  ·rw [List.getElem?_append_left h1] at h
   exact .inl h
  ·subst h1
   rw [I.len, hbl] at h
   cases h
   exact .inr ⟨I.len, rfl⟩
  ·rw [List.getElem?_eq_none (by simp; omega)] at h
   cases h
 have hsig : ∀ i y, (σ ++ [StB.live ty cs])[i]? = some y -> (σ[i]? = some y /\ i < σ.length) ∨ (i = σ.length /\ y = .live ty cs) := fun i y h => by
  rcases Nat.lt_trichotomy i σ.length with h1 | h1 | h1
  ·rw [List.getElem?_append_left h1] at h
   exact .inl ⟨h, h1⟩
  ·subst h1
   simp at h
   exact .inr ⟨rfl, h.symm⟩
  ·rw [List.getElem?_eq_none (by simp; omega)] at h
   cases h
 refine ⟨I.room, I.kc, I.lo, I.hi, I.keep, I.w0n, fun x h => .inl (I.w0 x h), fun x h => ?_, by simp [I.len], fun i x h => ?_, fun i t l x h1 h2 => ?_, fun i t l x h1 h2 => ?_, fun i j x h1 h2 => ?_, fun i t l x h1 h2 => ?_⟩
 ·rcases h with h | rfl
  ·exact I.wn x h
  ·exact .inr hb
 ·rcases hinv i x h with h | ⟨-, rfl⟩
  ·exact I.bl i x h
  ·exact hb
 ·rcases hsig i _ h1 with ⟨h3, h4⟩ | ⟨rfl, h4⟩
  ·rcases hinv i x h2 with h2 | h2
   ·obtain ⟨q1, a, q2, q3⟩ := I.live i t l x h3 h2
    exact ⟨.inl q1, a, q2, hfree i t l x (.inl h3) h2 _ a q2 q3⟩
   ·omega
  ·cases h4
   rw [hbl] at h2
   cases h2
   exact ⟨.inr rfl, acs, hg, hc⟩
 ·rcases hsig i _ h1 with ⟨h3, h4⟩ | ⟨rfl, h4⟩
  ·rcases hinv i x h2 with h5 | h5
   ·obtain ⟨q1, r, a, q2, q3⟩ := I.frz i t l x h3 h5
    refine ⟨fun h => ?_, r, a, q2, hfree i t l x (.inr h3) h5 _ a q2 q3⟩
    rcases h with h | h
    ·exact q1 h
    ·exact hne i (h ▸ h5)
   ·omega
  ·cases h4
 ·rcases hinv i x h1 with a | ⟨a, ea⟩ <;> rcases hinv j x h2 with b' | ⟨b', eb⟩
  ·exact I.inj i j x a b'
  ·subst eb; exact absurd a (hne i)
  ·subst ea; exact absurd b' (hne j)
  ·omega
 ·rcases hsig i _ h1 with ⟨h3, h4⟩ | ⟨rfl, h4⟩
  ·rcases hinv i x h2 with h2 | h2
   ·obtain ⟨q1, a, q2, q3⟩ := I.liv i t l x h3 h2
    exact ⟨.inl q1, a, q2, hfv i t l x h3 h2 a q2⟩
   ·omega
  ·cases h4
/-! ### Pointers that are lent -/
def lendK (σ : List StB) (p : PV) (K : PV -> List StB -> Prop) : Prop :=
 match p with
 | .optr i o => ∃ ty cs, contOf σ i = some (ty, cs) /\ o <= cs.length /\ K (.bptr (cs.drop o)) σ
 | .bptr cs => K (.bptr cs) σ
 | .lptr cs => K (.bptr cs) σ
 | p => frzAK σ p K
def lendsK (σ : List StB) : List PV -> (List PV -> List StB -> Prop) -> Prop
 | [], K => K [] σ
 | p :: ps, K => lendK σ p fun p' σ' => lendsK σ' ps fun ps' σ'' => K (p' :: ps') σ''
theorem Ext.here {W' : Nat -> Prop} (e : Ext W β H W' β H) : Ext W [] H W' [] H := ⟨e.n, e.get, e.w, fun _ _ h => h, fun _ _ _ => rfl, fun i _ h _ => ⟨i, h⟩⟩
theorem lendK_ok {p : PV} {a : AV} {K : PV -> List StB -> Prop} (h : lendK σ p K) (I : Sto H0 W0 c σ k W β H) (hr : RelV H W β p a) :
  ∃ p' σ' W', FrzO H0 W0 c k σ W β H σ' W' /\ RelV H W' [] p' a /\ K p' σ' := by
 have triv : FrzO H0 W0 c k σ W β H σ W := ⟨Ext.refl _ _ _, I, rfl, fun _ => rfl, fun _ => rfl⟩
 unfold lendK at h
 split at h
 ·rename_i i o
  obtain ⟨ty, cs, h1, h2, h3⟩ := h
  obtain ⟨b, hb, rfl⟩ := hr.optr_inv
  obtain ⟨rw', acs, g1, g2⟩ := I.cont h1 hb
  have hl := g2.length
  refine ⟨_, σ, W, triv, .bptr (fun i h => by simp at h) g1 (by simp; omega) ?_, h3⟩
  have := (g2.drop o).take (cs.drop o).length
  rwa [List.take_of_length_le (Nat.le_refl _)] at this
 ·obtain ⟨b, o, _, _, _, rfl, q1, q2, q3, q4⟩ := hr.bptr_inv
  exact ⟨_, σ, W, triv, .bptr (fun i h => by simp at h) q2 q3 q4, h⟩
 ·obtain ⟨b, o, _, _, _, rfl, q1, q2, q3, q4⟩ := hr.lptr_inv
  exact ⟨_, σ, W, triv, .bptr (fun i h => by simp at h) q2 q3 q4, h⟩
 ·obtain ⟨p', σ', W', f, r, hK⟩ := frzAK_ok h I hr
  exact ⟨p', σ', W', f, .clo r, hK⟩
theorem lendsK_ok : ∀ {ps : List PV} {σ : List StB} {W : Nat -> Prop} {as : List AV} {K : List PV -> List StB -> Prop}, lendsK σ ps K -> Sto H0 W0 c σ k W β H -> All2 (RelV H W β) ps as →
  ∃ ps' σ' W', FrzO H0 W0 c k σ W β H σ' W' /\ All2 (RelV H W' []) ps' as /\ K ps' σ'
 | [], σ, W, as, K, h, I, hr => by
  cases hr
  exact ⟨[], σ, W, ⟨Ext.refl _ _ _, I, rfl, fun _ => rfl, fun _ => rfl⟩, .nil, h⟩
 | p :: ps, σ, W, as, K, h, I, hr => by
  cases hr with
  | cons h1 h2 =>
   obtain ⟨p', σ1, W1, f1, r1, h3⟩ := lendK_ok (show lendK σ p _ from h) I h1
   obtain ⟨ps', σ2, W2, f2, r2, h4⟩ := lendsK_ok h3 f1.2.1 (RelVs.ext f1.1 h2)
   exact ⟨p' :: ps', σ2, W2, f1.trans f2, .cons (r1.ext f2.1.here) r2, h4⟩
/-! ### Blocks whose cells were ours become blocks of plain values -/
def sealK (σ : List StB) (j : Nat) (K : List StB -> Prop) : Prop :=
 ∃ ty cs, σ[j]? = some (.liv ty cs) /\ frzsK σ cs fun cs' σ' => ∃ σ2, σ'.set j (.live ty cs') = σ2 /\ K σ2
def sealsK (σ : List StB) : List Nat -> (List StB -> Prop) -> Prop
 | [], K => K σ
 | j :: js, K => sealK σ j fun σ' => sealsK σ' js K
theorem livOf_is {σ : List StB} {j : Nat} {ty : TypeId} {cs : List PV} (h : livOf σ j = some (ty, cs)) : σ[j]? = some (.liv ty cs) := by
 unfold livOf at h
 split at h
 ·rename_i h1; cases h; exact h1
 ·cases h
theorem livOf_of {σ : List StB} {j : Nat} {ty : TypeId} {cs : List PV} (h : σ[j]? = some (.liv ty cs)) : livOf σ j = some (ty, cs) := by
 unfold livOf; rw [h]
theorem sealK_ok {j : Nat} {K : List StB -> Prop} (h : sealK σ j K) (I : Sto H0 W0 c σ k W β H) : ∃ σ' W', Ext W β H W' β H /\ Sto H0 W0 c σ' k W' β H /\ σ'.length = σ.length /\ K σ' := by
 obtain ⟨ty, cs, hj, h⟩ := h
 obtain ⟨b, hb⟩ := I.blk hj
 obtain ⟨hW, acs, hg, hr⟩ := I.liv j ty cs b hj hb
 obtain ⟨cs', σ', W', f, r, σ2, rfl, hK⟩ := frzsK_ok h I hr
 obtain ⟨E, I', hl, hc, hv⟩ := f
 have hj' : σ'[j]? = some (.liv ty cs) := livOf_is (by rw [hv, livOf_of hj])
 obtain ⟨hW', acs', hg', hr'⟩ := I'.liv j ty cs b hj' hb
 have hjl := (List.getElem?_eq_some_iff.1 hj').1
 refine ⟨_, W', E, ⟨I'.room, I'.kc, I'.lo, I'.hi, I'.keep, I'.w0n, I'.w0, I'.wn, by simp [I'.len], I'.bl, fun i t l x h1 h2 => ?_, fun i t l x h1 h2 => ?_, I'.inj, fun i t l x h1 h2 => ?_⟩, by simp [hl], hK⟩
 ·by_cases e : i = j
  ·subst e
   rw [List.getElem?_set_self hjl] at h1
   cases h1
   rw [hb] at h2
   cases h2
   exact ⟨hW', acs, hg, r⟩
  ·rw [List.getElem?_set_ne (Ne.symm e)] at h1
   exact I'.live i t l x h1 h2
 ·by_cases e : i = j
  ·subst e
   rw [List.getElem?_set_self hjl] at h1
   cases h1
  ·rw [List.getElem?_set_ne (Ne.symm e)] at h1
   exact I'.frz i t l x h1 h2
 ·by_cases e : i = j
  ·subst e
   rw [List.getElem?_set_self hjl] at h1
   cases h1
  ·rw [List.getElem?_set_ne (Ne.symm e)] at h1
   exact I'.liv i t l x h1 h2
theorem sealsK_ok : ∀ {js : List Nat} {σ : List StB} {W : Nat -> Prop} {K : List StB -> Prop}, sealsK σ js K -> Sto H0 W0 c σ k W β H -> ∃ σ' W', Ext W β H W' β H /\ Sto H0 W0 c σ' k W' β H /\ σ'.length = σ.length /\ K σ'
 | [], σ, W, K, h, I => ⟨σ, W, Ext.refl _ _ _, I, rfl, h⟩
 | j :: js, σ, W, K, h, I => by
  obtain ⟨σ1, W1, E1, I1, l1, h1⟩ := sealK_ok (show sealK σ j _ from h) I
  obtain ⟨σ2, W2, E2, I2, l2, h2⟩ := sealsK_ok h1 I1
  exact ⟨σ2, W2, E1.trans E2, I2, l2.trans l1, h2⟩
/-! ### Calls that are given the store -/
def frzmK (σ : List StB) : List Bool -> List PV -> (List PV -> List StB -> Prop) -> Prop
 | _, [], K => K [] σ
 | true :: ms, p :: ps, K => frzAK σ p fun p' σ' => frzmK σ' ms ps fun ps' σ'' => K (p' :: ps') σ''
 | _ :: ms, p :: ps, K => frzmK σ ms ps fun ps' σ'' => K (p :: ps') σ''
 | [], ps, K => K ps σ
theorem frzmK_ok : ∀ {ms : List Bool} {ps : List PV} {σ : List StB} {W : Nat -> Prop} {as : List AV} {K : List PV -> List StB -> Prop}, frzmK σ ms ps K -> Sto H0 W0 c σ k W β H -> All2 (RelV H W β) ps as →
  ∃ ps' σ' W', FrzO H0 W0 c k σ W β H σ' W' /\ All2 (RelV H W' β) ps' as /\ K ps' σ'
 | ms, [], σ, W, as, K, h, I, hr => by
  cases hr
  exact ⟨[], σ, W, ⟨Ext.refl _ _ _, I, rfl, fun _ => rfl, fun _ => rfl⟩, .nil, by cases ms <;> exact h⟩
 | [], p :: ps, σ, W, as, K, h, I, hr => ⟨p :: ps, σ, W, ⟨Ext.refl _ _ _, I, rfl, fun _ => rfl, fun _ => rfl⟩, hr, h⟩
 | true :: ms, p :: ps, σ, W, as, K, h, I, hr => by
  cases hr with
  | cons h1 h2 =>
   obtain ⟨p', σ1, W1, f1, r1, h3⟩ := frzAK_ok (show frzAK σ p _ from h) I h1
   obtain ⟨ps', σ2, W2, f2, r2, h4⟩ := frzmK_ok h3 f1.2.1 (RelVs.ext f1.1 h2)
   exact ⟨p' :: ps', σ2, W2, f1.trans f2, .cons (.clo (r1.ext f2.1)) r2, h4⟩
 | false :: ms, p :: ps, σ, W, as, K, h, I, hr => by
  cases hr with
  | cons h1 h2 =>
   obtain ⟨ps', σ2, W2, f2, r2, h4⟩ := frzmK_ok (ms := ms) (show frzmK σ ms ps _ from h) I h2
   exact ⟨p :: ps', σ2, W2, f2, .cons (h1.ext f2.1) r2, h4⟩
def Cm (C : Ctx) (g : FuncId) (ps : List PV) (σ : List StB) (d : Nat) (Q : PV -> List StB -> Prop) : Prop :=
 ∀ (H0 : Heap) (W0 : Nat -> Prop) (c k : Nat) (W : Nat -> Prop) (β : List Nat) (H : Heap) (as : List AV), Sto H0 W0 c σ k W β H -> k + d <= c -> All2 (RelV H W β) ps as -> Cl C g as H fun v H' =>
  ∃ r σ' k' W' β', Ext W β H W' β' H' /\ Sto H0 W0 c σ' k' W' β' H' /\ RelV H' W' β' r v /\ Q r σ' /\ k' <= k + d
theorem Cm.post {g : FuncId} {ps : List PV} {d d' : Nat} {Q Q' : PV -> List StB -> Prop} (h : Cm C g ps σ d Q) (hd : d <= d') (hq : ∀ r σ', Q r σ' -> Q' r σ') : Cm C g ps σ d' Q' := fun H0 W0 c k W β H as I hc hr =>
 (h H0 W0 c k W β H as I (by omega) hr).mono fun v H' ⟨r, σ', k', W', β', h1, h2, h3, h4, h5⟩ => ⟨r, σ', k', W', β', h1, h2, h3, hq r σ' h4, by omega⟩
theorem Sto.raise (I : Sto H0 W0 c σ k W β H) {k' : Nat} (h1 : k <= k') (h2 : k' <= c) : Sto H0 W0 c σ k' W β H :=
 ⟨I.room, h2, I.lo, by have := I.hi; omega, I.keep, I.w0n, I.w0, I.wn, I.len, I.bl, I.live, I.frz, I.inj, I.liv⟩
end Go.PI
namespace Go.PI
def PV.pcells : PV -> List PV
 | .agg cs => cs
 | v => [v]
def PV.one : PV -> Bool
 | .agg _ | .tup _ => false
 | _ => true
def pones : List PV -> Bool
 | [] => true
 | a :: as => a.one && pones as
def sm1 : PV -> Bool
 | .agg _ | .tup _ | .fn _ => false
 | _ => true
def sm1s : List PV -> Bool
 | [] => true
 | a :: as => sm1 a && sm1s as
def smP : PV -> Bool
 | .agg cs => sm1s cs
 | v => sm1 v
def pspl (cs : List PV) (off : Nat) (vs : List PV) : List PV := cs.take off ++ vs ++ cs.drop (off + vs.length)
def ploadE (C : Ctx) (σ : List StB) (t : TypeId) (p : PV) : Option PV :=
 match C.ty t with
 | some i => match p with
  | .optr j o => match contOf σ j with
   | some (_, cs) => partP i cs o
   | none => match livOf σ j with
    | some (_, cs) => partP i cs o
    | none => none
  | .lptr cs => partP i cs 0
  | .bptr cs => partP i cs 0
  | _ => none
 | none => none
def pstoreK (C : Ctx) (σ : List StB) (t : TypeId) (a v : PV) (K : List StB -> Prop) : Prop :=
 match C.ty t with
 | some i => match a with
  | .optr j o => ∃ ty cs, σ[j]? = some (.live ty cs) /\ (v.pcells.length = i.size /\ o + i.size <= cs.length /\ pones v.pcells = true) /\ ∃ cs', pspl cs o v.pcells = cs' /\ ∃ σ', σ.set j (.live ty cs') = σ' /\ K σ'
  | _ => False
 | none => False
def pstoreL (C : Ctx) (σ : List StB) (t : TypeId) (a v : PV) (K : List StB -> Prop) : Prop :=
 match C.ty t with
 | some i => match a with
  | .optr j o => ∃ ty cs, σ[j]? = some (.liv ty cs) /\ (v.pcells.length = i.size /\ o + i.size <= cs.length /\ pones v.pcells = true) /\ ∃ cs', pspl cs o v.pcells = cs' /\ ∃ σ', σ.set j (.liv ty cs') = σ' /\ K σ'
  | _ => False
 | none => False
def psrcK (σ : List StB) (ei : TI) (x : PV) (K : Nat -> List PV -> Prop) : Prop :=
 match x with
 | .nils => K 0 []
 | .lst n cs => cs.length = n * ei.size /\ K n cs
 | .own j o n _ _ => ∃ ty cs new, contOf σ j = some (ty, cs) /\ o + n * ei.size <= cs.length /\ (cs.drop o).take (n * ei.size) = new /\ K n new
 | .ownu j n _ => ∃ ty cs new, contOf σ j = some (ty, cs) /\ n * ei.size <= cs.length /\ cs.take (n * ei.size) = new /\ K n new
 | .str s => ei.size = 1 /\ K s.size (s.data.toList.map fun b => .int .u8 b.toNat)
 | _ => False
def contV (σ : List StB) (j : Nat) : Option (TypeId × List PV) :=
 match contOf σ j with
 | some x => some x
 | none => livOf σ j
def psrcL (σ : List StB) (ei : TI) (x : PV) (K : Nat -> List PV -> Prop) : Prop :=
 match x with
 | .nils => K 0 []
 | .lst n cs => cs.length = n * ei.size /\ K n cs
 | .own j o n _ _ => ∃ ty cs new, contV σ j = some (ty, cs) /\ o + n * ei.size <= cs.length /\ (cs.drop o).take (n * ei.size) = new /\ K n new
 | .ownu j n _ => ∃ ty cs new, contV σ j = some (ty, cs) /\ n * ei.size <= cs.length /\ cs.take (n * ei.size) = new /\ K n new
 | _ => False
def pappL (C : Ctx) (c k : Nat) (σ : List StB) (ts : List TypeId) (s x : PV) (K : PV -> List StB -> Nat -> Prop) : Prop :=
 match ts with
 | t :: tx :: _ => match C.ty t, C.ty tx with
  | some { desc := .slice e, .. }, some xi => match C.ty e with
   | some ei => match decide (srcOk xi.desc = true /\ ei.bytes <= 2 ^ 10) with
    | true => psrcL σ ei x fun m new => (m <= 2 ^ 30 /\ pones new = true) /\ match s with
     | .nils => (m = 0 -> K .nils σ k) /\ (m ≠ 0 -> k < c /\ K (.ownu σ.length m ei.size) (σ ++ [.liv e new]) (k + 1))
     | .own j o n cap e' => n <= 2 ^ 30 /\ (n + m <= cap -> ∃ ty cs cs', σ[j]? = some (.liv ty cs) /\ o + n * ei.size + new.length <= cs.length /\ pspl cs (o + n * ei.size) new = cs' /\ K (.own j o (n + m) cap e') (σ.set j (.liv ty cs')) k) ∧
       (cap < n + m -> k < c /\ ∃ ty cs cs', contV σ j = some (ty, cs) /\ o + n * ei.size <= cs.length /\ (cs.drop o).take (n * ei.size) ++ new = cs' /\ K (.ownu σ.length (n + m) ei.size) (σ ++ [.liv e cs']) (k + 1))
     | .ownu j n e' => (n <= 2 ^ 30 /\ e' = ei.size /\ k < c) /\ ∃ cs cs', σ[j]? = some (.liv e cs) /\ n * ei.size <= cs.length /\ cs.take (n * ei.size) ++ new = cs' /\ K (.ownu σ.length (n + m) e') (σ.set j .dead ++ [.liv e cs']) (k + 1)
     | _ => False
    | false => False
   | none => False
  | _, _ => False
 | _ => False
def pappK (C : Ctx) (c k : Nat) (σ : List StB) (ts : List TypeId) (s x : PV) (K : PV -> List StB -> Nat -> Prop) : Prop :=
 match ts with
 | t :: tx :: _ => match C.ty t, C.ty tx with
  | some { desc := .slice e, .. }, some xi => match C.ty e with
   | some ei => match decide (srcOk xi.desc = true /\ ei.bytes <= 2 ^ 10) with
    | true => psrcK σ ei x fun m new => (m <= 2 ^ 30 /\ pones new = true) /\ match s with
     | .nils => (m = 0 -> K .nils σ k) /\ (m ≠ 0 -> k < c /\ K (.ownu σ.length m ei.size) (σ ++ [.live e new]) (k + 1))
     | .own j o n cap e' => n <= 2 ^ 30 /\ (n + m <= cap -> ∃ ty cs cs', σ[j]? = some (.live ty cs) /\ o + n * ei.size + new.length <= cs.length /\ pspl cs (o + n * ei.size) new = cs' /\ K (.own j o (n + m) cap e') (σ.set j (.live ty cs')) k) ∧
       (cap < n + m -> k < c /\ ∃ ty cs cs', contOf σ j = some (ty, cs) /\ o + n * ei.size <= cs.length /\ (cs.drop o).take (n * ei.size) ++ new = cs' /\ K (.ownu σ.length (n + m) ei.size) (σ ++ [.live e cs']) (k + 1))
     | .ownu j n e' => (n <= 2 ^ 30 /\ e' = ei.size /\ k < c) /\ ∃ cs cs', σ[j]? = some (.live e cs) /\ n * ei.size <= cs.length /\ cs.take (n * ei.size) ++ new = cs' /\ K (.ownu σ.length (n + m) e') (σ.set j .dead ++ [.live e cs']) (k + 1)
     | _ => False
    | false => False
   | none => False
  | _, _ => False
 | _ => False
def pcopyK (C : Ctx) (σ : List StB) (ts : List TypeId) (d x : PV) (K : PV -> List StB -> Prop) : Prop :=
 match ts with
 | t :: _ => match C.ty t with
  | some { desc := .slice e, .. } => match C.ty e with
   | some ei => psrcK σ ei x fun m new => match d with
    | .own j o n _ _ => ∃ ty cs cs', σ[j]? = some (.live ty cs) /\ (o + min m n * ei.size <= cs.length /\ min m n * ei.size <= new.length /\ pones (new.take (min m n * ei.size)) = true) /\ pspl cs o (new.take (min m n * ei.size)) = cs' /\ K (.int .i64 (min m n : Nat)) (σ.set j (.live ty cs'))
    | _ => False
   | none => False
  | _ => False
 | _ => False
def ppartsK (T : List PV) : List (Nat × Operand) -> (List (Nat × PV) -> Prop) -> Prop
 | [], K => K []
 | (i, x) :: xs, K => popdK T x fun a => ppartsK T xs fun as => K ((i, a) :: as)
def frzPK (σ : List StB) : List (Nat × PV) -> (List (Nat × PV) -> List StB -> Prop) -> Prop
 | [], K => K [] σ
 | (i, p) :: ps, K => frzAK σ p fun p' σ' => frzPK σ' ps fun ps' σ'' => K ((i, p') :: ps') σ''
def fillP (place : Nat -> Option (Nat × Nat)) (cells : List PV) : List (Nat × PV) -> Option (List PV)
 | [] => some cells
 | (i, v) :: rest => match place i with
  | none => none
  | some (off, size) => if v.pcells.length ≠ size ∨ off + size > cells.length then none else fillP place (pspl cells off v.pcells) rest
section
variable {C : Ctx} {H0 H : Heap} {W0 W : Nat -> Prop} {c k : Nat} {σ : List StB} {β : List Nat}
theorem RelC.cells {p : PV} {a : AV} (h : RelC H W p a) : All2 (RelC H W) p.pcells a.cells := by
 cases h with
 | agg h => exact h
 | int => exact .cons (.int _ _) .nil
 | bool => exact .cons (.bool _) .nil
 | str => exact .cons (.str _) .nil
 | nilp => exact .cons .nilp .nil
 | nilf => exact .cons .nilf .nil
 | nili => exact .cons .nili .nil
 | fn => exact .cons (.fn _) .nil
 | lnil => exact .cons .lnil .nil
 | lsle => exact .cons .lsle .nil
 | sl a b c d e => exact .cons (.sl a b c d e) .nil
 | slu a b c d e => exact .cons (.slu a b c d e) .nil
 | lptr a b c d => exact .cons (.lptr a b c d) .nil
 | tup h => exact .cons (.tup h) .nil
theorem RelC.one {p : PV} {a : AV} (h : RelC H W p a) (ho : p.one = true) : a.one = true := by
 cases h <;> first | rfl | cases ho
theorem ones_rel : ∀ {ps : List PV} {as : List AV}, All2 (RelC H W) ps as -> pones ps = true -> ones as = true
 | [], _, h, _ => by cases h; rfl
 | p :: ps, _, h, ho => by
  cases h with
  | cons h1 h2 =>
   simp only [pones, Bool.and_eq_true] at ho
   simp only [ones, h1.one ho.1, ones_rel h2 ho.2, Bool.and_self]
theorem RelV.cells {p : PV} {a : AV} (h : RelV H W β p a) : All2 (RelV H W β) p.pcells a.cells := by
 cases h with
 | clo h => exact RelVs.clo h.cells
 | nils => exact .cons .nils .nil
 | own o n c e h => exact .cons (.own o n c e h) .nil
 | ownu n e h => exact .cons (.ownu n e h) .nil
 | optr o h => exact .cons (.optr o h) .nil
 | bptr a b c d => exact .cons (.bptr a b c d) .nil
 | agg h => exact h
 | tup h => exact .cons (.tup h) .nil
theorem RelV.one {p : PV} {a : AV} (h : RelV H W β p a) (ho : p.one = true) : a.one = true := by
 cases h with
 | clo h => exact h.one ho
 | agg => cases ho
 | tup => cases ho
 | _ => rfl
theorem onesV_rel : ∀ {ps : List PV} {as : List AV}, All2 (RelV H W β) ps as -> pones ps = true -> ones as = true
 | [], _, h, _ => by cases h; rfl
 | p :: ps, _, h, ho => by
  cases h with
  | cons h1 h2 =>
   simp only [pones, Bool.and_eq_true] at ho
   simp only [ones, h1.one ho.1, onesV_rel h2 ho.2, Bool.and_self]
theorem RelV.sm1 {p : PV} {a : AV} (h : RelV H W β p a) (hs : sm1 p = true) : a.sames a = true := by
 cases h with
 | clo h => cases h <;> first | (simp [AV.sames]; done) | cases hs
 | nils => rfl
 | own => simp [AV.sames]
 | ownu => simp [AV.sames]
 | optr => simp [AV.sames]
 | bptr => simp [AV.sames]
 | agg => cases hs
 | tup => cases hs
theorem RelV.sm1s : ∀ {ps : List PV} {as : List AV}, All2 (RelV H W β) ps as -> PI.sm1s ps = true -> sameLs as as = true
 | [], _, h, _ => by cases h; rfl
 | p :: ps, _, h, hs => by
  cases h with
  | cons h1 h2 =>
   simp only [PI.sm1s, Bool.and_eq_true] at hs
   simp only [sameLs, h1.sm1 hs.1, RelV.sm1s h2 hs.2, Bool.and_self]
theorem RelV.same {p : PV} {a : AV} (h : RelV H W β p a) (hs : smP p = true) : a.same a = true := by
 have key : PI.sm1 p = true -> a.same a = true := fun h1 => by
  have := h.sm1 h1
  cases a <;> first | exact this | (simp [AV.sames] at this)
 cases p with
 | agg cs =>
  obtain ⟨as, rfl, h2⟩ := h.agg_inv
  exact RelV.sm1s h2 hs
 | _ => exact key hs
theorem spl_rel {R : PV -> AV -> Prop} {cs vs : List PV} {as us : List AV} (h : All2 R cs as) (h2 : All2 R vs us) (o : Nat) : All2 R (pspl cs o vs) (splice as o us) := by
 unfold pspl splice
 rw [h2.length]
 exact All2.append (All2.append (h.take _) h2) (h.drop _)
theorem load_ok (I : Sto H0 W0 c σ k W β H) {t : TypeId} {p r : PV} {a : AV} (h : ploadE C σ t p = some r) (hr : RelV H W β p a) :
  ∃ b o v, a = .ptr b o /\ b < H.n /\ loadE C t a H = some v /\ RelV H W β r v := by
 unfold ploadE at h
 split at h
 ·rename_i i ht
  split at h
  ·rename_i j o
   obtain ⟨b, hb, rfl⟩ := hr.optr_inv
   split at h
   ·rename_i ty cs hc
    obtain ⟨rw', acs, h1, h2⟩ := I.cont hc hb
    obtain ⟨v, h3, h4⟩ := partP_ok ht (fun _ _ h => RelC.agg h) h2 h
    exact ⟨b, o, v, rfl, (I.bl j b hb).2, by simp only [loadE, ht, h1]; exact h3, .clo h4⟩
   ·split at h
    ·rename_i ty cs hc
     obtain ⟨-, acs, h1, h2⟩ := I.liv j ty cs b (livOf_is hc) hb
     obtain ⟨v, h3, h4⟩ := partP_ok ht (fun _ _ h => RelV.agg h) h2 h
     exact ⟨b, o, v, rfl, (I.bl j b hb).2, by simp only [loadE, ht, h1]; exact h3, h4⟩
    ·cases h
  ·rename_i cs
   obtain ⟨b, o, _, _, bcs, rfl, q1, q2, q3, q4⟩ := hr.lptr_inv
   have key : ∀ {x}, partE C t ((bcs.drop o).take cs.length) 0 = some x -> partE C t bcs o = some x := fun {x} hx => by
    have hl := q4.length
    simp only [partE, ht] at hx ⊢
    split at hx
    ·split at hx
     ·cases hx
      rename_i hle
      rw [← hl] at hle
      rw [if_pos (by omega)]
      congr 2
      rw [List.drop_zero, List.take_take, Nat.min_eq_left (by omega)]
     ·cases hx
    ·split at hx
     ·cases hx
      rename_i hle
      rw [← hl] at hle
      rw [if_pos (by omega)]
      congr 2
      rw [List.drop_zero, List.take_take, Nat.min_eq_left (by omega)]
     ·cases hx
    ·have h0 : 0 < cs.length := by
      have := (List.getElem?_eq_some_iff.1 hx).1
      rw [← hl] at this
      exact this
     rw [List.getElem?_take, if_pos h0, List.getElem?_drop] at hx
     exact hx
   obtain ⟨v, h3, h4⟩ := partP_ok ht (fun _ _ h => RelC.agg h) q4 h
   refine ⟨b, o, v, rfl, Heap.lt_cells q2, ?_, .clo h4⟩
   have := key h3
   simp only [loadE, ht, q2]
   exact this
  ·rename_i cs
   obtain ⟨b, o, _, _, bcs, rfl, q1, q2, q3, q4⟩ := hr.bptr_inv
   have key : ∀ {x}, partE C t ((bcs.drop o).take cs.length) 0 = some x -> partE C t bcs o = some x := fun {x} hx => by
    have hl := q4.length
    simp only [partE, ht] at hx ⊢
    split at hx
    ·split at hx
     ·cases hx
      rename_i hle
      rw [← hl] at hle
      rw [if_pos (by omega)]
      congr 2
      rw [List.drop_zero, List.take_take, Nat.min_eq_left (by omega)]
     ·cases hx
    ·split at hx
     ·cases hx
      rename_i hle
      rw [← hl] at hle
      rw [if_pos (by omega)]
      congr 2
      rw [List.drop_zero, List.take_take, Nat.min_eq_left (by omega)]
     ·cases hx
    ·have h0 : 0 < cs.length := by
      have := (List.getElem?_eq_some_iff.1 hx).1
      rw [← hl] at this
      exact this
     rw [List.getElem?_take, if_pos h0, List.getElem?_drop] at hx
     exact hx
   obtain ⟨v, h3, h4⟩ := partP_ok ht (fun _ _ h => RelC.agg h) q4 h
   refine ⟨b, o, v, rfl, Heap.lt_cells q2, ?_, .clo h4⟩
   have := key h3
   simp only [loadE, ht, q2]
   exact this
  ·cases h
 ·cases h
theorem store_ok (I : Sto H0 W0 c σ k W β H) {t : TypeId} {p q : PV} {a v : AV} {K : List StB -> Prop} (h : pstoreK C σ t p q K) (hp : RelV H W β p a) (hq : RelC H W q v) :
  ∃ H' σ', storeE C t a v H = some H' /\ Ext W β H W β H' /\ Sto H0 W0 c σ' k W β H' /\ K σ' := by
 unfold pstoreK at h
 split at h
 ·rename_i i ht
  split at h
  ·rename_i j o
   obtain ⟨ty, cs, hj, ⟨h1, h2, h3⟩, cs', rfl, σ', rfl, h4⟩ := h
   obtain ⟨b, hb, rfl⟩ := hp.optr_inv
   obtain ⟨hW, acs, g1, g2⟩ := I.live j ty cs b hj hb
   have hc := hq.cells
   have hl := hc.length
   have hl2 := g2.length
   obtain ⟨E, I'⟩ := I.write (ty' := ty) hj hb (spl_rel g2 hc o)
   exact ⟨_, _, by simp only [storeE, ht, g1]; rw [if_pos ⟨by omega, by omega, ones_rel hc h3⟩], E, I', h4⟩
  ·exact h.elim
 ·exact h.elim
theorem storeL_ok (I : Sto H0 W0 c σ k W β H) {t : TypeId} {p q : PV} {a v : AV} {K : List StB -> Prop} (h : pstoreL C σ t p q K) (hp : RelV H W β p a) (hq : RelV H W β q v) :
  ∃ H' σ', storeE C t a v H = some H' /\ Ext W β H W β H' /\ Sto H0 W0 c σ' k W β H' /\ K σ' := by
 unfold pstoreL at h
 split at h
 ·rename_i i ht
  split at h
  ·rename_i j o
   obtain ⟨ty, cs, hj, ⟨h1, h2, h3⟩, cs', rfl, σ', rfl, h4⟩ := h
   obtain ⟨b, hb, rfl⟩ := hp.optr_inv
   obtain ⟨hW, acs, g1, g2⟩ := I.liv j ty cs b hj hb
   have hc := hq.cells
   have hl := hc.length
   have hl2 := g2.length
   obtain ⟨E, I'⟩ := I.writeG (ty' := ty) hj (.inr ⟨_, _, rfl⟩) hb (y := .liv ty _) ⟨rfl, spl_rel g2 hc o⟩
   exact ⟨_, _, by simp only [storeE, ht, g1]; rw [if_pos ⟨by omega, by omega, onesV_rel hc h3⟩], E, I', h4⟩
  ·exact h.elim
 ·exact h.elim
theorem Sto.contV (I : Sto H0 W0 c σ k W β H) {i : Nat} {ty : TypeId} {cs : List PV} {b : Nat} (h : contV σ i = some (ty, cs)) (hb : β[i]? = some b) :
  ∃ rw acs, H.get b = .cells rw ty acs /\ All2 (RelV H W β) cs acs := by
 unfold PI.contV at h
 split at h
 ·rename_i hc
  cases h
  obtain ⟨rw', acs, h1, h2⟩ := I.cont hc hb
  exact ⟨rw', acs, h1, RelVs.clo h2⟩
 ·obtain ⟨-, acs, h1, h2⟩ := I.liv i ty cs b (livOf_is h) hb
  exact ⟨true, acs, h1, h2⟩
theorem srcL_ok (I : Sto H0 W0 c σ k W β H) {ei : TI} {x : PV} {a : AV} {K : Nat -> List PV -> Prop} (h : psrcL σ ei x K) (hr : RelV H W β x a) :
  ∃ m new, K m new /\ lenE a = some m /\ new.length = m * ei.size /\ ∃ l, cellsE H ei.size m a = some l /\ All2 (RelV H W β) new l := by
 unfold psrcL at h
 split at h
 ·have := hr.nils_inv
  subst this
  exact ⟨0, [], h, rfl, by simp, [], by simp [cellsE], .nil⟩
 ·rename_i n cs
  obtain ⟨h1, h2⟩ := h
  have hl := hr.lst_inv
  refine ⟨n, cs, h2, ?_, h1, ?_⟩
  ·cases hl <;> rfl
  ·cases hl with
   | lnil => exact ⟨[], by simp [cellsE], .nil⟩
   | lsle => exact ⟨[], by simp [cellsE], .nil⟩
   | @sl _ _ b o cp rw' ty bcs q1 q2 q3 q4 q5 =>
    refine ⟨_, by simp only [cellsE, q2]; rw [if_pos (by omega)], ?_⟩
    have := RelVs.clo (β := β) q5
    rwa [h1] at this
   | @slu _ _ b o ez rw' ty bcs q1 q2 q3 q4 q5 =>
    refine ⟨_, by simp only [cellsE, q2]; rw [if_pos (by omega)], ?_⟩
    have := RelVs.clo (β := β) q5
    rwa [h1] at this
 ·rename_i j o n cp e
  obtain ⟨ty, cs, new, h1, h2, rfl, h3⟩ := h
  obtain ⟨b, hb, rfl⟩ := hr.own_inv
  obtain ⟨rw', acs, g1, g2⟩ := I.contV h1 hb
  have hl := g2.length
  exact ⟨n, _, h3, rfl, by simp; omega, _, by simp only [cellsE, g1]; rw [if_pos (by omega)], (g2.drop o).take _⟩
 ·rename_i j n e
  obtain ⟨ty, cs, new, h1, h2, rfl, h3⟩ := h
  obtain ⟨b, hb, rfl⟩ := hr.ownu_inv
  obtain ⟨rw', acs, g1, g2⟩ := I.contV h1 hb
  have hl := g2.length
  exact ⟨n, _, h3, rfl, by simp; omega, _, by simp only [cellsE, g1]; rw [if_pos (by omega)], (g2.drop 0).take _⟩
 ·exact h.elim
theorem src_ok (I : Sto H0 W0 c σ k W β H) {ei : TI} {x : PV} {a : AV} {K : Nat -> List PV -> Prop} (h : psrcK σ ei x K) (hr : RelV H W β x a) :
  ∃ m new, K m new /\ lenE a = some m /\ new.length = m * ei.size /\ ∀ n, n <= m -> ∃ l, cellsE H ei.size n a = some l /\ All2 (RelC H W) (new.take (n * ei.size)) l := by
 unfold psrcK at h
 split at h
 ·have := hr.nils_inv
  subst this
  refine ⟨0, [], h, rfl, by simp, fun n hn => ⟨[], ?_, by simp; exact .nil⟩⟩
  have : n = 0 := by omega
  simp [cellsE, this]
 ·rename_i n cs
  obtain ⟨h1, h2⟩ := h
  have hl := hr.lst_inv
  refine ⟨n, cs, h2, ?_, h1, ?_⟩
  ·cases hl <;> rfl
  ·intro m hm
   have hms : m * ei.size <= n * ei.size := Nat.mul_le_mul_right _ hm
   cases hl with
   | lnil =>
    have : m = 0 := by omega
    exact ⟨[], by simp [cellsE, this], by simp; exact .nil⟩
   | lsle =>
    have : m = 0 := by omega
    exact ⟨[], by simp [cellsE, this], by simp; exact .nil⟩
   | @sl _ _ b o cp rw' ty bcs q1 q2 q3 q4 q5 =>
    refine ⟨_, by simp only [cellsE, q2]; rw [if_pos (by omega)], ?_⟩
    have := take_rel (k := m * ei.size) q5
    rwa [List.length_take, Nat.min_eq_left (by omega)] at this
   | @slu _ _ b o ez rw' ty bcs q1 q2 q3 q4 q5 =>
    refine ⟨_, by simp only [cellsE, q2]; rw [if_pos (by omega)], ?_⟩
    have := take_rel (k := m * ei.size) q5
    rwa [List.length_take, Nat.min_eq_left (by omega)] at this
 ·rename_i j o n cp e
  obtain ⟨ty, cs, new, h1, h2, rfl, h3⟩ := h
  obtain ⟨b, hb, rfl⟩ := hr.own_inv
  obtain ⟨rw', acs, g1, g2⟩ := I.cont h1 hb
  have hl := g2.length
  refine ⟨n, _, h3, rfl, by simp; omega, fun m hm => ?_⟩
  have hms : m * ei.size <= n * ei.size := Nat.mul_le_mul_right _ hm
  refine ⟨_, by simp only [cellsE, g1]; rw [if_pos (by omega)], ?_⟩
  rw [List.take_take, Nat.min_eq_left hms]
  exact (g2.drop o).take _
 ·rename_i j n e
  obtain ⟨ty, cs, new, h1, h2, rfl, h3⟩ := h
  obtain ⟨b, hb, rfl⟩ := hr.ownu_inv
  obtain ⟨rw', acs, g1, g2⟩ := I.cont h1 hb
  have hl := g2.length
  refine ⟨n, _, h3, rfl, by simp; omega, fun m hm => ?_⟩
  have hms : m * ei.size <= n * ei.size := Nat.mul_le_mul_right _ hm
  refine ⟨_, by simp only [cellsE, g1]; rw [if_pos (by omega)], ?_⟩
  rw [List.take_take, Nat.min_eq_left hms]
  exact (g2.drop 0).take _
 ·rename_i s
  obtain ⟨h1, h2⟩ := h
  have := hr.str_inv
  subst this
  refine ⟨_, _, h2, rfl, by rw [h1, Nat.mul_one, List.length_map, Array.length_toList]; rfl, fun m hm => ⟨_, by simp only [cellsE]; rw [if_pos ⟨h1, hm⟩], ?_⟩⟩
  rw [h1, Nat.mul_one, ← List.map_take]
  generalize List.take m s.data.toList = l
  induction l with
  | nil => exact .nil
  | cons x xs ih => exact .cons (.int _ _) ih
 ·exact h.elim
def Out (H0 : Heap) (W0 : Nat -> Prop) (c : Nat) (W : Nat -> Prop) (β : List Nat) (H : Heap) (K : PV -> List StB -> Nat -> Prop) (v : AV) (H' : Heap) : Prop :=
 ∃ r σ' k' W' β', Ext W β H W' β' H' /\ Sto H0 W0 c σ' k' W' β' H' /\ RelV H' W' β' r v /\ K r σ' k'
theorem undef_rel : RelV H W β undefP undefA := .clo (.tup .nil)
theorem app_ok (I : Sto H0 W0 c σ k W β H) {ts : List TypeId} {s x : PV} {a b : AV} {K : PV -> List StB -> Nat -> Prop} (h : pappK C c k σ ts s x K) (hs : RelV H W β s a) (hx : RelV H W β x b) :
  ∃ v H', appendE C ts a b H = some (v, H') /\ Out H0 W0 c W β H K v H' := by
 unfold pappK at h
 split at h
 ·rename_i t tx rest
  split at h
  ·rename_i e _ _ _ xi ht htx
   split at h
   ·rename_i ei he
    split at h
    ·rename_i hd
     obtain ⟨hd1, hd2⟩ := of_decide_eq_true hd
     obtain ⟨m, new, ⟨⟨h1, h2⟩, h3⟩, h4, hlen, h5⟩ := src_ok I h hx
     obtain ⟨l, h6, h7⟩ := h5 m (Nat.le_refl _)
     rw [List.take_of_length_le (by omega)] at h7
     have hl := h7.length
     have hnl := I.nlim
     have pre : ¬ (srcOk xi.desc = false ∨ ei.bytes > 2 ^ 10 ∨ lim <= H.n) := by
      intro hh
      rcases hh with hh | hh | hh
      ·rw [hd1] at hh; cases hh
      ·omega
      ·omega
     have hm1 : ¬ m > 2 ^ 30 := by omega
     have ho := ones_rel h7 h2
     split at h3
     ·have := hs.nils_inv
      subst this
      by_cases hm : m = 0
      ·refine ⟨.nils, H, ?_, _, _, _, W, β, Ext.refl _ _ _, I, .nils, h3.1 hm⟩
       simp only [appendE, ht, htx, he, if_neg pre, h4, if_neg hm1, h6, ho, if_pos hm]
       rfl
      ·obtain ⟨hk, hK⟩ := h3.2 hm
       obtain ⟨W', E, I', hb⟩ := I.push hk (ty := e) h7
       refine ⟨_, _, ?_, _, _, _, W', _, E, I', .ownu _ _ hb, hK⟩
       simp only [appendE, ht, htx, he, if_neg pre, h4, if_neg hm1, h6, ho, if_neg hm]
       simp
     ·rename_i j o n cap e'
      obtain ⟨hn, h8, h9⟩ := h3
      obtain ⟨b, hb, rfl⟩ := hs.own_inv
      have hn1 : ¬ n > 2 ^ 30 := by omega
      by_cases hc : n + m <= cap
      ·obtain ⟨ty, cs, cs', q1, q2, rfl, q3⟩ := h8 hc
       obtain ⟨hW, acs, g1, g2⟩ := I.live j ty cs b q1 hb
       have hl2 := g2.length
       obtain ⟨E, I'⟩ := I.write (ty' := ty) q1 hb (spl_rel g2 h7 (o + n * ei.size))
       refine ⟨.sl b o (n + m) cap, _, ?_, _, _, _, W, β, E, I', .own _ _ _ _ hb, q3⟩
       simp only [appendE, ht, htx, he, if_neg pre, h4, if_neg hm1, h6, ho, Bool.true_eq_false, if_false, if_neg hn1, g1, if_pos hc, if_true]
       rw [if_pos (by omega)]
      ·obtain ⟨hk, ty, cs, cs', q1, q2, rfl, q3⟩ := h9 (by omega)
       obtain ⟨rw', acs, g1, g2⟩ := I.cont q1 hb
       have hl2 := g2.length
       obtain ⟨W', E, I', hb'⟩ := I.push hk (ty := e) (All2.append ((g2.drop o).take (n * ei.size)) h7)
       refine ⟨_, _, ?_, _, _, _, W', _, E, I', .ownu _ _ hb', q3⟩
       simp only [appendE, ht, htx, he, if_neg pre, h4, if_neg hm1, h6, ho, Bool.true_eq_false, if_false, if_neg hn1, g1, if_neg hc]
       rw [if_pos (by omega)]
     ·rename_i j n e'
      obtain ⟨⟨hn, rfl, hk⟩, cs, cs', q1, q2, rfl, q3⟩ := h3
      obtain ⟨b, hb, rfl⟩ := hs.ownu_inv
      have hn1 : ¬ n > 2 ^ 30 := by omega
      obtain ⟨hW, acs, g1, g2⟩ := I.live j e cs b q1 hb
      have hl2 := g2.length
      obtain ⟨E1, I1⟩ := I.kill q1 hb
      obtain ⟨W', E, I', hb'⟩ := I1.push hk (ty := e) (RelCs.ext E1 (All2.append (g2.take (n * ei.size)) h7))
      rw [List.length_set] at hb'
      refine ⟨_, _, ?_, _, _, _, W', _, E1.trans E, I', .ownu _ _ hb', q3⟩
      simp only [appendE, ht, htx, he, if_neg pre, h4, if_neg hm1, h6, ho, Bool.true_eq_false, if_false, if_neg hn1, g1]
      rw [if_pos ⟨trivial, trivial, by omega⟩]
      rfl
     ·exact h3.elim
    ·exact h.elim
   ·exact h.elim
  ·exact h.elim
 ·exact h.elim
theorem appL_ok (I : Sto H0 W0 c σ k W β H) {ts : List TypeId} {s x : PV} {a b : AV} {K : PV -> List StB -> Nat -> Prop} (h : pappL C c k σ ts s x K) (hs : RelV H W β s a) (hx : RelV H W β x b) :
  ∃ v H', appendE C ts a b H = some (v, H') /\ Out H0 W0 c W β H K v H' := by
 unfold pappL at h
 split at h
 ·rename_i t tx rest
  split at h
  ·rename_i e _ _ _ xi ht htx
   split at h
   ·rename_i ei he
    split at h
    ·rename_i hd
     obtain ⟨hd1, hd2⟩ := of_decide_eq_true hd
     obtain ⟨m, new, ⟨⟨h1, h2⟩, h3⟩, h4, hlen, l, h6, h7⟩ := srcL_ok I h hx
     have hl := h7.length
     have hnl := I.nlim
     have pre : ¬ (srcOk xi.desc = false ∨ ei.bytes > 2 ^ 10 ∨ lim <= H.n) := by
      intro hh
      rcases hh with hh | hh | hh
      ·rw [hd1] at hh; cases hh
      ·omega
      ·omega
     have hm1 : ¬ m > 2 ^ 30 := by omega
     have ho := onesV_rel h7 h2
     split at h3
     ·have := hs.nils_inv
      subst this
      by_cases hm : m = 0
      ·refine ⟨.nils, H, ?_, _, _, _, W, β, Ext.refl _ _ _, I, .nils, h3.1 hm⟩
       simp only [appendE, ht, htx, he, if_neg pre, h4, if_neg hm1, h6, ho, if_pos hm]
       rfl
      ·obtain ⟨hk, hK⟩ := h3.2 hm
       obtain ⟨W', E, I', hb⟩ := I.pushG hk (ty := e) (x := .liv e _) ⟨rfl, h7⟩
       refine ⟨_, _, ?_, _, _, _, W', _, E, I', .ownu _ _ hb, hK⟩
       simp only [appendE, ht, htx, he, if_neg pre, h4, if_neg hm1, h6, ho, if_neg hm]
       simp
     ·rename_i j o n cap e'
      obtain ⟨hn, h8, h9⟩ := h3
      obtain ⟨b, hb, rfl⟩ := hs.own_inv
      have hn1 : ¬ n > 2 ^ 30 := by omega
      by_cases hc : n + m <= cap
      ·obtain ⟨ty, cs, cs', q1, q2, rfl, q3⟩ := h8 hc
       obtain ⟨hW, acs, g1, g2⟩ := I.liv j ty cs b q1 hb
       have hl2 := g2.length
       obtain ⟨E, I'⟩ := I.writeG (ty' := ty) q1 (.inr ⟨_, _, rfl⟩) hb (y := .liv ty _) ⟨rfl, spl_rel g2 h7 (o + n * ei.size)⟩
       refine ⟨.sl b o (n + m) cap, _, ?_, _, _, _, W, β, E, I', .own _ _ _ _ hb, q3⟩
       simp only [appendE, ht, htx, he, if_neg pre, h4, if_neg hm1, h6, ho, Bool.true_eq_false, if_false, if_neg hn1, g1, if_pos hc, if_true]
       rw [if_pos (by omega)]
      ·obtain ⟨hk, ty, cs, cs', q1, q2, rfl, q3⟩ := h9 (by omega)
       obtain ⟨rw', acs, g1, g2⟩ := I.contV q1 hb
       have hl2 := g2.length
       obtain ⟨W', E, I', hb'⟩ := I.pushG hk (ty := e) (x := .liv e _) ⟨rfl, All2.append ((g2.drop o).take (n * ei.size)) h7⟩
       refine ⟨_, _, ?_, _, _, _, W', _, E, I', .ownu _ _ hb', q3⟩
       simp only [appendE, ht, htx, he, if_neg pre, h4, if_neg hm1, h6, ho, Bool.true_eq_false, if_false, if_neg hn1, g1, if_neg hc]
       rw [if_pos (by omega)]
     ·rename_i j n e'
      obtain ⟨⟨hn, rfl, hk⟩, cs, cs', q1, q2, rfl, q3⟩ := h3
      obtain ⟨b, hb, rfl⟩ := hs.ownu_inv
      have hn1 : ¬ n > 2 ^ 30 := by omega
      obtain ⟨hW, acs, g1, g2⟩ := I.liv j e cs b q1 hb
      have hl2 := g2.length
      obtain ⟨E1, I1⟩ := I.killG q1 (.inr ⟨_, _, rfl⟩) hb
      obtain ⟨W', E, I', hb'⟩ := I1.pushG hk (ty := e) (x := .liv e _) ⟨rfl, RelVs.ext E1 (All2.append (g2.take (n * ei.size)) h7)⟩
      rw [List.length_set] at hb'
      refine ⟨_, _, ?_, _, _, _, W', _, E1.trans E, I', .ownu _ _ hb', q3⟩
      simp only [appendE, ht, htx, he, if_neg pre, h4, if_neg hm1, h6, ho, Bool.true_eq_false, if_false, if_neg hn1, g1]
      rw [if_pos ⟨trivial, trivial, by omega⟩]
      rfl
     ·exact h3.elim
    ·exact h.elim
   ·exact h.elim
  ·exact h.elim
 ·exact h.elim
theorem copy_ok (I : Sto H0 W0 c σ k W β H) {ts : List TypeId} {d x : PV} {a b : AV} {K : PV -> List StB -> Prop} (h : pcopyK C σ ts d x K) (hs : RelV H W β d a) (hx : RelV H W β x b) :
  ∃ v H' r σ', copyE C ts a b H = some (v, H') /\ Ext W β H W β H' /\ Sto H0 W0 c σ' k W β H' /\ RelV H' W β r v /\ K r σ' := by
 unfold pcopyK at h
 split at h
 ·rename_i t rest
  split at h
  ·rename_i e _ _ _ ht
   split at h
   ·rename_i ei he
    obtain ⟨m, new, h3, h4, hlen, h5⟩ := src_ok I h hx
    split at h3
    ·rename_i j o n cp e'
     obtain ⟨ty, cs, cs', q1, ⟨q2, q3, q4⟩, rfl, q5⟩ := h3
     obtain ⟨l, h6, h7⟩ := h5 (min m n) (by omega)
     obtain ⟨p, hb, rfl⟩ := hs.own_inv
     obtain ⟨hW, acs, g1, g2⟩ := I.live j ty cs p q1 hb
     have hl2 := g2.length
     have hl := h7.length
     rw [List.length_take, Nat.min_eq_left q3] at hl
     obtain ⟨E, I'⟩ := I.write (ty' := ty) q1 hb (spl_rel g2 h7 o)
     refine ⟨_, _, _, _, ?_, E, I', .clo (.int _ _), q5⟩
     have hm : Nat.min m n = min m n := rfl
     have hd : lenE (AV.sl p o n cp) = some n := rfl
     simp only [copyE, ht, he, hd, h4, hm, h6, g1]
     rw [if_pos ⟨by omega, ones_rel h7 q4⟩]
    ·exact h3.elim
   ·exact h.elim
  ·exact h.elim
 ·exact h.elim
theorem parts_ok {T : List PV} {T' : List AV} : ∀ {ps : List (Nat × Operand)} {K : List (Nat × PV) -> Prop}, ppartsK T ps K -> (∀ p ∈ ps, TR H W β T T' p.2) →
  ∃ l as, K l /\ partsE (opd T') ps = some as /\ All2 (fun (x : Nat × PV) (y : Nat × AV) => x.1 = y.1 /\ RelV H W β x.2 y.2) l as
 | [], K, h, _ => ⟨[], [], h, rfl, .nil⟩
 | (i, x) :: xs, K, h, hr => by
  obtain ⟨p, h1, h2⟩ := popdK_ok (show popdK T x _ from h)
  obtain ⟨a, h3, h4⟩ := pOp_rel h1 (hr (i, x) (by simp))
  obtain ⟨l, as, h5, h6, h7⟩ := parts_ok h2 fun q hq => hr q (by simp [hq])
  exact ⟨(i, p) :: l, (i, a) :: as, h5, by simp only [partsE, h3, h6], .cons ⟨rfl, h4⟩ h7⟩
theorem frzPK_ok : ∀ {ps : List (Nat × PV)} {σ : List StB} {W : Nat -> Prop} {as : List (Nat × AV)} {K : List (Nat × PV) -> List StB -> Prop}, frzPK σ ps K -> Sto H0 W0 c σ k W β H -> All2 (fun (x : Nat × PV) (y : Nat × AV) => x.1 = y.1 /\ RelV H W β x.2 y.2) ps as →
  ∃ ps' σ' W', FrzO H0 W0 c k σ W β H σ' W' /\ All2 (fun (x : Nat × PV) (y : Nat × AV) => x.1 = y.1 /\ RelC H W' x.2 y.2) ps' as /\ K ps' σ'
 | [], σ, W, as, K, h, I, hr => by
  cases hr
  exact ⟨[], σ, W, ⟨Ext.refl _ _ _, I, rfl, fun _ => rfl, fun _ => rfl⟩, .nil, h⟩
 | (i, p) :: ps, σ, W, as, K, h, I, hr => by
  cases hr with
  | cons h1 h2 =>
   obtain ⟨p', σ1, W1, f1, r1, h3⟩ := frzAK_ok (show frzAK σ p _ from h) I h1.2
   obtain ⟨ps', σ2, W2, f2, r2, h4⟩ := frzPK_ok h3 f1.2.1 (All2.mono' (fun _ _ h => ⟨h.1, h.2.ext f1.1⟩) h2)
   exact ⟨(i, p') :: ps', σ2, W2, f1.trans f2, .cons ⟨h1.1, r1.ext f2.1⟩ r2, h4⟩
theorem fillG_ok {R : PV -> AV -> Prop} (hR : ∀ p a, R p a -> All2 R p.pcells a.cells) {place : Nat -> Option (Nat × Nat)} : ∀ {ps : List (Nat × PV)} {as : List (Nat × AV)} {cs r : List PV} {acs : List AV}, fillP place cs ps = some r -> All2 (R) cs acs -> All2 (fun (x : Nat × PV) (y : Nat × AV) => x.1 = y.1 /\ R x.2 y.2) ps as →
  ∃ racs, fillE place acs as = some racs /\ All2 (R) r racs
 | [], _, cs, r, acs, h, hc, ha => by
  cases ha
  cases h
  exact ⟨acs, rfl, hc⟩
 | (i, p) :: ps, _, cs, r, acs, h, hc, ha => by
  cases ha with
  | @cons _ y _ ys h1 h2 =>
   obtain ⟨i', a⟩ := y
   obtain ⟨e, hr⟩ := h1
   simp only at e hr
   subst e
   unfold fillP at h
   split at h
   ·cases h
   ·rename_i off size hp
    split at h
    ·cases h
    ·rename_i hn
     have hl := (hR _ _ hr).length
     have hl2 := hc.length
     obtain ⟨racs, h3, h4⟩ := fillG_ok hR h (spl_rel hc (hR _ _ hr) off) h2
     refine ⟨racs, ?_, h4⟩
     unfold fillE
     rw [hp]
     simp only
     rw [if_neg (by omega)]
     exact h3
theorem fill_ok {place : Nat -> Option (Nat × Nat)} {ps : List (Nat × PV)} {as : List (Nat × AV)} {cs r : List PV} {acs : List AV} (h : fillP place cs ps = some r) (hc : All2 (RelC H W) cs acs) (ha : All2 (fun (x : Nat × PV) (y : Nat × AV) => x.1 = y.1 /\ RelC H W x.2 y.2) ps as) :
  ∃ racs, fillE place acs as = some racs /\ All2 (RelC H W) r racs := fillG_ok (fun _ _ h => RelC.cells h) h hc ha
theorem fillV_ok {place : Nat -> Option (Nat × Nat)} {ps : List (Nat × PV)} {as : List (Nat × AV)} {cs r : List PV} {acs : List AV} (h : fillP place cs ps = some r) (hc : All2 (RelV H W β) cs acs) (ha : All2 (fun (x : Nat × PV) (y : Nat × AV) => x.1 = y.1 /\ RelV H W β x.2 y.2) ps as) :
  ∃ racs, fillE place acs as = some racs /\ All2 (RelV H W β) r racs := fillG_ok (fun _ _ h => RelV.cells h) h hc ha
end
end Go.PI
