/- Own work of the verifier: PvMem. -/
import Derived.Test.YtefajaiioljjoaaOwAM
set_option linter.all false
set_option exponentiation.threshold 3000
set_option linter.deprecated false
/- PLAIN VALUES: blocks that are made, written, left behind. -/
namespace Go.PI
variable {C : Ctx} {H0 H : Heap} {W0 W : Nat → Prop} {c k : Nat} {σ : List StB} {β : List Nat}
theorem Sto.nlim (I : Sto H0 W0 c σ k W β H) : H.n < lim := by
  have h1 := I.hi
  have h2 := I.kc
  have h3 := I.room
  omega
def StB.Is (H : Heap) (W : Nat → Prop) (β : List Nat) (x : StB) (ty : TypeId) (acs : List AV) : Prop :=
  match x with
  | .live t cs => t = ty ∧ All2 (RelC H W) cs acs
  | .liv t cs => t = ty ∧ All2 (RelV H W β) cs acs
  | _ => False
def StB.IsB (H : Heap) (W : Nat → Prop) (β : List Nat) (x : StB) (bk : Blk) : Prop :=
  match x with
  | .live t cs => ∃ acs, bk = .cells true t acs ∧ All2 (RelC H W) cs acs
  | .liv t cs => ∃ acs, bk = .cells true t acs ∧ All2 (RelV H W β) cs acs
  | .mp k es => ∃ aes, bk = .map k aes ∧ All2 (EntP H W) es aes
  | .lp l => ∃ L, bk = .loop L ∧ l.Is H W β L
  | .dead => True
  | .frz _ _ => False
theorem StB.Is.isB {H : Heap} {W : Nat → Prop} {β : List Nat} {x : StB} {ty : TypeId} {acs : List AV} (h : x.Is H W β ty acs) : x.IsB H W β (.cells true ty acs) := by
  cases x with
  | live t cs => obtain ⟨rfl, h⟩ := h; exact ⟨acs, rfl, h⟩
  | liv t cs => obtain ⟨rfl, h⟩ := h; exact ⟨acs, rfl, h⟩
  | dead => exact h.elim
  | frz t cs => exact h.elim
  | mp k es => exact h.elim
  | lp l => exact h.elim
def StB.opn : StB → Bool
  | .live _ _ | .liv _ _ | .mp _ _ | .lp _ => true
  | _ => false
theorem StB.Is.ext {H H' : Heap} {W W' : Nat → Prop} {β β' : List Nat} (e : Ext W β H W' β' H') {x : StB} {ty : TypeId} {acs : List AV} (h : x.Is H W β ty acs) : x.Is H' W' β' ty acs := by
  cases x with
  | live t cs => exact ⟨h.1, RelCs.ext e h.2⟩
  | liv t cs => exact ⟨h.1, RelVs.ext e h.2⟩
  | dead => exact h.elim
  | frz t cs => exact h.elim
  | mp k es => exact h.elim
  | lp l => exact h.elim
theorem Sto.isB (I : Sto H0 W0 c σ k W β H) {j b : Nat} {x : StB} (hj : σ[j]? = some x) (hb : β[j]? = some b) (hx : x.opn = true) : W b ∧ x.IsB H W β (H.get b) := by
  cases x with
  | live t cs => obtain ⟨h1, acs, h2, h3⟩ := I.live j t cs b hj hb; exact ⟨h1, acs, h2, h3⟩
  | liv t cs => obtain ⟨h1, acs, h2, h3⟩ := I.liv j t cs b hj hb; exact ⟨h1, acs, h2, h3⟩
  | mp kd es => obtain ⟨h1, acs, h2, h3⟩ := I.map j kd es b hj hb; exact ⟨h1, acs, h2, h3⟩
  | lp l => obtain ⟨h1, acs, h2, h3⟩ := I.lop j l b hj hb; exact ⟨h1, acs, h2, h3⟩
  | dead => cases hx
  | frz => cases hx
theorem Sto.is (I : Sto H0 W0 c σ k W β H) {j b : Nat} {x : StB} (hj : σ[j]? = some x) (hb : β[j]? = some b) (hx : (∃ t cs, x = .live t cs) ∨ ∃ t cs, x = .liv t cs) : W b ∧ ∃ ty acs, H.get b = .cells true ty acs ∧ x.Is H W β ty acs := by
  rcases hx with ⟨t, cs, rfl⟩ | ⟨t, cs, rfl⟩
  · obtain ⟨h1, acs, h2, h3⟩ := I.live j t cs b hj hb
    exact ⟨h1, t, acs, h2, rfl, h3⟩
  · obtain ⟨h1, acs, h2, h3⟩ := I.liv j t cs b hj hb
    exact ⟨h1, t, acs, h2, rfl, h3⟩
theorem Sto.pushB (I : Sto H0 W0 c σ k W β H) (hk : k < c) {x : StB} {bk : Blk} (hc : x.IsB H W β bk) :
    ∃ W', Ext W β H W' (β ++ [H.n]) (H.push bk) ∧ Sto H0 W0 c (σ ++ [x]) (k + 1) W' (β ++ [H.n]) (H.push bk) ∧ (β ++ [H.n])[σ.length]? = some H.n := by
  have hn := I.nlim
  have hp := Heap.get_push (H := H) (b := bk) hn
  have hpn : (H.push bk).n = H.n + 1 := rfl
  generalize H.push bk = H' at hp hpn ⊢
  have hbl : (β ++ [H.n])[σ.length]? = some H.n := by rw [← I.len]; simp
  have hold : ∀ i b, β[i]? = some b → (β ++ [H.n])[i]? = some b := fun i b h => by
    rw [List.getElem?_append_left (List.getElem?_eq_some_iff.1 h).1]; exact h
  have hinv : ∀ i b, (β ++ [H.n])[i]? = some b → (β[i]? = some b ∧ b < H.n) ∨ (i = σ.length ∧ b = H.n) := fun i b h => by
    rcases Nat.lt_trichotomy i β.length with h1 | h1 | h1
    · rw [List.getElem?_append_left h1] at h
      exact .inl ⟨h, (I.bl i b h).2⟩
    · subst h1
      rw [I.len, hbl] at h
      cases h
      exact .inr ⟨I.len, rfl⟩
    · rw [List.getElem?_eq_none (by simp; omega)] at h
      cases h
  have E : Ext W β H (fun A => W A ∨ A = H.n) (β ++ [H.n]) H' := ⟨by omega, fun A hA _ => by rw [hp, if_neg (by omega)], fun A hA h => by rcases h with h | h; exact h; omega, hold, fun A hA _ => by rw [hp, if_neg (by omega)], fun i x hx hl => by
    rcases hinv i x hx with h | h
    · exact ⟨i, h.1⟩
    · omega⟩
  have hsig : ∀ i b, (σ ++ [x])[i]? = some b → (σ[i]? = some b ∧ i < σ.length) ∨ (i = σ.length ∧ b = x) := fun i b h => by
    rcases Nat.lt_trichotomy i σ.length with h1 | h1 | h1
    · rw [List.getElem?_append_left h1] at h
      exact .inl ⟨h, h1⟩
    · subst h1
      simp at h
      exact .inr ⟨rfl, h.symm⟩
    · rw [List.getElem?_eq_none (by simp; omega)] at h
      cases h
  have hlb : ∀ i, i < σ.length → ∀ b, (β ++ [H.n])[i]? = some b → β[i]? = some b ∧ b < H.n := fun i hi b h => by
    rcases hinv i b h with h | h
    · exact h
    · omega
  refine ⟨fun A => W A ∨ A = H.n, E, ⟨I.room, by omega, by have := I.lo; omega, by have := I.hi; omega, fun A hA => ?_, I.w0n, fun b h => .inl (I.w0 b h), fun b h => ?_, by simp [I.len], fun i b h => ?_, fun i t l b h1 h2 => ?_, fun i t l b h1 h2 => ?_, fun i j b h1 h2 => ?_, fun i t l b h1 h2 => ?_, fun i t l b h1 h2 => ?_, fun i l b h1 h2 => ?_⟩, hbl⟩
  · have := I.lo
    rw [hp, if_neg (by omega)]
    exact I.keep A hA
  · rcases h with h | rfl
    · rcases I.wn b h with h | h
      · exact .inl h
      · exact .inr (by omega)
    · exact .inr ⟨I.lo, by omega⟩
  · rcases hinv i b h with ⟨h1, h2⟩ | ⟨-, rfl⟩
    · have := (I.bl i b h1).1
      omega
    · exact ⟨I.lo, by omega⟩
  · rcases hsig i _ h1 with ⟨h3, h4⟩ | ⟨rfl, h4⟩
    · obtain ⟨g1, g2⟩ := hlb i h4 b h2
      obtain ⟨q1, acs', q2, q3⟩ := I.live i t l b h3 g1
      exact ⟨.inl q1, acs', by rw [hp, if_neg (by omega)]; exact q2, RelCs.ext E q3⟩
    · subst h4
      rw [hbl] at h2
      cases h2
      obtain ⟨acs, rfl, hc⟩ := hc
      exact ⟨.inr rfl, acs, by rw [hp, if_pos rfl], RelCs.ext E hc⟩
  · rcases hsig i _ h1 with ⟨h3, h4⟩ | ⟨rfl, h4⟩
    · obtain ⟨g1, g2⟩ := hlb i h4 b h2
      obtain ⟨q1, rw', acs', q2, q3⟩ := I.frz i t l b h3 g1
      refine ⟨fun h => ?_, rw', acs', by rw [hp, if_neg (by omega)]; exact q2, RelCs.ext E q3⟩
      rcases h with h | h
      · exact q1 h
      · omega
    · subst h4
      exact hc.elim
  · rcases hinv i b h1 with ⟨a1, a2⟩ | ⟨a1, a2⟩ <;> rcases hinv j b h2 with ⟨b1, b2⟩ | ⟨b1, b2⟩
    · exact I.inj i j b a1 b1
    · omega
    · omega
    · omega
  · rcases hsig i _ h1 with ⟨h3, h4⟩ | ⟨rfl, h4⟩
    · obtain ⟨g1, g2⟩ := hlb i h4 b h2
      obtain ⟨q1, acs', q2, q3⟩ := I.liv i t l b h3 g1
      exact ⟨.inl q1, acs', by rw [hp, if_neg (by omega)]; exact q2, RelVs.ext E q3⟩
    · subst h4
      rw [hbl] at h2
      cases h2
      obtain ⟨acs, rfl, hc⟩ := hc
      exact ⟨.inr rfl, acs, by rw [hp, if_pos rfl], RelVs.ext E hc⟩
  · rcases hsig i _ h1 with ⟨h3, h4⟩ | ⟨rfl, h4⟩
    · obtain ⟨g1, g2⟩ := hlb i h4 b h2
      obtain ⟨q1, acs', q2, q3⟩ := I.map i t l b h3 g1
      exact ⟨.inl q1, acs', by rw [hp, if_neg (by omega)]; exact q2, EntPs.ext E q3⟩
    · subst h4
      rw [hbl] at h2
      cases h2
      obtain ⟨acs, rfl, hc⟩ := hc
      exact ⟨.inr rfl, acs, by rw [hp, if_pos rfl], EntPs.ext E hc⟩
  · rcases hsig i _ h1 with ⟨h3, h4⟩ | ⟨rfl, h4⟩
    · obtain ⟨g1, g2⟩ := hlb i h4 b h2
      obtain ⟨q1, acs', q2, q3⟩ := I.lop i l b h3 g1
      exact ⟨.inl q1, acs', by rw [hp, if_neg (by omega)]; exact q2, q3.ext E⟩
    · subst h4
      rw [hbl] at h2
      cases h2
      obtain ⟨acs, rfl, hc⟩ := hc
      exact ⟨.inr rfl, acs, by rw [hp, if_pos rfl], hc.ext E⟩
theorem Sto.pushG (I : Sto H0 W0 c σ k W β H) (hk : k < c) {ty : TypeId} {x : StB} {acs : List AV} (hc : x.Is H W β ty acs) :
    ∃ W', Ext W β H W' (β ++ [H.n]) (H.push (.cells true ty acs)) ∧ Sto H0 W0 c (σ ++ [x]) (k + 1) W' (β ++ [H.n]) (H.push (.cells true ty acs)) ∧ (β ++ [H.n])[σ.length]? = some H.n := I.pushB hk hc.isB
theorem Sto.push (I : Sto H0 W0 c σ k W β H) (hk : k < c) {ty : TypeId} {cs : List PV} {acs : List AV} (hc : All2 (RelC H W) cs acs) :
    ∃ W', Ext W β H W' (β ++ [H.n]) (H.push (.cells true ty acs)) ∧ Sto H0 W0 c (σ ++ [.live ty cs]) (k + 1) W' (β ++ [H.n]) (H.push (.cells true ty acs)) ∧ (β ++ [H.n])[σ.length]? = some H.n := I.pushG hk (x := .live ty cs) ⟨rfl, hc⟩
theorem contOf_push {ty : TypeId} {cs : List PV} {j : Nat} (hj : j < σ.length) : contOf (σ ++ [.live ty cs]) j = contOf σ j := by
  unfold contOf
  rw [List.getElem?_append_left hj]
theorem Sto.writeB (I : Sto H0 W0 c σ k W β H) {j : Nat} {x y : StB} {b : Nat} {bk : Blk} (hj : σ[j]? = some x) (hx : x.opn = true) (hb : β[j]? = some b) (hc : y.IsB H W β bk) :
    Ext W β H W β (H.set b bk) ∧ Sto H0 W0 c (σ.set j y) k W β (H.set b bk) := by
  have hn := I.nlim
  obtain ⟨hbl, hbh⟩ := I.bl j b hb
  obtain ⟨hW, -⟩ := I.isB hj hb hx
  have hp := Heap.get_set (H := H) (A := b) (b := bk) hbh hn
  have hpn : (H.set b bk).n = H.n := rfl
  generalize H.set b bk = H' at hp hpn ⊢
  have E : Ext W β H W β H' := ⟨by omega, fun A hA hw => by rw [hp, if_neg (fun e => hw (by rw [e]; exact hW))], fun A _ h => h, fun _ _ h => h, fun A hA hn => by rw [hp, if_neg (fun e => hn j (by rw [e]; exact hb))], fun i _ h _ => ⟨i, h⟩⟩
  have hjl := (List.getElem?_eq_some_iff.1 hj).1
  refine ⟨E, I.room, I.kc, by have := I.lo; omega, by have := I.hi; omega, fun A hA => ?_, I.w0n, I.w0, fun x h => ?_, by simp [I.len], fun i x h => ?_, fun i t l x h1 h2 => ?_, fun i t l x h1 h2 => ?_, I.inj, fun i t l x h1 h2 => ?_, fun i t l x h1 h2 => ?_, fun i l x h1 h2 => ?_⟩
  · rw [hp, if_neg (by omega)]; exact I.keep A hA
  · rcases I.wn x h with h | h
    · exact .inl h
    · exact .inr (by omega)
  · have := I.bl i x h; omega
  · by_cases e : i = j
    · subst e
      rw [List.getElem?_set_self hjl] at h1
      cases h1
      rw [hb] at h2
      cases h2
      obtain ⟨acs', rfl, hc⟩ := hc
      exact ⟨hW, acs', by rw [hp, if_pos rfl], RelCs.ext E hc⟩
    · rw [List.getElem?_set_ne (Ne.symm e)] at h1
      obtain ⟨q1, a, q2, q3⟩ := I.live i t l x h1 h2
      exact ⟨q1, a, by rw [hp, if_neg (fun e' => e (I.inj i j b (by rw [← e']; exact h2) hb))]; exact q2, RelCs.ext E q3⟩
  · by_cases e : i = j
    · subst e
      rw [List.getElem?_set_self hjl] at h1
      cases h1
      exact hc.elim
    · rw [List.getElem?_set_ne (Ne.symm e)] at h1
      obtain ⟨q1, r, a, q2, q3⟩ := I.frz i t l x h1 h2
      exact ⟨q1, r, a, by rw [hp, if_neg (fun e' => q1 (by rw [e']; exact hW))]; exact q2, RelCs.ext E q3⟩
  · by_cases e : i = j
    · subst e
      rw [List.getElem?_set_self hjl] at h1
      cases h1
      rw [hb] at h2
      cases h2
      obtain ⟨acs', rfl, hc⟩ := hc
      exact ⟨hW, acs', by rw [hp, if_pos rfl], RelVs.ext E hc⟩
    · rw [List.getElem?_set_ne (Ne.symm e)] at h1
      obtain ⟨q1, a, q2, q3⟩ := I.liv i t l x h1 h2
      exact ⟨q1, a, by rw [hp, if_neg (fun e' => e (I.inj i j b (by rw [← e']; exact h2) hb))]; exact q2, RelVs.ext E q3⟩
  · by_cases e : i = j
    · subst e
      rw [List.getElem?_set_self hjl] at h1
      cases h1
      rw [hb] at h2
      cases h2
      obtain ⟨acs', rfl, hc⟩ := hc
      exact ⟨hW, acs', by rw [hp, if_pos rfl], EntPs.ext E hc⟩
    · rw [List.getElem?_set_ne (Ne.symm e)] at h1
      obtain ⟨q1, a, q2, q3⟩ := I.map i t l x h1 h2
      exact ⟨q1, a, by rw [hp, if_neg (fun e' => e (I.inj i j b (by rw [← e']; exact h2) hb))]; exact q2, EntPs.ext E q3⟩
  · by_cases e : i = j
    · subst e
      rw [List.getElem?_set_self hjl] at h1
      cases h1
      rw [hb] at h2
      cases h2
      obtain ⟨acs', rfl, hc⟩ := hc
      exact ⟨hW, acs', by rw [hp, if_pos rfl], hc.ext E⟩
    · rw [List.getElem?_set_ne (Ne.symm e)] at h1
      obtain ⟨q1, a, q2, q3⟩ := I.lop i l x h1 h2
      exact ⟨q1, a, by rw [hp, if_neg (fun e' => e (I.inj i j b (by rw [← e']; exact h2) hb))]; exact q2, q3.ext E⟩
theorem Sto.writeG (I : Sto H0 W0 c σ k W β H) {j : Nat} {ty' : TypeId} {x y : StB} {b : Nat} {acs' : List AV} (hj : σ[j]? = some x) (hx : (∃ t cs, x = .live t cs) ∨ ∃ t cs, x = .liv t cs) (hb : β[j]? = some b) (hc : y.Is H W β ty' acs') :
    Ext W β H W β (H.set b (.cells true ty' acs')) ∧ Sto H0 W0 c (σ.set j y) k W β (H.set b (.cells true ty' acs')) := I.writeB hj (by rcases hx with ⟨_, _, rfl⟩ | ⟨_, _, rfl⟩ <;> rfl) hb hc.isB
theorem Sto.write (I : Sto H0 W0 c σ k W β H) {j : Nat} {ty ty' : TypeId} {cs cs' : List PV} {b : Nat} {acs' : List AV} (hj : σ[j]? = some (.live ty cs)) (hb : β[j]? = some b) (hc : All2 (RelC H W) cs' acs') :
    Ext W β H W β (H.set b (.cells true ty' acs')) ∧ Sto H0 W0 c (σ.set j (.live ty' cs')) k W β (H.set b (.cells true ty' acs')) := I.writeG hj (.inl ⟨_, _, rfl⟩) hb (y := .live ty' cs') ⟨rfl, hc⟩
theorem Sto.killG (I : Sto H0 W0 c σ k W β H) {j : Nat} {x : StB} {b : Nat} (hj : σ[j]? = some x) (hx : (∃ t cs, x = .live t cs) ∨ ∃ t cs, x = .liv t cs) (hb : β[j]? = some b) :
    Ext W β H W β (H.set b .dead) ∧ Sto H0 W0 c (σ.set j .dead) k W β (H.set b .dead) := by
  have hn := I.nlim
  obtain ⟨hbl, hbh⟩ := I.bl j b hb
  obtain ⟨hW, tx, acs, hg, hcs⟩ := I.is hj hb hx
  have hp := Heap.get_set (H := H) (A := b) (b := .dead) hbh hn
  have hpn : (H.set b .dead).n = H.n := rfl
  generalize H.set b .dead = H' at hp hpn ⊢
  have E : Ext W β H W β H' := ⟨by omega, fun A hA hw => by rw [hp, if_neg (fun e => hw (by rw [e]; exact hW))], fun A _ h => h, fun _ _ h => h, fun A hA hn => by rw [hp, if_neg (fun e => hn j (by rw [e]; exact hb))], fun i _ h _ => ⟨i, h⟩⟩
  have hjl := (List.getElem?_eq_some_iff.1 hj).1
  refine ⟨E, I.room, I.kc, by have := I.lo; omega, by have := I.hi; omega, fun A hA => ?_, I.w0n, I.w0, fun x h => ?_, by simp [I.len], fun i x h => ?_, fun i t l x h1 h2 => ?_, fun i t l x h1 h2 => ?_, I.inj, fun i t l x h1 h2 => ?_, fun i t l x h1 h2 => ?_, fun i l x h1 h2 => ?_⟩
  · rw [hp, if_neg (by omega)]; exact I.keep A hA
  · rcases I.wn x h with h | h
    · exact .inl h
    · exact .inr (by omega)
  · have := I.bl i x h; omega
  · by_cases e : i = j
    · subst e
      rw [List.getElem?_set_self hjl] at h1
      cases h1
    · rw [List.getElem?_set_ne (Ne.symm e)] at h1
      obtain ⟨q1, a, q2, q3⟩ := I.live i t l x h1 h2
      exact ⟨q1, a, by rw [hp, if_neg (fun e' => e (I.inj i j b (by rw [← e']; exact h2) hb))]; exact q2, RelCs.ext E q3⟩
  · by_cases e : i = j
    · subst e
      rw [List.getElem?_set_self hjl] at h1
      cases h1
    · rw [List.getElem?_set_ne (Ne.symm e)] at h1
      obtain ⟨q1, r, a, q2, q3⟩ := I.frz i t l x h1 h2
      exact ⟨q1, r, a, by rw [hp, if_neg (fun e' => q1 (by rw [e']; exact hW))]; exact q2, RelCs.ext E q3⟩
  · by_cases e : i = j
    · subst e
      rw [List.getElem?_set_self hjl] at h1
      cases h1
    · rw [List.getElem?_set_ne (Ne.symm e)] at h1
      obtain ⟨q1, a, q2, q3⟩ := I.liv i t l x h1 h2
      exact ⟨q1, a, by rw [hp, if_neg (fun e' => e (I.inj i j b (by rw [← e']; exact h2) hb))]; exact q2, RelVs.ext E q3⟩
  · by_cases e : i = j
    · subst e
      rw [List.getElem?_set_self hjl] at h1
      cases h1
    · rw [List.getElem?_set_ne (Ne.symm e)] at h1
      obtain ⟨q1, a, q2, q3⟩ := I.map i t l x h1 h2
      exact ⟨q1, a, by rw [hp, if_neg (fun e' => e (I.inj i j b (by rw [← e']; exact h2) hb))]; exact q2, EntPs.ext E q3⟩
  · by_cases e : i = j
    · subst e
      rw [List.getElem?_set_self hjl] at h1
      cases h1
    · rw [List.getElem?_set_ne (Ne.symm e)] at h1
      obtain ⟨q1, a, q2, q3⟩ := I.lop i l x h1 h2
      exact ⟨q1, a, by rw [hp, if_neg (fun e' => e (I.inj i j b (by rw [← e']; exact h2) hb))]; exact q2, q3.ext E⟩
theorem Sto.kill (I : Sto H0 W0 c σ k W β H) {j : Nat} {ty : TypeId} {cs : List PV} {b : Nat} (hj : σ[j]? = some (.live ty cs)) (hb : β[j]? = some b) :
    Ext W β H W β (H.set b .dead) ∧ Sto H0 W0 c (σ.set j .dead) k W β (H.set b .dead) := I.killG hj (.inl ⟨_, _, rfl⟩) hb
def KpH (H H' : Heap) (c : Nat) : Prop := H.n ≤ H'.n ∧ H'.n ≤ H.n + c ∧ ∀ A, A < H.n → H'.get A = H.get A
def Ct (C : Ctx) (g : FuncId) (ps : List PV) (c : Nat) (Q : PV → Prop) : Prop :=
  ∀ (H : Heap) (W : Nat → Prop) (as : List AV), (∀ b, W b → b < H.n) → All2 (RelC H W) ps as → H.n + c < lim → Cl C g as H fun v H' => ∃ r, Q r ∧ RelC H' W r v ∧ KpH H H' c
def Cfr (C : Ctx) (g : FuncId) (ps : List PV) (c : Nat) (Q : TypeId → Nat → Nat → Nat → List PV → Prop) : Prop :=
  ∀ (H : Heap) (W : Nat → Prop) (as : List AV), (∀ b, W b → b < H.n) → All2 (RelC H W) ps as → H.n + c < lim → Cl C g as H fun v H' =>
    ∃ ty n cp e cs b acs, Q ty n cp e cs ∧ v = .sl b 0 n cp ∧ H.n ≤ b ∧ b < H'.n ∧ H'.get b = .cells true ty acs ∧ All2 (RelC H' fun A => W A ∨ A = b) cs acs ∧ KpH H H' c
def Cb (C : Ctx) (g : FuncId) (ps : List PV) (c : Nat) (Q : PV → Prop) : Prop :=
  ∀ (H : Heap) (W : Nat → Prop) (as : List AV), (∀ b, W b → b < H.n) → All2 (RelV H W []) ps as → H.n + c < lim → Cl C g as H fun v H' => ∃ r, Q r ∧ RelC H' W r v ∧ KpH H H' c
theorem Cb.ct {g : FuncId} {ps : List PV} {c : Nat} {Q : PV → Prop} (h : Cb C g ps c Q) : Ct C g ps c Q := fun H W as hw ha hn => h H W as hw (RelVs.clo ha) hn
theorem Ct.mono {g : FuncId} {ps : List PV} {c c' : Nat} {Q Q' : PV → Prop} (h : Ct C g ps c Q) (hc : c ≤ c') (hq : ∀ r, Q r → Q' r) : Ct C g ps c' Q' := fun H W as hw ha hn => (h H W as hw ha (by omega)).mono fun v H' ⟨r, h1, h2, h3, h4, h5⟩ => ⟨r, hq r h1, h2, h3, by omega, h5⟩
theorem Ct.post {g : FuncId} {ps : List PV} {c : Nat} {Q Q' : PV → Prop} (h : Ct C g ps c Q) (hq : ∀ r, Q r → Q' r) : Ct C g ps c Q' := h.mono (Nat.le_refl _) hq
theorem Sto.wlt (I : Sto H0 W0 c σ k W β H) : ∀ b, W b → b < H.n := fun b h => by
  rcases I.wn b h with h | h
  · have := I.w0n b h; have := I.lo; omega
  · exact h.2
theorem Sto.call (I : Sto H0 W0 c σ k W β H) {H' : Heap} {d : Nat} (h : KpH H H' d) (hd : k + d ≤ c) : Ext W β H W β H' ∧ Sto H0 W0 c σ (k + d) W β H' := by
  obtain ⟨h1, h2, h3⟩ := h
  have E : Ext W β H W β H' := ⟨h1, fun A hA _ => h3 A hA, fun _ _ h => h, fun _ _ h => h, fun A hA _ => h3 A hA, fun i _ h _ => ⟨i, h⟩⟩
  refine ⟨E, I.room, hd, by have := I.lo; omega, by have := I.hi; omega, fun A hA => ?_, I.w0n, I.w0, fun x h => ?_, I.len, fun i x h => ?_, fun i t l x a1 a2 => ?_, fun i t l x a1 a2 => ?_, I.inj, fun i t l x a1 a2 => ?_, fun i t l x a1 a2 => ?_, fun i l x a1 a2 => ?_⟩
  · have := I.lo
    rw [h3 A (by omega)]; exact I.keep A hA
  · rcases I.wn x h with h | h
    · exact .inl h
    · exact .inr (by omega)
  · have := I.bl i x h; omega
  · obtain ⟨q1, a, q2, q3⟩ := I.live i t l x a1 a2
    exact ⟨q1, a, by rw [h3 x (I.bl i x a2).2]; exact q2, RelCs.ext E q3⟩
  · obtain ⟨q1, r, a, q2, q3⟩ := I.frz i t l x a1 a2
    exact ⟨q1, r, a, by rw [h3 x (I.bl i x a2).2]; exact q2, RelCs.ext E q3⟩
  · obtain ⟨q1, a, q2, q3⟩ := I.liv i t l x a1 a2
    exact ⟨q1, a, by rw [h3 x (I.bl i x a2).2]; exact q2, RelVs.ext E q3⟩
  · obtain ⟨q1, a, q2, q3⟩ := I.map i t l x a1 a2
    exact ⟨q1, a, by rw [h3 x (I.bl i x a2).2]; exact q2, EntPs.ext E q3⟩
  · obtain ⟨q1, a, q2, q3⟩ := I.lop i l x a1 a2
    exact ⟨q1, a, by rw [h3 x (I.bl i x a2).2]; exact q2, q3.ext E⟩
theorem Sto.adopt (I : Sto H0 W0 c σ k W β H) {b : Nat} {ty : TypeId} {cs : List PV} {acs : List AV} (hb : H0.n ≤ b ∧ b < H.n) (hne : ∀ i : Nat, β[i]? ≠ some b) (hg : H.get b = .cells true ty acs) (hc : All2 (RelC H fun A => W A ∨ A = b) cs acs)
    (hfree : ∀ (i : Nat) (t : TypeId) (l : List PV) (x : Nat), σ[i]? = some (.live t l) ∨ σ[i]? = some (.frz t l) → β[i]? = some x → ∀ rw a, H.get x = .cells rw t a → All2 (RelC H W) l a → All2 (RelC H fun A => W A ∨ A = b) l a)
    (hfv : ∀ (i : Nat) (t : TypeId) (l : List PV) (x : Nat), σ[i]? = some (.liv t l) → β[i]? = some x → ∀ a, H.get x = .cells true t a → All2 (RelV H (fun A => W A ∨ A = b) (β ++ [b])) l a)
    (hfm : ∀ (i : Nat) (t : IntKind) (l : List (Int × PV)) (x : Nat), σ[i]? = some (.mp t l) → β[i]? = some x → ∀ a, H.get x = .map t a → All2 (EntP H (fun A => W A ∨ A = b)) l a)
    (hfl : ∀ (i : Nat) (l : LpD) (x : Nat), σ[i]? = some (.lp l) → β[i]? = some x → ∀ L, H.get x = .loop L → l.Is H W β L → l.Is H (fun A => W A ∨ A = b) (β ++ [b]) L) :
    Sto H0 W0 c (σ ++ [.live ty cs]) k (fun A => W A ∨ A = b) (β ++ [b]) H := by
  have hbl : (β ++ [b])[σ.length]? = some b := by rw [← I.len]; simp
  have hinv : ∀ i x, (β ++ [b])[i]? = some x → (β[i]? = some x) ∨ (i = σ.length ∧ x = b) := fun i x h => by
    rcases Nat.lt_trichotomy i β.length with h1 | h1 | h1
    · rw [List.getElem?_append_left h1] at h
      exact .inl h
    · subst h1
      rw [I.len, hbl] at h
      cases h
      exact .inr ⟨I.len, rfl⟩
    · rw [List.getElem?_eq_none (by simp; omega)] at h
      cases h
  have hsig : ∀ i y, (σ ++ [StB.live ty cs])[i]? = some y → (σ[i]? = some y ∧ i < σ.length) ∨ (i = σ.length ∧ y = .live ty cs) := fun i y h => by
    rcases Nat.lt_trichotomy i σ.length with h1 | h1 | h1
    · rw [List.getElem?_append_left h1] at h
      exact .inl ⟨h, h1⟩
    · subst h1
      simp at h
      exact .inr ⟨rfl, h.symm⟩
    · rw [List.getElem?_eq_none (by simp; omega)] at h
      cases h
  refine ⟨I.room, I.kc, I.lo, I.hi, I.keep, I.w0n, fun x h => .inl (I.w0 x h), fun x h => ?_, by simp [I.len], fun i x h => ?_, fun i t l x h1 h2 => ?_, fun i t l x h1 h2 => ?_, fun i j x h1 h2 => ?_, fun i t l x h1 h2 => ?_, fun i t l x h1 h2 => ?_, fun i l x h1 h2 => ?_⟩
  · rcases h with h | rfl
    · exact I.wn x h
    · exact .inr hb
  · rcases hinv i x h with h | ⟨-, rfl⟩
    · exact I.bl i x h
    · exact hb
  · rcases hsig i _ h1 with ⟨h3, h4⟩ | ⟨rfl, h4⟩
    · rcases hinv i x h2 with h2 | h2
      · obtain ⟨q1, a, q2, q3⟩ := I.live i t l x h3 h2
        exact ⟨.inl q1, a, q2, hfree i t l x (.inl h3) h2 _ a q2 q3⟩
      · omega
    · cases h4
      rw [hbl] at h2
      cases h2
      exact ⟨.inr rfl, acs, hg, hc⟩
  · rcases hsig i _ h1 with ⟨h3, h4⟩ | ⟨rfl, h4⟩
    · rcases hinv i x h2 with h5 | h5
      · obtain ⟨q1, r, a, q2, q3⟩ := I.frz i t l x h3 h5
        refine ⟨fun h => ?_, r, a, q2, hfree i t l x (.inr h3) h5 _ a q2 q3⟩
        rcases h with h | h
        · exact q1 h
        · exact hne i (h ▸ h5)
      · omega
    · cases h4
  · rcases hinv i x h1 with a | ⟨a, ea⟩ <;> rcases hinv j x h2 with b' | ⟨b', eb⟩
    · exact I.inj i j x a b'
    · subst eb; exact absurd a (hne i)
    · subst ea; exact absurd b' (hne j)
    · omega
  · rcases hsig i _ h1 with ⟨h3, h4⟩ | ⟨rfl, h4⟩
    · rcases hinv i x h2 with h2 | h2
      · obtain ⟨q1, a, q2, q3⟩ := I.liv i t l x h3 h2
        exact ⟨.inl q1, a, q2, hfv i t l x h3 h2 a q2⟩
      · omega
    · cases h4
  · rcases hsig i _ h1 with ⟨h3, h4⟩ | ⟨rfl, h4⟩
    · rcases hinv i x h2 with h2 | h2
      · obtain ⟨q1, a, q2, q3⟩ := I.map i t l x h3 h2
        exact ⟨.inl q1, a, q2, hfm i t l x h3 h2 a q2⟩
      · omega
    · cases h4
  · rcases hsig i _ h1 with ⟨h3, h4⟩ | ⟨rfl, h4⟩
    · rcases hinv i x h2 with h2 | h2
      · obtain ⟨q1, a, q2, q3⟩ := I.lop i l x h3 h2
        exact ⟨.inl q1, a, q2, hfl i l x h3 h2 a q2 q3⟩
      · omega
    · cases h4
def lendK (σ : List StB) (p : PV) (K : PV → List StB → Prop) : Prop :=
  match p with
  | .optr i o => ∃ ty cs, contOf σ i = some (ty, cs) ∧ o ≤ cs.length ∧ K (.bptr (cs.drop o)) σ
  | .bptr cs => K (.bptr cs) σ
  | .lptr cs => K (.bptr cs) σ
  | p => frzAK σ p K
def lendsK (σ : List StB) : List PV → (List PV → List StB → Prop) → Prop
  | [], K => K [] σ
  | p :: ps, K => lendK σ p fun p' σ' => lendsK σ' ps fun ps' σ'' => K (p' :: ps') σ''
theorem Ext.here {W' : Nat → Prop} (e : Ext W β H W' β H) : Ext W [] H W' [] H := ⟨e.n, e.get, e.w, fun _ _ h => h, fun _ _ _ => rfl, fun i _ h _ => ⟨i, h⟩⟩
theorem lendK_ok {p : PV} {a : AV} {K : PV → List StB → Prop} (h : lendK σ p K) (I : Sto H0 W0 c σ k W β H) (hr : RelV H W β p a) :
    ∃ p' σ' W', FrzO H0 W0 c k σ W β H σ' W' ∧ RelV H W' [] p' a ∧ K p' σ' := by
  have triv : FrzO H0 W0 c k σ W β H σ W := ⟨Ext.refl _ _ _, I, rfl, fun _ => rfl, fun _ => rfl⟩
  unfold lendK at h
  split at h
  · rename_i i o
    obtain ⟨ty, cs, h1, h2, h3⟩ := h
    obtain ⟨b, hb, rfl⟩ := hr.optr_inv
    obtain ⟨rw', acs, g1, g2⟩ := I.cont h1 hb
    have hl := g2.length
    refine ⟨_, σ, W, triv, .bptr (fun i h => by simp at h) g1 (by simp; omega) ?_, h3⟩
    have := (g2.drop o).take (cs.drop o).length
    rwa [List.take_of_length_le (Nat.le_refl _)] at this
  · obtain ⟨b, o, _, _, _, rfl, q1, q2, q3, q4⟩ := hr.bptr_inv
    exact ⟨_, σ, W, triv, .bptr (fun i h => by simp at h) q2 q3 q4, h⟩
  · obtain ⟨b, o, _, _, _, rfl, q1, q2, q3, q4⟩ := hr.lptr_inv
    exact ⟨_, σ, W, triv, .bptr (fun i h => by simp at h) q2 q3 q4, h⟩
  · obtain ⟨p', σ', W', f, r, hK⟩ := frzAK_ok h I hr
    exact ⟨p', σ', W', f, .clo r, hK⟩
theorem lendsK_ok : ∀ {ps : List PV} {σ : List StB} {W : Nat → Prop} {as : List AV} {K : List PV → List StB → Prop}, lendsK σ ps K → Sto H0 W0 c σ k W β H → All2 (RelV H W β) ps as →
    ∃ ps' σ' W', FrzO H0 W0 c k σ W β H σ' W' ∧ All2 (RelV H W' []) ps' as ∧ K ps' σ'
  | [], σ, W, as, K, h, I, hr => by
    cases hr
    exact ⟨[], σ, W, ⟨Ext.refl _ _ _, I, rfl, fun _ => rfl, fun _ => rfl⟩, .nil, h⟩
  | p :: ps, σ, W, as, K, h, I, hr => by
    cases hr with
    | cons h1 h2 =>
      obtain ⟨p', σ1, W1, f1, r1, h3⟩ := lendK_ok (show lendK σ p _ from h) I h1
      obtain ⟨ps', σ2, W2, f2, r2, h4⟩ := lendsK_ok h3 f1.2.1 (RelVs.ext f1.1 h2)
      exact ⟨p' :: ps', σ2, W2, f1.trans f2, .cons (r1.ext f2.1.here) r2, h4⟩
def sealK (σ : List StB) (j : Nat) (K : List StB → Prop) : Prop :=
  ∃ ty cs, σ[j]? = some (.liv ty cs) ∧ frzsK σ cs fun cs' σ' => ∃ σ2, σ'.set j (.live ty cs') = σ2 ∧ K σ2
def sealsK (σ : List StB) : List Nat → (List StB → Prop) → Prop
  | [], K => K σ
  | j :: js, K => sealK σ j fun σ' => sealsK σ' js K
theorem livOf_is {σ : List StB} {j : Nat} {ty : TypeId} {cs : List PV} (h : livOf σ j = some (ty, cs)) : σ[j]? = some (.liv ty cs) := by
  unfold livOf at h
  split at h
  · rename_i h1; cases h; exact h1
  · cases h
theorem livOf_of {σ : List StB} {j : Nat} {ty : TypeId} {cs : List PV} (h : σ[j]? = some (.liv ty cs)) : livOf σ j = some (ty, cs) := by
  unfold livOf; rw [h]
theorem sealK_ok {j : Nat} {K : List StB → Prop} (h : sealK σ j K) (I : Sto H0 W0 c σ k W β H) : ∃ σ' W', Ext W β H W' β H ∧ Sto H0 W0 c σ' k W' β H ∧ σ'.length = σ.length ∧ K σ' := by
  obtain ⟨ty, cs, hj, h⟩ := h
  obtain ⟨b, hb⟩ := I.blk hj
  obtain ⟨hW, acs, hg, hr⟩ := I.liv j ty cs b hj hb
  obtain ⟨cs', σ', W', f, r, σ2, rfl, hK⟩ := frzsK_ok h I hr
  obtain ⟨E, I', hl, hc, hv⟩ := f
  have hj' : σ'[j]? = some (.liv ty cs) := livOf_is (by rw [hv, livOf_of hj])
  obtain ⟨hW', acs', hg', hr'⟩ := I'.liv j ty cs b hj' hb
  have hjl := (List.getElem?_eq_some_iff.1 hj').1
  refine ⟨_, W', E, ⟨I'.room, I'.kc, I'.lo, I'.hi, I'.keep, I'.w0n, I'.w0, I'.wn, by simp [I'.len], I'.bl, fun i t l x h1 h2 => ?_, fun i t l x h1 h2 => ?_, I'.inj, fun i t l x h1 h2 => ?_, fun i t l x h1 h2 => ?_, fun i l x h1 h2 => ?_⟩, by simp [hl], hK⟩
  · by_cases e : i = j
    · subst e
      rw [List.getElem?_set_self hjl] at h1
      cases h1
      rw [hb] at h2
      cases h2
      exact ⟨hW', acs, hg, r⟩
    · rw [List.getElem?_set_ne (Ne.symm e)] at h1
      exact I'.live i t l x h1 h2
  · by_cases e : i = j
    · subst e
      rw [List.getElem?_set_self hjl] at h1
      cases h1
    · rw [List.getElem?_set_ne (Ne.symm e)] at h1
      exact I'.frz i t l x h1 h2
  · by_cases e : i = j
    · subst e
      rw [List.getElem?_set_self hjl] at h1
      cases h1
    · rw [List.getElem?_set_ne (Ne.symm e)] at h1
      exact I'.liv i t l x h1 h2
  · by_cases e : i = j
    · subst e
      rw [List.getElem?_set_self hjl] at h1
      cases h1
    · rw [List.getElem?_set_ne (Ne.symm e)] at h1
      exact I'.map i t l x h1 h2
  · by_cases e : i = j
    · subst e
      rw [List.getElem?_set_self hjl] at h1
      cases h1
    · rw [List.getElem?_set_ne (Ne.symm e)] at h1
      exact I'.lop i l x h1 h2
theorem sealsK_ok : ∀ {js : List Nat} {σ : List StB} {W : Nat → Prop} {K : List StB → Prop}, sealsK σ js K → Sto H0 W0 c σ k W β H → ∃ σ' W', Ext W β H W' β H ∧ Sto H0 W0 c σ' k W' β H ∧ σ'.length = σ.length ∧ K σ'
  | [], σ, W, K, h, I => ⟨σ, W, Ext.refl _ _ _, I, rfl, h⟩
  | j :: js, σ, W, K, h, I => by
    obtain ⟨σ1, W1, E1, I1, l1, h1⟩ := sealK_ok (show sealK σ j _ from h) I
    obtain ⟨σ2, W2, E2, I2, l2, h2⟩ := sealsK_ok h1 I1
    exact ⟨σ2, W2, E1.trans E2, I2, l2.trans l1, h2⟩
def frzmK (σ : List StB) : List Bool → List PV → (List PV → List StB → Prop) → Prop
  | _, [], K => K [] σ
  | true :: ms, p :: ps, K => frzAK σ p fun p' σ' => frzmK σ' ms ps fun ps' σ'' => K (p' :: ps') σ''
  | _ :: ms, p :: ps, K => frzmK σ ms ps fun ps' σ'' => K (p :: ps') σ''
  | [], ps, K => K ps σ
theorem frzmK_ok : ∀ {ms : List Bool} {ps : List PV} {σ : List StB} {W : Nat → Prop} {as : List AV} {K : List PV → List StB → Prop}, frzmK σ ms ps K → Sto H0 W0 c σ k W β H → All2 (RelV H W β) ps as →
    ∃ ps' σ' W', FrzO H0 W0 c k σ W β H σ' W' ∧ All2 (RelV H W' β) ps' as ∧ K ps' σ'
  | ms, [], σ, W, as, K, h, I, hr => by
    cases hr
    exact ⟨[], σ, W, ⟨Ext.refl _ _ _, I, rfl, fun _ => rfl, fun _ => rfl⟩, .nil, by cases ms <;> exact h⟩
  | [], p :: ps, σ, W, as, K, h, I, hr => ⟨p :: ps, σ, W, ⟨Ext.refl _ _ _, I, rfl, fun _ => rfl, fun _ => rfl⟩, hr, h⟩
  | true :: ms, p :: ps, σ, W, as, K, h, I, hr => by
    cases hr with
    | cons h1 h2 =>
      obtain ⟨p', σ1, W1, f1, r1, h3⟩ := frzAK_ok (show frzAK σ p _ from h) I h1
      obtain ⟨ps', σ2, W2, f2, r2, h4⟩ := frzmK_ok h3 f1.2.1 (RelVs.ext f1.1 h2)
      exact ⟨p' :: ps', σ2, W2, f1.trans f2, .cons (.clo (r1.ext f2.1)) r2, h4⟩
  | false :: ms, p :: ps, σ, W, as, K, h, I, hr => by
    cases hr with
    | cons h1 h2 =>
      obtain ⟨ps', σ2, W2, f2, r2, h4⟩ := frzmK_ok (ms := ms) (show frzmK σ ms ps _ from h) I h2
      exact ⟨p :: ps', σ2, W2, f2, .cons (h1.ext f2.1) r2, h4⟩
def Cm (C : Ctx) (g : FuncId) (ps : List PV) (σ : List StB) (d : Nat) (Q : PV → List StB → Prop) : Prop :=
  ∀ (H0 : Heap) (W0 : Nat → Prop) (c k : Nat) (W : Nat → Prop) (β : List Nat) (H : Heap) (as : List AV), Sto H0 W0 c σ k W β H → k + d ≤ c → All2 (RelV H W β) ps as → Cl C g as H fun v H' =>
    ∃ r σ' k' W' β', Ext W β H W' β' H' ∧ Sto H0 W0 c σ' k' W' β' H' ∧ RelV H' W' β' r v ∧ Q r σ' ∧ k' ≤ k + d
theorem Cm.post {g : FuncId} {ps : List PV} {d d' : Nat} {Q Q' : PV → List StB → Prop} (h : Cm C g ps σ d Q) (hd : d ≤ d') (hq : ∀ r σ', Q r σ' → Q' r σ') : Cm C g ps σ d' Q' := fun H0 W0 c k W β H as I hc hr =>
  (h H0 W0 c k W β H as I (by omega) hr).mono fun v H' ⟨r, σ', k', W', β', h1, h2, h3, h4, h5⟩ => ⟨r, σ', k', W', β', h1, h2, h3, hq r σ' h4, by omega⟩
theorem Sto.raise (I : Sto H0 W0 c σ k W β H) {k' : Nat} (h1 : k ≤ k') (h2 : k' ≤ c) : Sto H0 W0 c σ k' W β H :=
  ⟨I.room, h2, I.lo, by have := I.hi; omega, I.keep, I.w0n, I.w0, I.wn, I.len, I.bl, I.live, I.frz, I.inj, I.liv, I.map, I.lop⟩
end Go.PI
