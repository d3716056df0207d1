/- Own work of the verifier: OrMath OrU8 OrPw OrSm OrLt OrAl OrCb OrCc. -/
import Derived.Test.YtoppgcfijjndfaaGreatDoorOwBA
import Derived.Test.YtoppgcfijjndfaaGreatDoorOwAW
import Derived.Test.YtoppgcfijjndfaaGreatDoorOwAX
set_option linter.all false
set_option exponentiation.threshold 3000
set_option linter.deprecated false
/- LETTERS that act on origamis: connected ones stay so; what the relations of SL(2, Z) make is isomorphic. -/
namespace Go.PI
set_option maxRecDepth 10000
set_option maxHeartbeats 4000000
structure O4 where
  f : Nat → Nat
  f' : Nat → Nat
  g : Nat → Nat
  g' : Nat → Nat
structure O4.Ok (o : O4) (n : Nat) : Prop where
  pr : IsP n o.f o.f'
  pu : IsP n o.g o.g'
def O4.S (o : O4) : O4 := ⟨o.g', o.g, o.f, o.f'⟩
def O4.s (o : O4) : O4 := ⟨o.g, o.g', o.f', o.f⟩
def O4.T (o : O4) : O4 := ⟨o.f, o.f', fun i => o.f' (o.g i), fun i => o.g' (o.f i)⟩
def O4.t (o : O4) : O4 := ⟨o.f, o.f', fun i => o.f (o.g i), fun i => o.g' (o.f' i)⟩
def O4.let (o : O4) (b : Nat) : O4 := if b = 83 then o.S else if b = 115 then o.s else if b = 84 then o.T else o.t
section
variable {o p : O4} {n : Nat}
theorem O4.Ok.S (h : o.Ok n) : o.S.Ok n := ⟨h.pu.inv, h.pr⟩
theorem O4.Ok.s (h : o.Ok n) : o.s.Ok n := ⟨h.pu, h.pr.inv⟩
theorem O4.Ok.T (h : o.Ok n) : o.T.Ok n := ⟨h.pr, h.pu.comp h.pr.inv⟩
theorem O4.Ok.t (h : o.Ok n) : o.t.Ok n := ⟨h.pr, h.pu.comp h.pr⟩
theorem O4.Ok.let (h : o.Ok n) (b : Nat) : (o.let b).Ok n := by
  unfold O4.let
  split
  · exact h.S
  split
  · exact h.s
  split
  · exact h.T
  · exact h.t
def O4.act (o : O4) : List Nat → O4
  | [] => o
  | b :: w => (o.act w).let b
theorem O4.act_app {u v : List Nat} : o.act (u ++ v) = (o.act v).act u := by
  induction u with
  | nil => rfl
  | cons b u ih => show (o.act (u ++ v)).let b = _; rw [ih]; rfl
theorem O4.Ok.act (h : o.Ok n) : ∀ w, (o.act w).Ok n
  | [] => h
  | b :: w => (h.act w).let b
theorem rch_of {F G f g : Nat → Nat} {s y : Nat} (hs : s < n) (hF : ∀ x, x < n → Rch f g x (F x)) (hG : ∀ x, x < n → Rch f g x (G x)) (hl : ∀ x, x < n → F x < n ∧ G x < n) (h : Rch F G s y) : Rch f g s y ∧ y < n := by
  induction h with
  | refl => exact ⟨.refl, hs⟩
  | f _ ih => exact ⟨ih.1.trans (hF _ ih.2), (hl _ ih.2).1⟩
  | g _ ih => exact ⟨ih.1.trans (hG _ ih.2), (hl _ ih.2).2⟩
theorem conn_of {F G f g : Nat → Nat} (h0 : 0 < n) (hF : ∀ x, x < n → Rch f g x (F x)) (hG : ∀ x, x < n → Rch f g x (G x)) (hl : ∀ x, x < n → F x < n ∧ G x < n) (h : Conn n F G) : Conn n f g := fun y hy => (rch_of h0 hF hG hl (h y hy)).1
theorem rch_one {f g : Nat → Nat} {x : Nat} : Rch f g x (f x) := .f .refl
theorem rch_two {f g : Nat → Nat} {x : Nat} : Rch f g x (g x) := .g .refl
theorem rch_b1 (h : o.Ok n) {x : Nat} (hx : x < n) : Rch o.f o.g x (o.f' x) := by
  have := (rch_one (f := o.f) (g := o.g) (x := o.f' x)).symm h.pr h.pu (h.pr.glt x hx)
  rwa [h.pr.fg x hx] at this
theorem rch_b2 (h : o.Ok n) {x : Nat} (hx : x < n) : Rch o.f o.g x (o.g' x) := by
  have := (rch_two (f := o.f) (g := o.g) (x := o.g' x)).symm h.pr h.pu (h.pu.glt x hx)
  rwa [h.pu.fg x hx] at this
theorem O4.conn_let (h : o.Ok n) (h0 : 0 < n) (hc : Conn n o.f o.g) (b : Nat) : Conn n (o.let b).f (o.let b).g := by
  have hl : ∀ x, x < n → o.f x < n ∧ o.g x < n := fun x hx => ⟨h.pr.lt x hx, h.pu.lt x hx⟩
  have key : ∀ q : O4, q.Ok n → (∀ x, x < n → Rch q.f q.g x (o.f x)) → (∀ x, x < n → Rch q.f q.g x (o.g x)) → Conn n q.f q.g := fun q _ a b => conn_of h0 a b hl hc
  unfold O4.let
  split
  · refine key _ h.S (fun x hx => rch_two) fun x hx => rch_b1 h.S hx
  split
  · refine key _ h.s (fun x hx => rch_b2 h.s hx) fun x hx => rch_one
  split
  · refine key _ h.T (fun x hx => rch_one) fun x hx => ?_
    have : Rch o.f (fun i => o.f' (o.g i)) x (o.f (o.f' (o.g x))) := .f (.g .refl)
    rw [h.pr.fg _ (h.pu.lt x hx)] at this
    exact this
  · refine key _ h.t (fun x hx => rch_one) fun x hx => ?_
    have a : Rch o.f (fun i => o.f (o.g i)) x (o.f (o.g x)) := .g .refl
    have b := rch_b1 h.t (h.t.pu.lt x hx)
    have e : o.t.f' (o.t.g x) = o.g x := h.pr.gf _ (h.pu.lt x hx)
    rw [e] at b
    exact Rch.trans a b
structure Iso4 (n : Nat) (o p : O4) (e : Nat → Nat) : Prop where
  lt : ∀ x, x < n → e x < n
  inj : ∀ x y, x < n → y < n → e x = e y → x = y
  f : ∀ x, x < n → p.f (e x) = e (o.f x)
  f' : ∀ x, x < n → p.f' (e x) = e (o.f' x)
  g : ∀ x, x < n → p.g (e x) = e (o.g x)
  g' : ∀ x, x < n → p.g' (e x) = e (o.g' x)
theorem Iso4.of {e : Nat → Nat} (h : o.Ok n) (k : p.Ok n) (i : Isom n o.f o.g p.f p.g e) : Iso4 n o p e :=
  ⟨i.lt, i.inj, i.f, fun x hx => by
    have := i.f _ (h.pr.glt x hx)
    rw [h.pr.fg x hx] at this
    rw [← this, k.pr.gf _ (i.lt _ (h.pr.glt x hx))], i.g, fun x hx => by
    have := i.g _ (h.pu.glt x hx)
    rw [h.pu.fg x hx] at this
    rw [← this, k.pu.gf _ (i.lt _ (h.pu.glt x hx))]⟩
theorem Iso4.to {e : Nat → Nat} (i : Iso4 n o p e) : Isom n o.f o.g p.f p.g e := ⟨i.lt, i.inj, i.f, i.g⟩
theorem Iso4.let {e : Nat → Nat} (h : o.Ok n) (i : Iso4 n o p e) (b : Nat) : Iso4 n (o.let b) (p.let b) e := by
  unfold O4.let
  split
  · exact ⟨i.lt, i.inj, i.g', i.g, i.f, i.f'⟩
  split
  · exact ⟨i.lt, i.inj, i.g, i.g', i.f', i.f⟩
  split
  · exact ⟨i.lt, i.inj, i.f, i.f', fun x hx => by show p.f' (p.g (e x)) = e (o.f' (o.g x)); rw [i.g x hx, i.f' _ (h.pu.lt x hx)], fun x hx => by show p.g' (p.f (e x)) = e (o.g' (o.f x)); rw [i.f x hx, i.g' _ (h.pr.lt x hx)]⟩
  · exact ⟨i.lt, i.inj, i.f, i.f', fun x hx => by show p.f (p.g (e x)) = e (o.f (o.g x)); rw [i.g x hx, i.f _ (h.pu.lt x hx)], fun x hx => by show p.g' (p.f' (e x)) = e (o.g' (o.f' x)); rw [i.f' x hx, i.g' _ (h.pr.glt x hx)]⟩
theorem Iso4.act {e : Nat → Nat} (h : o.Ok n) (i : Iso4 n o p e) : ∀ w, Iso4 n (o.act w) (p.act w) e
  | [] => i
  | b :: w => (i.act h w).let (h.act w) b
def rel4 : List Nat := [83, 83, 84, 115, 115, 116]
theorem comp_inj {e d : Nat → Nat} (h1 : ∀ x, x < n → d x < n) (h2 : ∀ x y, x < n → y < n → d x = d y → x = y) (h3 : ∀ x y, x < n → y < n → e x = e y → x = y) : ∀ x y, x < n → y < n → e (d x) = e (d y) → x = y :=
  fun x y hx hy h => h2 x y hx hy (h3 _ _ (h1 x hx) (h1 y hy) h)
theorem IsP.inj' {f g : Nat → Nat} (h : IsP n f g) : ∀ x y, x < n → y < n → f x = f y → x = y := fun _ _ hx hy e => h.inj hx hy e
theorem Iso4.trans {q : O4} {e d : Nat → Nat} (i : Iso4 n o p e) (j : Iso4 n p q d) : Iso4 n o q fun x => d (e x) :=
  ⟨fun x hx => j.lt _ (i.lt x hx), comp_inj i.lt i.inj j.inj, fun x hx => by rw [j.f _ (i.lt x hx), i.f x hx], fun x hx => by rw [j.f' _ (i.lt x hx), i.f' x hx], fun x hx => by rw [j.g _ (i.lt x hx), i.g x hx], fun x hx => by rw [j.g' _ (i.lt x hx), i.g' x hx]⟩
theorem Iso4.refl (h : o.Ok n) : Iso4 n o o fun x => x := ⟨fun _ h => h, fun _ _ _ _ e => e, fun _ _ => rfl, fun _ _ => rfl, fun _ _ => rfl, fun _ _ => rfl⟩
theorem act_rel4 (h : o.Ok n) : Iso4 n o (o.act rel4) o.f := by
  refine Iso4.of h (h.act _) ⟨h.pr.lt, h.pr.inj', fun x hx => rfl, fun x hx => ?_⟩
  show o.f (o.g (o.f' (o.f x))) = o.f (o.g x)
  rw [h.pr.gf _ hx]
def invB (b : Nat) : Nat := if b = 83 then 115 else if b = 115 then 83 else if b = 84 then 116 else 84
def backW (w : List Nat) : List Nat := (w.map invB).reverse
def IsLet (b : Nat) : Prop := b = 83 ∨ b = 115 ∨ b = 84 ∨ b = 116
structure Eq4 (n : Nat) (o p : O4) : Prop where
  f : ∀ x, x < n → o.f x = p.f x
  f' : ∀ x, x < n → o.f' x = p.f' x
  g : ∀ x, x < n → o.g x = p.g x
  g' : ∀ x, x < n → o.g' x = p.g' x
theorem Eq4.let (h : o.Ok n) (i : Eq4 n o p) (b : Nat) : Eq4 n (o.let b) (p.let b) := by
  have j : Iso4 n o p fun x => x := ⟨fun _ h => h, fun _ _ _ _ e => e, fun x hx => (i.f x hx).symm, fun x hx => (i.f' x hx).symm, fun x hx => (i.g x hx).symm, fun x hx => (i.g' x hx).symm⟩
  have k := j.let h b
  exact ⟨fun x hx => (k.f x hx).symm, fun x hx => (k.f' x hx).symm, fun x hx => (k.g x hx).symm, fun x hx => (k.g' x hx).symm⟩
theorem Eq4.act (h : o.Ok n) (i : Eq4 n o p) : ∀ w, Eq4 n (o.act w) (p.act w)
  | [] => i
  | b :: w => (i.act h w).let (h.act w) b
theorem Eq4.trans {q : O4} (i : Eq4 n o p) (j : Eq4 n p q) : Eq4 n o q := ⟨fun x hx => (i.f x hx).trans (j.f x hx), fun x hx => (i.f' x hx).trans (j.f' x hx), fun x hx => (i.g x hx).trans (j.g x hx), fun x hx => (i.g' x hx).trans (j.g' x hx)⟩
theorem let_inv (h : o.Ok n) {b : Nat} (hb : IsLet b) : Eq4 n ((o.let b).let (invB b)) o := by
  rcases hb with rfl | rfl | rfl | rfl
  · exact ⟨fun _ _ => rfl, fun _ _ => rfl, fun _ _ => rfl, fun _ _ => rfl⟩
  · exact ⟨fun _ _ => rfl, fun _ _ => rfl, fun _ _ => rfl, fun _ _ => rfl⟩
  · exact ⟨fun _ _ => rfl, fun _ _ => rfl, fun x hx => h.pr.fg _ (h.pu.lt x hx), fun x hx => by show o.g' (o.f (o.f' x)) = o.g' x; rw [h.pr.fg _ hx]⟩
  · exact ⟨fun _ _ => rfl, fun _ _ => rfl, fun x hx => h.pr.gf _ (h.pu.lt x hx), fun x hx => by show o.g' (o.f' (o.f x)) = o.g' x; rw [h.pr.gf _ hx]⟩
theorem act_back (h : o.Ok n) : ∀ w, (∀ b ∈ w, IsLet b) → Eq4 n ((o.act w).act (backW w)) o
  | [], _ => ⟨fun _ _ => rfl, fun _ _ => rfl, fun _ _ => rfl, fun _ _ => rfl⟩
  | b :: w, hw => by
    have e : backW (b :: w) = backW w ++ [invB b] := by simp [backW]
    rw [e, O4.act_app]
    have h1 := h.act w
    have i1 : Eq4 n ((o.act (b :: w)).act [invB b]) (o.act w) := let_inv h1 (hw b (by simp))
    have h2 : ((o.act (b :: w)).act [invB b]).Ok n := (h.act (b :: w)).act _
    exact (i1.act h2 (backW w)).trans (act_back h w fun c hc => hw c (by simp [hc]))
end
end Go.PI
/- BYTES, compared. -/
open Go.Proofs
namespace Go.PI
open IM
set_option maxRecDepth 10000
set_option maxHeartbeats 4000000
variable (S : FuncId → Option (List AV → Heap → Option (AV × Heap)))
theorem u8_eq_y {a b : Nat} (h : a = b) : intBin .eql .u8 (a : Int) (b : Int) = some (.bool true) := by subst h; simp [intBin]
theorem u8_eq_n {a b : Nat} (h : a ≠ b) : intBin .eql .u8 (a : Int) (b : Int) = some (.bool false) := by
  have : ((a : Int) == (b : Int)) = false := by simp; omega
  simp [intBin, this]
theorem fn158 : ctx.fn 158 = some c158 := by kernel_rfl
theorem owithin_ct (hS : OldO S) {n a b : Int} : Ct (ctx.plus S) 158 [pn n, pn a, pn b] 0 fun r => r = .bool (decide (a ≤ n ∧ n ≤ b)) := by
  refine ct_of (hS 158 (by decide)) fn158 ?_
  refine ⟨fun h1 => ?_, fun h1 => ?_⟩
  · refine ⟨fun h2 => ?_, fun h2 => ?_⟩
    · exact endq rfl (by rw [decide_eq_true ⟨by omega, by omega⟩])
    · exact endq rfl (by rw [decide_eq_false (by omega)])
  · exact endq rfl (by rw [decide_eq_false (by omega)])
end Go.PI
/- STEPS ALONG CYCLES, and what the letters make of an origami: of the program. -/
open Go.Proofs
namespace Go.PI
open IM
set_option maxRecDepth 10000
set_option maxHeartbeats 4000000
variable (S : FuncId → Option (List AV → Heap → Option (AV × Heap)))
theorem fn159 : ctx.fn 159 = some c159 := by kernel_rfl
theorem oinverse_ct (hS : OldO S) {n : Nat} {f g : Nat → Nat} (h : IsP n f g) (hn : n ≤ 1000000) : Ct (ctx.plus S) 159 [pIs (PL n f)] 1 fun r => r = pIs (PL n g) := by
  obtain ⟨xs, hx⟩ : ∃ xs, xs = PL n f := ⟨_, rfl⟩
  have hl : xs.length = n := by rw [hx, PL_len]
  have hg : ∀ i, i < n → xs[i]? = some (f i : Int) := fun i hi => by rw [hx, PL_get hi]
  rw [← hx]
  clear hx
  refine ct_of (hS 159 (by decide)) fn159 ?_
  refine ⟨by omega, ⟨by omega, by omega, by omega⟩, _, int_zero, ?_⟩
  refine ⟨fun m s => ∃ (i : Nat) (ys : List Int) (T : List PV), s = ⟨T, [.live 3 (ys.map pn)], 1⟩ ∧ Gt T 22 [(3, .own 0 0 xs.length xs.length 1), (9, pIs xs), (10, pn xs.length), (11, pn i)] ∧ m = n - i ∧ i ≤ n ∧ Hid (ys.length = n ∧ ∀ j : Nat, j < i → ys[f j]? = some (j : Int)), ⟨_, ci ⟨0, _, _, rfl, ⟨rfl, rfl, rfl, rfl, rfl, trivial⟩, rfl, Nat.zero_le _, ⟨by simp [hl], fun j hj => by omega⟩⟩⟩, ?_⟩
  rintro _ s ⟨i, ys, T, rfl, hT, rfl, hi, hy⟩
  obtain ⟨J, rfl⟩ := gt_open hT
  clear hT
  refine ⟨fun hlt => ?_, fun hge => ?_⟩
  · have he := hg i (by omega)
    have hfi := h.lt i (by omega)
    have hyl := hy.h.1
    refine ⟨⟨⟨by omega, by omega⟩, len_map_le (by omega)⟩, ?_⟩
    refine ⟨_, ld (at_map he) (by show _ * 1 = i; omega), ?_⟩
    refine ⟨⟨by omega, by omega⟩, ?_⟩
    refine ⟨_, _, rfl, ⟨rfl, by rw [List.length_map]; show 0 + f i * 1 + 1 ≤ _; omega, rfl⟩, _, int_put (j := f i) (by show 0 + f i * 1 = f i; omega) (by omega), _, rfl, ?_⟩
    refine ⟨⟨by omega, by omega⟩, ?_⟩
    refine ⟨_, by omega, ci ⟨i + 1, _, _, rfl, ⟨rfl, rfl, rfl, rfl, rfl, trivial⟩, rfl, by omega, ⟨by simp [hyl], fun j hj => ?_⟩⟩⟩
    by_cases hji : j = i
    · subst hji
      rw [List.getElem?_set_self (by omega)]
    · rw [List.getElem?_set_ne (fun e => hji (h.inj (by omega) (by omega) e.symm))]
      exact hy.h.2 j (by omega)
  · refine endf (fz_ints (xs := ys) rfl (by rw [hy.h.1, hl])) ?_
    rw [PL_ext (f := g) hy.h.1 fun j hj => ?_]
    have := hy.h.2 (g j) (by have := h.glt j hj; omega)
    rwa [h.fg j hj] at this
theorem fn213 : ctx.fn 213 = some c213 := by kernel_rfl
theorem oproduct_ct (hS : OldO S) {n : Nat} {f g : Nat → Nat} (h : ∀ i, i < n → f i < n) (hn : n ≤ 1000000) : Ct (ctx.plus S) 213 [pIs (PL n f), pIs (PL n g)] 1 fun r => r = pIs (PL n fun i => g (f i)) := by
  obtain ⟨xs, hx⟩ : ∃ xs, xs = PL n f := ⟨_, rfl⟩
  have hl : xs.length = n := by rw [hx, PL_len]
  have hg : ∀ i, i < n → xs[i]? = some (f i : Int) := fun i hi => by rw [hx, PL_get hi]
  rw [← hx]
  clear hx
  obtain ⟨zs, hx⟩ : ∃ zs, zs = PL n g := ⟨_, rfl⟩
  have hzl : zs.length = n := by rw [hx, PL_len]
  have hzg : ∀ i, i < n → zs[i]? = some (g i : Int) := fun i hi => by rw [hx, PL_get hi]
  rw [← hx]
  clear hx
  refine ct_of (hS 213 (by decide)) fn213 ?_
  refine ⟨by omega, ⟨by omega, by omega, by omega⟩, _, int_zero, ?_⟩
  refine ⟨fun m s => ∃ (i : Nat) (ys : List Int) (T : List PV), s = ⟨T, [.live 3 (ys.map pn)], 1⟩ ∧ Gt T 27 [(1, pIs zs), (5, .own 0 0 xs.length xs.length 1), (11, pIs xs), (12, pn xs.length), (13, pn i)] ∧ m = n - i ∧ i ≤ n ∧ Hid (ys.length = n ∧ ∀ j : Nat, j < i → ys[j]? = some (g (f j) : Int)), ⟨_, ci ⟨0, _, _, rfl, ⟨rfl, rfl, rfl, rfl, rfl, rfl, trivial⟩, rfl, Nat.zero_le _, ⟨by simp [hl], fun j hj => by omega⟩⟩⟩, ?_⟩
  rintro _ s ⟨i, ys, T, rfl, hT, rfl, hi, hy⟩
  obtain ⟨J, rfl⟩ := gt_open hT
  clear hT
  refine ⟨fun hlt => ?_, fun hge => ?_⟩
  · have he := hg i (by omega)
    have hfi := h i (by omega)
    have hz := hzg (f i) hfi
    have hyl := hy.h.1
    refine ⟨⟨⟨by omega, by omega⟩, len_map_le (by omega)⟩, ?_⟩
    refine ⟨_, ld (at_map he) (by show _ * 1 = i; omega), ?_⟩
    refine ⟨⟨⟨by omega, by omega⟩, len_map_le (by omega)⟩, ?_⟩
    refine ⟨_, ld (at_map hz) (by show _ * 1 = f i; omega), ?_⟩
    refine ⟨⟨by omega, by omega⟩, ?_⟩
    refine ⟨_, _, rfl, ⟨rfl, by rw [List.length_map]; show 0 + i * 1 + 1 ≤ _; omega, rfl⟩, _, int_put (j := i) (by show 0 + i * 1 = i; omega) (by omega), _, rfl, ?_⟩
    refine ⟨⟨by omega, by omega⟩, ?_⟩
    refine ⟨_, by omega, ci ⟨i + 1, _, _, rfl, ⟨rfl, rfl, rfl, rfl, rfl, rfl, trivial⟩, rfl, by omega, ⟨by simp [hyl], fun j hj => ?_⟩⟩⟩
    by_cases hji : j = i
    · subst hji
      rw [List.getElem?_set_self (by omega)]
    · rw [List.getElem?_set_ne (Ne.symm hji)]
      exact hy.h.2 j (by omega)
  · refine endf (fz_ints (xs := ys) rfl (by rw [hy.h.1, hl])) ?_
    rw [PL_ext (f := fun i => g (f i)) hy.h.1 fun j hj => hy.h.2 j (by omega)]
theorem chkP_PL {n : Nat} {f g : Nat → Nat} (h : IsP n f g) : chkP (PL n f) = 0 := by
  refine chk0 (inR_PL h) ?_
  unfold PL List.Nodup
  rw [List.pairwise_map]
  refine List.Pairwise.imp_of_mem (R := fun a b => a < b) (fun {a b} ha hb hlt e => ?_) List.pairwise_lt_range
  have := h.inj (List.mem_range.1 ha) (List.mem_range.1 hb) (by omega)
  omega
theorem fn243 : ctx.fn 243 = some c243 := by kernel_rfl
theorem cyclesP_ct (hS : OldO S) {n : Nat} {f g : Nat → Nat} (h : IsP n f g) (hn : n ≤ 60) : Ct (ctx.plus S) 243 [pIs (PL n f)] 10000 fun v => v = .tup [pM (cycs n f), pn 0] := by
  have hl : (PL n f).length = n := PL_len
  refine ct_of (hS 243 (by decide)) fn243 ?_
  refine ⟨fun h => absurd h (by omega), fun _ => ?_⟩
  refine callq rfl (checkP_ct S hS (by omega)) (by omega) ?_
  rintro _ rfl
  rw [chkP_PL h]
  refine ⟨fun h => absurd rfl h, fun _ => ?_⟩
  have hm : 1 + n * (2 * n + 2) ≤ 7400 := by
    have := Nat.mul_le_mul (show n ≤ 60 by omega) (show 2 * n + 2 ≤ 122 by omega)
    omega
  refine callq rfl ((cycles_ct S hS h (by omega)).mono hm fun _ h => h) (by omega) ?_
  rintro _ rfl
  exact endsq rfl rfl
theorem tm_bd {a m : Int} (h : 0 < m) : -m < a.tmod m ∧ a.tmod m < m := by
  have h1 : (a.tmod m).natAbs = a.natAbs % m.natAbs := Int.natAbs_tmod a m
  have h2 := Nat.mod_lt a.natAbs (show m.natAbs > 0 by omega)
  omega
theorem fn214 : ctx.fn 214 = some c214 := by kernel_rfl
theorem power_ct (hS : OldO S) {n : Nat} {f f' : Nat → Nat} {k : Int} (h : IsP n f f') (hn : n ≤ 60) (hk : k = 1 ∨ k = -1) : Ct (ctx.plus S) 214 [pIs (PL n f), pn k] 10001 fun r => r = pIs (PL n (stp f f' k)) := by
  have hl : (PL n f).length = n := PL_len
  have hcl : (cycs n f).length ≤ n := cycs_len (Nat.le_refl n)
  refine ct_of (hS 214 (by decide)) fn214 ?_
  refine ⟨by omega, ⟨by omega, by omega, by omega⟩, _, int_zero, ?_⟩
  rw [hl]
  refine callq rfl (cyclesP_ct S hS h hn) (by omega) ?_
  rintro _ rfl
  refine ⟨fun m s => ∃ (i : Nat) (ys : List Int) (T : List PV), s = ⟨T, [.live 3 (ys.map pn)], 10001⟩ ∧ Gt T 54 [(1, pn k), (5, .own 0 0 n n 1), (21, pM (cycs n f)), (22, pn (cycs n f).length), (23, pn i)] ∧ m = (cycs n f).length - i ∧ i ≤ (cycs n f).length ∧ Hid (PT n (stp f f' k) (InCy n f i) ys), ⟨_, ci ⟨0, _, _, rfl, ⟨rfl, rfl, rfl, rfl, rfl, rfl, trivial⟩, rfl, Nat.zero_le _, ⟨by simp, fun y _ hy => by obtain ⟨c, hc, -⟩ := hy; simp at hc⟩⟩⟩, ?_⟩
  rintro _ st ⟨i, ys, T, rfl, hT, rfl, hi, hh⟩
  obtain ⟨J, rfl⟩ := gt_open hT
  clear hT
  refine ⟨fun hlt => ?_, fun hge => ?_⟩
  · obtain ⟨c, hc⟩ : ∃ c, (cycs n f)[i]? = some c := ⟨_, List.getElem?_eq_getElem (by omega)⟩
    obtain ⟨x, hx, -, rfl⟩ := cycs_memP.1 (List.mem_of_getElem? hc)
    obtain ⟨o1, o2, o3, o4⟩ := ordr_spec h hx
    have hcn : (cyc f x).length = ordr f x := cyc_len
    refine ⟨⟨⟨by omega, by omega⟩, len_map_le (by omega)⟩, ?_⟩
    refine ⟨_, ld (at_map hc) (by show _ * 1 = i; omega), ?_⟩
    refine ⟨fun m s => ∃ (q : Nat) (ys : List Int) (T : List PV), s = ⟨T, [.live 3 (ys.map pn)], 10001⟩ ∧ Gt T 54 [(1, pn k), (5, .own 0 0 n n 1), (9, pIs (cyc f x)), (10, pn (cyc f x).length), (21, pM (cycs n f)), (22, pn (cycs n f).length), (23, pn i), (29, pIs (cyc f x)), (30, pn (cyc f x).length), (31, pn q)] ∧ m = ordr f x - q ∧ q ≤ ordr f x ∧ Hid (PT n (stp f f' k) (fun y => InCy n f i y ∨ ∃ j, j < q ∧ it f j x = y) ys), ⟨_, ci ⟨0, _, _, rfl, ⟨rfl, rfl, rfl, rfl, rfl, rfl, rfl, rfl, rfl, rfl, rfl, trivial⟩, rfl, Nat.zero_le _, ⟨pt_mono hh.h fun z _ hz => by rcases hz with hz | ⟨j, hj, -⟩; exact hz; omega⟩⟩⟩, ?_⟩
    clear hh ys
    rintro _ st ⟨q, ys, T, rfl, hT, rfl, hq, hh⟩
    obtain ⟨J, rfl⟩ := gt_open hT
    clear hT
    refine ⟨fun hlt2 => ?_, fun hge2 => ?_⟩
    · have hq2 : q < ordr f x := by omega
      have hit := it_lt h hx q
      obtain ⟨p1, p2, p3⟩ := plc_at h hx hq2 hk
      have hcq : (cyc f x)[q]? = some ((it f q x : Nat) : Int) := cyc_at hq2
      rw [← hcn] at p1 p2 p3
      have hk6 : -1 ≤ k ∧ k ≤ 1 := by omega
      have hm0 : (0 : Int) < ((cyc f x).length : Nat) := by omega
      have b1 := tm_bd (a := (q : Int) + k) hm0
      refine ⟨⟨⟨by omega, by omega⟩, len_map_le (by omega)⟩, ?_⟩
      refine ⟨_, ld (at_map hcq) (by show _ * 1 = q; omega), ?_⟩
      refine ⟨⟨by omega, by omega⟩, ?_⟩
      refine ⟨by omega, ?_⟩
      refine ⟨⟨by omega, by omega⟩, ?_⟩
      refine ⟨by omega, ?_⟩
      refine ⟨⟨⟨p1, p2⟩, len_map_le (by show (plc _ _ _).toNat ≤ _; omega)⟩, ?_⟩
      refine ⟨_, ld (at_map p3) (by show (plc _ _ _).toNat * 1 = _; omega), ?_⟩
      refine ⟨⟨by omega, by omega⟩, ?_⟩
      have hyl := hh.h.1
      refine ⟨_, _, rfl, ⟨rfl, by rw [List.length_map]; show 0 + it f q x * 1 + 1 ≤ _; omega, rfl⟩, _, int_put (j := it f q x) (by show 0 + it f q x * 1 = it f q x; omega) (by omega), _, rfl, ?_⟩
      refine ⟨⟨by omega, by omega⟩, ?_⟩
      exact ⟨_, by omega, ci ⟨q + 1, _, _, rfl, ⟨rfl, rfl, rfl, rfl, rfl, rfl, rfl, rfl, rfl, rfl, rfl, trivial⟩, rfl, by omega, ⟨pt_set hh.h hit fun z hz => by
        rcases hz with hz | ⟨j, hj, rfl⟩
        · exact .inl (.inl hz)
        · by_cases e : j = q
          · subst e; exact .inr rfl
          · exact .inl (.inr ⟨j, by omega, rfl⟩)⟩⟩⟩
    · have hqn : q = ordr f x := by omega
      refine ⟨⟨by omega, by omega⟩, ?_⟩
      exact ⟨_, by omega, ci ⟨i + 1, _, _, rfl, ⟨rfl, rfl, rfl, rfl, rfl, rfl, trivial⟩, rfl, by omega, ⟨pt_mono hh.h fun z hz hy => by
        obtain ⟨c, hcm, hzc⟩ := hy
        rw [List.take_add_one, hc] at hcm
        rcases List.mem_append.1 hcm with hcm | hcm
        · exact .inl ⟨c, hcm, hzc⟩
        · have hcm : c = cyc f x := by simpa using hcm
          subst hcm
          obtain ⟨j, hj⟩ := List.getElem?_of_mem hzc
          have hjl := (List.getElem?_eq_some_iff.1 hj).1
          rw [cyc_at (by omega)] at hj
          exact .inr ⟨j, by omega, by have := Option.some.inj hj; omega⟩⟩⟩⟩
  · have e := pt_done hh.h fun z hz => by
      obtain ⟨c, hc, hz2⟩ := cycs_all h hz
      exact (⟨c, by rw [List.take_of_length_le (by omega)]; exact hc, hz2⟩ : InCy n f i z)
    exact endf (fz_ints (xs := ys) rfl hh.h.1) (by rw [e])
end Go.PI
/- SMALL FUNCTIONS: copies, equal origamis, the zero value. -/
open Go.Proofs
namespace Go.PI
open IM
set_option maxRecDepth 10000
set_option maxHeartbeats 4000000
variable (S : FuncId → Option (List AV → Heap → Option (AV × Heap)))
theorem PL_ne {n : Nat} {f : Nat → Nat} (h : 0 < n) : PL n f ≠ [] := fun e => by
  have := PL_len (n := n) (f := f)
  rw [e] at this
  simp at this
  omega
theorem fn31 : ctx.fn 31 = some c31 := by kernel_rfl
theorem sameO_ct (hS : OldO S) {t b t' b' : List Int} (l1 : t.length ≤ 1000000) (l2 : b.length ≤ 1000000) (l3 : t'.length ≤ 1000000) (l4 : b'.length ≤ 1000000) :
    Ct (ctx.plus S) 31 [pO t b, pO t' b'] 2 fun r => r = .bool (decide (t = t' ∧ b = b')) := by
  refine ct_of (hS 31 (by decide)) fn31 ?_
  refine ⟨by omega, by omega, ?_⟩
  refine ⟨_, rfl, ?_⟩
  refine ⟨_, rfl, ?_⟩
  refine callq rfl (ints_ct S hS l1 l3) (by omega) ?_
  rintro _ rfl
  by_cases h1 : t = t'
  · rw [decide_eq_true h1]
    refine ⟨_, rfl, ?_⟩
    refine ⟨_, rfl, ?_⟩
    refine callq rfl (ints_ct S hS l2 l4) (by omega) ?_
    rintro _ rfl
    exact endq rfl (by simp [h1])
  · rw [decide_eq_false h1]
    exact endq rfl (by simp [h1])
end Go.PI
/- WHAT THE LETTERS MAKE of an origami: of the program. -/
open Go.Proofs
namespace Go.PI
open IM
set_option maxRecDepth 10000
set_option maxHeartbeats 4000000
variable (S : FuncId → Option (List AV → Heap → Option (AV × Heap)))
def p4 (n : Nat) (o : O4) : PV := pO (PL n o.f) (PL n o.g)
theorem fn177 : ctx.fn 177 = some c177 := by kernel_rfl
theorem lS_ct (hS : OldO S) {n : Nat} {o : O4} (hn : n ≤ 60) (h : o.Ok n) : Ct (ctx.plus S) 177 [p4 n o] 20000 fun v => v = p4 n o.S := by
  refine ct_of (hS 177 (by decide)) fn177 ?_
  refine ⟨by omega, by omega, ?_⟩
  refine ⟨by kernel_rfl, ?_⟩
  refine ⟨_, rfl, rfl, ?_⟩
  refine callq rfl (oinverse_ct S hS h.pu (by omega)) (by omega) ?_
  rintro _ rfl
  refine ⟨_, rfl, rfl, ?_⟩
  refine partc rfl ⟨_, rfl, ?_⟩
  refine ⟨_, _, rfl, ⟨rfl, Nat.le_refl 2, rfl⟩, _, rfl, _, rfl, ?_⟩
  exact ⟨_, rfl, endq rfl rfl⟩
theorem fn179 : ctx.fn 179 = some c179 := by kernel_rfl
theorem osheared_ct (hS : OldO S) {n : Nat} {o : O4} {k : Int} (hn : n ≤ 60) (h : o.Ok n) (hk : k = 1 ∨ k = -1) : Ct (ctx.plus S) 179 [p4 n o, pn k] 10010 fun v => v = pO (PL n o.f) (PL n fun i => stp o.f o.f' (-k) (o.g i)) := by
  refine ct_of (hS 179 (by decide)) fn179 ?_
  refine ⟨by omega, by omega, ?_⟩
  refine ⟨by kernel_rfl, ?_⟩
  refine ⟨_, rfl, rfl, ?_⟩
  refine ⟨_, rfl, rfl, ?_⟩
  refine ⟨_, rfl, rfl, ?_⟩
  refine ⟨⟨by omega, by omega⟩, ?_⟩
  refine callq rfl (power_ct S hS (k := 0 - k) h.pr hn (by omega)) (by omega) ?_
  rintro _ rfl
  have hst := (stp_perm h.pr (k := 0 - k)).lt
  refine callq rfl (oproduct_ct S hS (f := o.g) (g := stp o.f o.f' (0 - k)) h.pu.lt (by omega)) (by omega) ?_
  rintro _ rfl
  refine partc rfl ⟨_, rfl, ?_⟩
  refine ⟨_, _, rfl, ⟨rfl, Nat.le_refl 2, rfl⟩, _, rfl, _, rfl, ?_⟩
  refine ⟨_, rfl, endq rfl ?_⟩
  rw [Int.zero_sub]
  rfl
theorem fn178 : ctx.fn 178 = some c178 := by kernel_rfl
theorem lT_ct (hS : OldO S) {n : Nat} {o : O4} (hn : n ≤ 60) (h : o.Ok n) : Ct (ctx.plus S) 178 [p4 n o] 20000 fun v => v = p4 n o.T := by
  refine ct_of (hS 178 (by decide)) fn178 ?_
  refine ⟨by omega, by omega, ?_⟩
  refine ⟨_, rfl, ?_⟩
  refine callq rfl (osheared_ct S hS (k := 1) hn h (.inl rfl)) (by omega) ?_
  rintro _ rfl
  refine ⟨_, _, rfl, ⟨rfl, Nat.le_refl 2, rfl⟩, _, rfl, _, rfl, ?_⟩
  exact ⟨_, rfl, endq rfl rfl⟩
def pb (n : Nat) : PV := .int .u8 n
theorem fn130 : ctx.fn 130 = some c130 := by kernel_rfl
theorem forward_ct (hS : OldO S) : Ct (ctx.plus S) 130 [] 2 fun v => v = .lst 2 [pb 83, .fn 177, pb 84, .fn 178] := by
  refine ct_of (hS 130 (by decide)) fn130 ?_
  refine partc rfl ⟨_, rfl, ?_⟩
  refine partc rfl ⟨_, rfl, ?_⟩
  refine ⟨by omega, partc rfl ⟨_, rfl, ?_⟩⟩
  exact endf (fz_own (cs' := [pb 83, .fn 177, pb 84, .fn 178]) rfl (Nat.le_refl 4) (Nat.le_refl 2) rfl) rfl
theorem push_get' {σ : List StB} {b : StB} {j : Nat} (h : j = σ.length) : (σ ++ [b])[j]? = some b := by subst h; simp
end Go.PI
/- ONE LETTER, of the reference. -/
open Go.Proofs
namespace Go.PI
open IM
set_option maxRecDepth 10000
set_option maxHeartbeats 4000000
variable (S : FuncId → Option (List AV → Heap → Option (AV × Heap)))
theorem fn134 : ctx.fn 134 = some c134 := by kernel_rfl
theorem copy_cm (hS : OldO S) {xs : List Int} {σ : List StB} (hl : xs.length ≤ 1000000) (h0 : xs ≠ []) : Cm (ctx.plus S) 134 [pIs xs] σ 3 fun r σ' => Wrt σ σ' r xs := by
  have hne : xs.length ≠ 0 := fun h => h0 (List.eq_nil_of_length_eq_zero h)
  refine cm_of Opn.no (hS 134 (by decide)) fn134 fun c k0 hc => ?_
  refine ⟨by omega, part0 ⟨[], rfl, ?_⟩⟩
  have hpn : pones (xs.map pn) = true := pones_pn _
  refine ⟨⟨by rw [List.length_map]; show _ = _ * 1; omega, ⟨by show xs.length ≤ 2 ^ 30; omega, hpn⟩, by decide, fun h => absurd h (by omega), fun h => ⟨by omega, 3, [], _, push_cont, by decide, rfl, ?_⟩⟩⟩
  refine endm [] (by dsimp only; omega) ?_
  exact ⟨σ.length + 1, .inr (by rw [List.length_append, Nat.zero_add]; rfl), push_at (by simp), Nat.le_succ _, fun i b hb => by
      rw [List.getElem?_append_left (by simp; have := (List.getElem?_eq_some_iff.1 hb).1; omega), List.getElem?_append_left (List.getElem?_eq_some_iff.1 hb).1]
      exact hb⟩
theorem copy_ct (hS : OldO S) {xs : List Int} (hl : xs.length ≤ 1000000) (h0 : xs ≠ []) : Ct (ctx.plus S) 134 [pIs xs] 3 fun r => r = pIs xs := (copy_cm S hS hl h0).ct fun _ _ h => h.fz
theorem fn86 : ctx.fn 86 = some c86 := by kernel_rfl
theorem letter_ct (hS : OldO S) {n : Nat} {o : O4} {b : Nat} (h0 : 0 < n) (hn : n ≤ 60) (h : o.Ok n) : Ct (ctx.plus S) 86 [p4 n o, .int .u8 b] 1000 fun r => r = p4 n (o.let b) := by
  refine ct_of (hS 86 (by decide)) fn86 ?_
  refine ⟨by omega, by omega, ?_⟩
  refine ⟨by kernel_rfl, ?_⟩
  refine ⟨_, rfl, rfl, ?_⟩
  refine callq rfl (rinverse_ct S hS h.pr (by omega)) (by omega) ?_
  rintro _ rfl
  refine ⟨_, rfl, rfl, ?_⟩
  refine callq rfl (rinverse_ct S hS h.pu (by omega)) (by omega) ?_
  rintro _ rfl
  by_cases h1 : b = 83
  · refine ⟨rfl, _, u8_eq_y h1, ?_⟩
    refine ⟨_, rfl, ?_⟩
    refine callq rfl (copy_ct S hS (xs := PL n o.f) (by rw [PL_len]; omega) (PL_ne h0)) (by omega) ?_
    rintro _ rfl
    refine partc rfl ⟨_, rfl, ?_⟩
    refine ⟨_, _, rfl, ⟨rfl, Nat.le_refl 2, rfl⟩, _, rfl, _, rfl, ?_⟩
    exact ⟨_, rfl, endq rfl (by subst h1; rfl)⟩
  refine ⟨rfl, _, u8_eq_n h1, ?_⟩
  by_cases h2 : b = 115
  · refine ⟨rfl, _, u8_eq_y h2, ?_⟩
    refine ⟨_, rfl, ?_⟩
    refine callq rfl (copy_ct S hS (xs := PL n o.g) (by rw [PL_len]; omega) (PL_ne h0)) (by omega) ?_
    rintro _ rfl
    refine partc rfl ⟨_, rfl, ?_⟩
    refine ⟨_, _, rfl, ⟨rfl, Nat.le_refl 2, rfl⟩, _, rfl, _, rfl, ?_⟩
    exact ⟨_, rfl, endq rfl (by subst h2; rfl)⟩
  refine ⟨rfl, _, u8_eq_n h2, ?_⟩
  by_cases h3 : b = 84
  · refine ⟨rfl, _, u8_eq_y h3, ?_⟩
    refine ⟨by kernel_rfl, ?_⟩
    refine ⟨_, rfl, rfl, ?_⟩
    refine callq rfl (copy_ct S hS (xs := PL n o.f) (by rw [PL_len]; omega) (PL_ne h0)) (by omega) ?_
    rintro _ rfl
    refine ⟨_, rfl, rfl, ?_⟩
    refine callq rfl (after_ct S hS (f := o.g) (g := o.f') h.pu.lt (by omega)) (by omega) ?_
    rintro _ rfl
    refine partc rfl ⟨_, rfl, ?_⟩
    refine ⟨_, _, rfl, ⟨rfl, Nat.le_refl 2, rfl⟩, _, rfl, _, rfl, ?_⟩
    exact ⟨_, rfl, endq rfl (by subst h3; rfl)⟩
  refine ⟨rfl, _, u8_eq_n h3, ?_⟩
  refine ⟨by kernel_rfl, ?_⟩
  refine ⟨_, rfl, rfl, ?_⟩
  refine callq rfl (copy_ct S hS (xs := PL n o.f) (by rw [PL_len]; omega) (PL_ne h0)) (by omega) ?_
  rintro _ rfl
  refine ⟨_, rfl, rfl, ?_⟩
  refine ⟨_, rfl, rfl, ?_⟩
  refine callq rfl (after_ct S hS (f := o.g) (g := o.f) h.pu.lt (by omega)) (by omega) ?_
  rintro _ rfl
  refine partc rfl ⟨_, rfl, ?_⟩
  refine ⟨_, _, rfl, ⟨rfl, Nat.le_refl 2, rfl⟩, _, rfl, _, rfl, ?_⟩
  exact ⟨_, rfl, endq rfl (by unfold O4.let; rw [if_neg h1, if_neg h2, if_neg h3]; rfl)⟩
theorem fn27 : ctx.fn 27 = some c27 := by kernel_rfl
theorem fewK_ct (hS : OldO S) {r u : List Int} {k : Int} : Ct (ctx.plus S) 27 [pO r u, pn k] 1 fun v => (((r.length : Int) ≤ k ∧ (u.length : Int) ≤ k) ∧ v = .bool true) ∨ (¬ ((r.length : Int) ≤ k ∧ (u.length : Int) ≤ k) ∧ v = .bool false) := by
  refine ct_of (hS 27 (by decide)) fn27 ?_
  refine ⟨by omega, ?_⟩
  refine ⟨_, rfl, ?_⟩
  refine ⟨fun h1 => ?_, fun h1 => ?_⟩
  · refine ⟨_, rfl, ?_⟩
    refine ⟨fun h2 => ?_, fun h2 => ?_⟩
    · exact endq rfl (.inl ⟨⟨h1, h2⟩, rfl⟩)
    · exact endq rfl (.inr ⟨fun h => by have := h.2; omega, rfl⟩)
  · exact endq rfl (.inr ⟨fun h => by have := h.1; omega, rfl⟩)
end Go.PI
/- SMALL ORBITS; members of a slice of origamis; whether a list has an entry. -/
open Go.Proofs
namespace Go.PI
open IM
set_option maxRecDepth 10000
set_option maxHeartbeats 4000000
variable (S : FuncId → Option (List AV → Heap → Option (AV × Heap)))
def pB (L : List (List Int × List Int)) (X Y : List Int) : PV := .agg [pOs L, pIs X, pIs Y]
structure Sml (L : List (List Int × List Int)) (X Y : List Int) : Prop where
  l : L.length ≤ 30
  x : X.length ≤ 40
  y : Y.length ≤ 40
  m : ∀ p ∈ L, p.1.length ≤ 6 ∧ p.2.length ≤ 6
theorem os_get {L : List (List Int × List Int)} {i : Nat} (h : i < L.length) : ∃ r u, L[i]? = some (r, u) := ⟨_, _, List.getElem?_eq_getElem h⟩
theorem os_at {L : List (List Int × List Int)} {i q : Nat} {r u : List Int} (he : L[i]? = some (r, u)) (hq : q = 2 * i) : partP t45 ((flO L).drop q) 0 = some (pO r u) := by
  have hfl : (flO L).length = 2 * L.length := flO_len
  have hi : i < L.length := (List.getElem?_eq_some_iff.1 he).1
  show (if 0 + 2 ≤ ((flO L).drop q).length then some (PV.agg ((((flO L).drop q).drop 0).take 2)) else none) = _
  rw [if_pos (by rw [List.length_drop, hfl]; omega), List.drop_zero, flO_at he hq]
  rfl
theorem os_ix {L : List (List Int × List Int)} {i : Nat} (h : i < L.length) : i * 2 ≤ (flO L).length := by rw [flO_len]; omega
theorem fn42 : ctx.fn 42 = some c42 := by kernel_rfl
theorem small_big (hS : OldO S) {n : Nat} {cs : List PV} {X Y : List Int} (hn : 30 < n) (hb : n < 9223372036854775808) : Ct (ctx.plus S) 42 [.agg [.lst n cs, pIs X, pIs Y]] 100 fun r => r = .bool false := by
  refine ct_of (hS 42 (by decide)) fn42 ?_
  refine ⟨by omega, ?_⟩
  refine ⟨_, rfl, ?_⟩
  refine ⟨fun h => ?_, fun h => ?_⟩
  · exact endq rfl rfl
  · exact absurd h (by show ¬ (n : Int) ≤ 30; omega)
theorem small_ct (hS : OldO S) {L : List (List Int × List Int)} {X Y : List Int} : Ct (ctx.plus S) 42 [pB L X Y] 100 fun r => (Sml L X Y ∧ r = .bool true) ∨ (¬ Sml L X Y ∧ r = .bool false) := by
  refine ct_of (hS 42 (by decide)) fn42 ?_
  refine ⟨by omega, ?_⟩
  refine ⟨_, rfl, ?_⟩
  refine ⟨fun h => ?_, fun h => ?_⟩
  · have h : (30 : Int) < (L.length : Nat) := h
    exact endq rfl (.inr ⟨fun hs => by have := hs.l; omega, rfl⟩)
  have hl : (L.length : Int) ≤ 30 := h
  refine ⟨_, rfl, ?_⟩
  refine ⟨fun h => ?_, fun h => ?_⟩
  · exact endq rfl (.inr ⟨fun hs => by have := hs.x; omega, rfl⟩)
  refine ⟨_, rfl, ?_⟩
  refine ⟨fun h2 => ?_, fun h2 => ?_⟩
  · exact endq rfl (.inr ⟨fun hs => by have := hs.y; omega, rfl⟩)
  refine ⟨fun m s => ∃ (i b : Nat) (T : List PV), s = ⟨T, [.live 56 [pOs L, pIs X, pIs Y]], b⟩ ∧ Gt T 34 [(1, .optr 0 0), (3, pn i)] ∧ m = L.length - i ∧ i ≤ L.length ∧ b ≤ 1 + i ∧ Hid (∀ p ∈ L.take i, p.1.length ≤ 6 ∧ p.2.length ≤ 6), ⟨_, ci ⟨0, 1, _, rfl, ⟨rfl, rfl, rfl, trivial⟩, rfl, Nat.zero_le _, Nat.le_refl _, ⟨fun p hp => by simp at hp⟩⟩⟩, ?_⟩
  rintro _ s ⟨i, b, T, rfl, hT, rfl, hi, hb, hz⟩
  obtain ⟨J, rfl⟩ := gt_open hT
  clear hT
  refine ⟨_, rfl, ?_⟩
  refine ⟨fun hlt => ?_, fun hge => ?_⟩
  · have hlt : (i : Int) < (L.length : Nat) := hlt
    obtain ⟨r, u, he⟩ := os_get (L := L) (i := i) (by omega)
    refine ⟨_, rfl, ?_⟩
    refine ⟨⟨⟨by omega, by show (i : Int) < (L.length : Nat); omega⟩, os_ix (by omega)⟩, ?_⟩
    refine ⟨_, os_at he (by show _ * 2 = _; omega), ?_⟩
    refine callq rfl (fewK_ct S hS (r := r) (u := u) (k := 6)) (by omega) ?_
    rintro _ (⟨hf, rfl⟩ | ⟨hf, rfl⟩)
    · refine ⟨⟨by omega, by omega⟩, ?_⟩
      exact ⟨_, by omega, ci ⟨i + 1, _, _, rfl, ⟨rfl, rfl, rfl, trivial⟩, rfl, by omega, by omega, ⟨fun p hp => by
        rw [List.take_add_one, he] at hp
        rcases List.mem_append.1 hp with hp | hp
        · exact hz.h p hp
        · simp at hp; subst hp; exact ⟨by show r.length ≤ 6; have := hf.1; omega, by show u.length ≤ 6; have := hf.2; omega⟩⟩⟩⟩
    · exact endq rfl (.inr ⟨fun hs => hf (by have h1 : r.length ≤ 6 ∧ u.length ≤ 6 := hs.m _ (List.mem_of_getElem? he); exact ⟨by omega, by omega⟩), rfl⟩)
  · have hge : ((L.length : Nat) : Int) ≤ i := hge
    have hz2 := hz.h
    rw [List.take_of_length_le (by omega)] at hz2
    exact endq rfl (.inl ⟨⟨by omega, by omega, by omega, hz2⟩, rfl⟩)
theorem fn98 : ctx.fn 98 = some c98 := by kernel_rfl
theorem has_ct (hS : OldO S) {xs : List Int} {y : Int} (hx : xs.length ≤ 1000000) : Ct (ctx.plus S) 98 [pIs xs, pn y] 0 fun w => w = .bool (decide (y ∈ xs)) := by
  refine ct_of (hS 98 (by decide)) fn98 ?_
  refine ⟨fun m s => ∃ (i : Nat) (T : List PV), s = ⟨T, [], 0⟩ ∧ Gt T 18 [(0, pIs xs), (1, pn y), (5, pn i)] ∧ m = xs.length - i ∧ i ≤ xs.length ∧ Hid (y ∉ xs.take i), ⟨_, ci ⟨0, _, rfl, ⟨rfl, rfl, rfl, rfl, trivial⟩, rfl, Nat.zero_le _, ⟨by simp⟩⟩⟩, ?_⟩
  rintro _ s ⟨i, T, rfl, hT, rfl, hi, hn⟩
  obtain ⟨J, rfl⟩ := gt_open hT
  clear hT
  refine ⟨fun hlt => ?_, fun hge => ?_⟩
  · obtain ⟨a, ha⟩ := xs_get (xs := xs) (i := i) (by omega)
    refine ⟨⟨⟨by omega, by omega⟩, len_map_le (by omega)⟩, ?_⟩
    refine ⟨_, ld (at_map ha) (by show _ * 1 = i; omega), ?_⟩
    refine ⟨fun h => ?_, fun h => ?_⟩
    · have h : a = y := h
      subst h
      exact endq rfl (by rw [decide_eq_true (List.mem_of_getElem? ha)])
    · have h : ¬ a = y := h
      refine ⟨⟨by omega, by omega⟩, ?_⟩
      exact ⟨_, by omega, ci ⟨i + 1, _, rfl, ⟨rfl, rfl, rfl, rfl, trivial⟩, rfl, by omega, ⟨fun hp => by
        rw [List.take_add_one, ha] at hp
        rcases List.mem_append.1 hp with hp | hp
        · exact hn.h hp
        · simp at hp; exact h hp.symm⟩⟩⟩
  · have := hn.h
    rw [List.take_of_length_le (by omega)] at this
    exact endq rfl (by rw [decide_eq_false this])
theorem fn197 : ctx.fn 197 = some c197 := by kernel_rfl
theorem ixInt_ct (hS : OldO S) {xs : List Int} {y : Int} (hx : xs.length ≤ 1000000) : Ct (ctx.plus S) 197 [pIs xs, pn y] 0 fun w => ∃ k : Int, w = pn k ∧ (0 ≤ k ↔ y ∈ xs) := by
  refine ct_of (hS 197 (by decide)) fn197 ?_
  refine ⟨fun m s => ∃ (i : Nat) (T : List PV), s = ⟨T, [], 0⟩ ∧ Gt T 19 [(0, pIs xs), (1, pn y), (6, pIs xs), (7, pn xs.length), (8, pn i)] ∧ m = xs.length - i ∧ i ≤ xs.length ∧ Hid (y ∉ xs.take i), ⟨_, ci ⟨0, _, rfl, ⟨rfl, rfl, rfl, rfl, rfl, rfl, trivial⟩, rfl, Nat.zero_le _, ⟨by simp⟩⟩⟩, ?_⟩
  rintro _ s ⟨i, T, rfl, hT, rfl, hi, hn⟩
  obtain ⟨J, rfl⟩ := gt_open hT
  clear hT
  refine ⟨fun hlt => ?_, fun hge => ?_⟩
  · obtain ⟨a, ha⟩ := xs_get (xs := xs) (i := i) (by omega)
    refine ⟨⟨⟨by omega, by omega⟩, len_map_le (by omega)⟩, ?_⟩
    refine ⟨_, ld (at_map ha) (by show _ * 1 = i; omega), ?_⟩
    refine ⟨fun h => ?_, fun h => ?_⟩
    · have h : y = a := h
      subst h
      exact endq rfl ⟨i, rfl, fun _ => List.mem_of_getElem? ha, fun _ => by omega⟩
    · have h : ¬ y = a := h
      refine ⟨⟨by omega, by omega⟩, ?_⟩
      exact ⟨_, by omega, ci ⟨i + 1, _, rfl, ⟨rfl, rfl, rfl, rfl, rfl, rfl, trivial⟩, rfl, by omega, ⟨fun hp => by
        rw [List.take_add_one, ha] at hp
        rcases List.mem_append.1 hp with hp | hp
        · exact hn.h hp
        · simp at hp; exact h hp⟩⟩⟩
  · have := hn.h
    rw [List.take_of_length_le (by omega)] at this
    exact endq rfl ⟨-1, rfl, fun h => absurd h (by decide), fun h => absurd h this⟩
theorem fn152 : ctx.fn 152 = some c152 := by kernel_rfl
theorem contInt_ct (hS : OldO S) {xs : List Int} {y : Int} (hx : xs.length ≤ 1000000) : Ct (ctx.plus S) 152 [pIs xs, pn y] 0 fun w => w = .bool (decide (y ∈ xs)) := by
  refine ct_of (hS 152 (by decide)) fn152 ?_
  refine callq rfl (ixInt_ct S hS hx) (by omega) ?_
  rintro _ ⟨k, rfl, hk⟩
  by_cases h : y ∈ xs
  · rw [decide_eq_true h]
    exact ⟨fun _ => endq rfl rfl, fun h2 => absurd (hk.2 h) (by omega)⟩
  · rw [decide_eq_false h]
    exact ⟨fun h2 => absurd (hk.1 h2) h, fun _ => endq rfl rfl⟩
end Go.PI
/- WHERE AN ORIGAMI STANDS IN A SLICE; members; the label alone. -/
open Go.Proofs
namespace Go.PI
open IM
set_option maxRecDepth 10000
set_option maxHeartbeats 4000000
variable (S : FuncId → Option (List AV → Heap → Option (AV × Heap)))
def AtL (L : List (List Int × List Int)) (p : List Int × List Int) (k : Int) : Prop := (k = -1 ∧ p ∉ L) ∨ ∃ i : Nat, k = i ∧ L[i]? = some p ∧ ∀ j, j < i → L[j]? ≠ some p
theorem fn57 : ctx.fn 57 = some c57 := by kernel_rfl
theorem atO_ct (hS : OldO S) {L : List (List Int × List Int)} {r u : List Int} (hL : L.length ≤ 2000) (hm : ∀ p ∈ L, p.1.length ≤ 1000000 ∧ p.2.length ≤ 1000000) (hr : r.length ≤ 1000000) (hu : u.length ≤ 1000000) :
    Ct (ctx.plus S) 57 [pOs L, pO r u] (2 * L.length + 1) fun w => ∃ k : Int, w = pn k ∧ AtL L (r, u) k := by
  refine ct_of (hS 57 (by decide)) fn57 ?_
  refine ⟨by omega, ?_⟩
  refine ⟨fun m s => ∃ (i b : Nat) (T : List PV), s = ⟨T, [.live 45 [pIs r, pIs u]], b⟩ ∧ Gt T 19 [(0, pOs L), (3, .optr 0 0), (5, pn i)] ∧ m = L.length - i ∧ i ≤ L.length ∧ b ≤ 1 + 2 * i ∧ Hid (∀ j, j < i → L[j]? ≠ some (r, u)), ⟨_, ci ⟨0, _, _, rfl, ⟨rfl, rfl, rfl, rfl, trivial⟩, rfl, Nat.zero_le _, by omega, ⟨fun j hj => by omega⟩⟩⟩, ?_⟩
  rintro _ s ⟨i, b, T, rfl, hT, rfl, hi, hb, hz⟩
  obtain ⟨J, rfl⟩ := gt_open hT
  clear hT
  refine ⟨fun hlt => ?_, fun hge => ?_⟩
  · have hlt : (i : Int) < (L.length : Nat) := hlt
    obtain ⟨r2, u2, he⟩ := os_get (L := L) (i := i) (by omega)
    obtain ⟨l1, l2⟩ := hm _ (List.mem_of_getElem? he)
    refine ⟨by kernel_rfl, ?_⟩
    refine ⟨⟨⟨by omega, by show (i : Int) < (L.length : Nat); omega⟩, os_ix (by omega)⟩, ?_⟩
    refine ⟨_, os_at he (by show _ * 2 = _; omega), rfl, ?_⟩
    refine ⟨_, rfl, rfl, ?_⟩
    refine callq rfl (sameO_ct S hS l1 l2 hr hu) (by omega) ?_
    rintro _ rfl
    by_cases hq : r2 = r ∧ u2 = u
    · rw [decide_eq_true hq]
      obtain ⟨rfl, rfl⟩ := hq
      exact endq rfl ⟨_, rfl, .inr ⟨i, rfl, he, hz.h⟩⟩
    · rw [decide_eq_false hq]
      refine ⟨⟨by omega, by omega⟩, ?_⟩
      exact ⟨_, by omega, ci ⟨i + 1, _, _, rfl, ⟨rfl, rfl, rfl, rfl, trivial⟩, rfl, by omega, by omega, ⟨fun j hj => by
        by_cases e : j = i
        · subst e
          rw [he]
          intro h
          simp only [Option.some.injEq, Prod.mk.injEq] at h
          exact hq h
        · exact hz.h j (by omega)⟩⟩⟩
  · have hge : ((L.length : Nat) : Int) ≤ i := hge
    refine endq rfl ⟨-1, rfl, .inl ⟨rfl, fun hmem => ?_⟩⟩
    obtain ⟨j, hj⟩ := List.getElem?_of_mem hmem
    have := (List.getElem?_eq_some_iff.1 hj).1
    exact hz.h j (by omega) hj
theorem fn106 : ctx.fn 106 = some c106 := by kernel_rfl
theorem member_ct (hS : OldO S) {L : List (List Int × List Int)} {X Y : List Int} {k : Int} (hL : L.length ≤ 2000) : Ct (ctx.plus S) 106 [pB L X Y, pn k] 1 fun w => w = .bool (decide (0 ≤ k ∧ k ≤ (L.length : Int) - 1)) := by
  refine ct_of (hS 106 (by decide)) fn106 ?_
  refine ⟨by omega, ?_⟩
  refine ⟨_, rfl, ?_⟩
  have hLi : ((L.length : Nat) : Int) ≤ 2000 := by omega
  refine ⟨⟨by show _ ≤ ((L.length : Nat) : Int) - 1; omega, by show ((L.length : Nat) : Int) - 1 < _; omega⟩, ?_⟩
  refine callq rfl (owithin_ct S hS (n := k) (a := 0) (b := (L.length : Int) - 1)) (by omega) ?_
  rintro _ rfl
  exact endq rfl rfl
theorem fn139 : ctx.fn 139 = some c139 := by kernel_rfl
theorem labelOf_ct (hS : OldO S) {r u : List Int} {n : Nat} {f f' g g' : Nat → Nat} (ho : IsO r u n f f' g g') (hc : Conn n f g) :
    Ct (ctx.plus S) 139 [pO r u] 2010100 fun v => v = pO (Rs f g n (bst f g n n)) (Us f g n (bst f g n n)) := by
  refine ct_of (hS 139 (by decide)) fn139 ?_
  refine ⟨by omega, by omega, ?_⟩
  refine ⟨_, rfl, ?_⟩
  refine callq rfl (labelAll_ok S hS ho) (by omega) ?_
  rintro _ (⟨h, -⟩ | ⟨-, rfl⟩)
  · exact absurd hc h
  refine ⟨by omega, ?_⟩
  refine ⟨_, _, rfl, ⟨rfl, Nat.le_of_ble_eq_true rfl, rfl⟩, _, rfl, _, rfl, ?_⟩
  refine ⟨_, rfl, ?_⟩
  refine ⟨_, _, rfl, ⟨rfl, Nat.le_of_ble_eq_true rfl, rfl⟩, _, rfl, _, rfl, ?_⟩
  exact ⟨_, rfl, endq rfl rfl⟩
end Go.PI
