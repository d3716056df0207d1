/- Own work of the verifier: OtE. -/
import Derived.Test.YtefajaiioljjoaaOvAT
set_option linter.all false
set_option exponentiation.threshold 3000
set_option linter.deprecated false
/- PLACES OF SQUARES: what is known while they are found. -/
namespace Go.PI
def nbE (f g : Nat → Nat) (e : Bool) (w : Nat) : Nat := if e then f w else g w
def dxE (e : Bool) : Int := if e then 1 else 0
def dyE (e : Bool) : Int := if e then 0 else 1
abbrev Plc := Nat → Option (Int × Int)
def updP (Pl : Plc) (z : Nat) (p : Int × Int) : Plc := fun y => if y = z then some p else Pl y
def EdK (f g : Nat → Nat) (Pl : Plc) (A B C : Int) (e : Bool) (w : Nat) : Prop := ∃ ps pr, Pl w = some ps ∧ Pl (nbE f g e w) = some pr ∧ Ltt A B C (ps.1 + dxE e - pr.1) (ps.2 + dyE e - pr.2)
structure PM (n : Nat) (f f' g g' : Nat → Nat) (P Q : List Nat) (Pl : Plc) (A B C : Int) : Prop where
  nd : (P ++ Q).Nodup
  lt : ∀ y ∈ P ++ Q, y < n
  kn : ∀ y, (∃ p, Pl y = some p) ↔ y ∈ P ++ Q
  wk : ∀ y p, Pl y = some p → Wk f f' g g' y p.1 p.2
  bd : ∀ y p, Pl y = some p → 0 ≤ p.1 ∧ 0 ≤ p.2 ∧ p.1 + p.2 < (P ++ Q).length
  z : Pl 0 = some (0, 0)
  ed : ∀ s ∈ P, ∀ e, EdK f g Pl A B C e s
  per : Per f f' g g' A B C
  nf : NFm A B C
  bl : Bdl A B C
section
variable {n : Nat} {f f' g g' : Nat → Nat} {P Q : List Nat} {Pl : Plc} {A B C : Int}
theorem wk_e {s : Nat} {x y : Int} (h : Wk f f' g g' s x y) (e : Bool) : Wk f f' g g' (nbE f g e s) (x + dxE e) (y + dyE e) := by
  cases e with
  | true => exact h.r.cast rfl (by show y + 0 = y; omega)
  | false => exact h.u.cast (by show x + 0 = x; omega) rfl
theorem dE_pos (e : Bool) : 0 ≤ dxE e ∧ 0 ≤ dyE e ∧ dxE e + dyE e = 1 := by cases e <;> decide
theorem PM.len (h : PM n f f' g g' P Q Pl A B C) : (P ++ Q).length ≤ n := by
  have := len_le_of h.nd (m := List.range n) fun y hy => List.mem_range.2 (h.lt y hy)
  rwa [List.length_range] at this
theorem PM.start (h0 : 0 < n) : PM n f f' g g' [] [0] (updP (fun _ => none) 0 (0, 0)) 0 0 0 := by
  have k : ∀ y p, updP (fun _ => none) 0 (0, 0) y = some p → y = 0 ∧ p = (0, 0) := fun y p h => by
    unfold updP at h
    split at h
    · exact ⟨by assumption, (Option.some.inj h).symm⟩
    · cases h
  refine ⟨by simp, fun y hy => ?_, fun y => ⟨?_, fun hy => ?_⟩, fun y p h => ?_, fun y p h => ?_, rfl, fun s hs => (by cases hs), per_zero, nf_zero, bd_zero⟩
  · simp at hy; omega
  · rintro ⟨p, hp⟩
    rw [(k y p hp).1]; simp
  · simp at hy; subst hy; exact ⟨_, rfl⟩
  · obtain ⟨rfl, rfl⟩ := k y p h
    exact .o
  · obtain ⟨rfl, rfl⟩ := k y p h
    simp
theorem upd_old {z y : Nat} {p q : Int × Int} (hz : Pl z = none) (h : Pl y = some q) : updP Pl z p y = some q := by
  unfold updP
  rw [if_neg (fun e => by subst e; rw [hz] at h; cases h)]
  exact h
theorem upd_new {z : Nat} {p : Int × Int} : updP Pl z p z = some p := by unfold updP; rw [if_pos rfl]
theorem EdK.upd {z : Nat} {p : Int × Int} {e : Bool} {w : Nat} (hz : Pl z = none) (h : EdK f g Pl A B C e w) : EdK f g (updP Pl z p) A B C e w := by
  obtain ⟨ps, pr, h1, h2, h3⟩ := h
  exact ⟨ps, pr, upd_old hz h1, upd_old hz h2, h3⟩
theorem EdK.mono {X Y A' B' C' : Int} {e : Bool} {w : Nat} (he : ∀ x y, Ltt A' B' C' x y ↔ Spn A B C X Y x y) (h : EdK f g Pl A B C e w) : EdK f g Pl A' B' C' e w := by
  obtain ⟨ps, pr, h1, h2, h3⟩ := h
  exact ⟨ps, pr, h1, h2, ltt_mono he h3⟩
theorem PM.put (pf : IsP n f f') (pg : IsP n g g') {w : Nat} (h : PM n f f' g g' P (w :: Q) Pl A B C) {e : Bool} {ps : Int × Int} (hw : Pl w = some ps) (hz : Pl (nbE f g e w) = none) :
    PM n f f' g g' P (w :: (Q ++ [nbE f g e w])) (updP Pl (nbE f g e w) (ps.1 + dxE e, ps.2 + dyE e)) A B C ∧ EdK f g (updP Pl (nbE f g e w) (ps.1 + dxE e, ps.2 + dyE e)) A B C e w := by
  obtain ⟨z, hzz⟩ : ∃ z, nbE f g e w = z := ⟨_, rfl⟩
  have hwk := wk_e (h.wk w ps hw) e
  rw [hzz] at hz hwk ⊢
  have hb := h.bd w ps hw
  have hde := dE_pos e
  have hzn : z < n := by
    have hwn := h.lt w (by simp)
    rw [← hzz]; unfold nbE; split
    · exact pf.lt w hwn
    · exact pg.lt w hwn
  have hne : z ∉ P ++ w :: Q := fun hm => by
    obtain ⟨p, hp⟩ := (h.kn z).2 hm
    rw [hz] at hp; cases hp
  have hl : P ++ w :: (Q ++ [z]) = (P ++ w :: Q) ++ [z] := by simp
  refine ⟨⟨?_, fun y hy => ?_, fun y => ?_, fun y p hp => ?_, fun y p hp => ?_, upd_old hz h.z, fun s hs e' => (h.ed s hs e').upd hz, h.per, h.nf, h.bl⟩, ?_⟩
  · rw [hl]
    exact List.nodup_append.2 ⟨h.nd, by simp, fun a ha b hb2 => by rw [List.mem_singleton.1 hb2]; rintro rfl; exact hne ha⟩
  · rw [hl] at hy
    rcases List.mem_append.1 hy with hy | hy
    · exact h.lt y hy
    · rw [List.mem_singleton.1 hy]; exact hzn
  · rw [hl, List.mem_append, List.mem_singleton, ← h.kn y]
    unfold updP
    by_cases e2 : y = z
    · rw [if_pos e2]; exact ⟨fun _ => .inr e2, fun _ => ⟨_, rfl⟩⟩
    · rw [if_neg e2]; exact ⟨.inl, fun h => h.resolve_right e2⟩
  · unfold updP at hp
    by_cases e2 : y = z
    · rw [if_pos e2] at hp
      rw [e2, ← Option.some.inj hp]; exact hwk
    · rw [if_neg e2] at hp; exact h.wk y p hp
  · rw [hl, List.length_append, List.length_singleton]
    unfold updP at hp
    by_cases e2 : y = z
    · rw [if_pos e2] at hp
      rw [← Option.some.inj hp]
      refine ⟨by show 0 ≤ ps.1 + dxE e; omega, by show 0 ≤ ps.2 + dyE e; omega, by show ps.1 + dxE e + (ps.2 + dyE e) < _; omega⟩
    · rw [if_neg e2] at hp
      have := h.bd y p hp
      exact ⟨this.1, this.2.1, by omega⟩
  · refine ⟨ps, _, upd_old hz hw, by rw [hzz]; exact upd_new, ?_⟩
    exact Ltt.cast (x := 0) (y := 0) ⟨0, 0, by omega, by omega⟩ (by show ps.1 + dxE e - (ps.1 + dxE e) = 0; omega) (by show ps.2 + dyE e - (ps.2 + dyE e) = 0; omega)
theorem PM.diff (h : PM n f f' g g' P Q Pl A B C) (hn : n ≤ 12) {w z : Nat} {e : Bool} {ps pr : Int × Int} (hw : Pl w = some ps) (hz : Pl z = some pr) : (ps.1 + dxE e - pr.1).natAbs ≤ 12 ∧ (ps.2 + dyE e - pr.2).natAbs ≤ 12 := by
  have h1 := h.bd w ps hw
  have h2 := h.bd z pr hz
  have h3 := h.len
  have h4 := dE_pos e
  exact ⟨by omega, by omega⟩
theorem PM.span (pf : IsP n f f') (pg : IsP n g g') (h0 : 0 < n) (h : PM n f f' g g' P Q Pl A B C) {w : Nat} {e : Bool} {ps pr : Int × Int} (hw : Pl w = some ps) (hz : Pl (nbE f g e w) = some pr) {A' B' C' : Int} (hN : NFm A' B' C') (hB : Bdl A' B' C') (he : ∀ x y, Ltt A' B' C' x y ↔ Spn A B C (ps.1 + dxE e - pr.1) (ps.2 + dyE e - pr.2) x y) :
    PM n f f' g g' P Q Pl A' B' C' ∧ EdK f g Pl A' B' C' e w := by
  refine ⟨⟨h.nd, h.lt, h.kn, h.wk, h.bd, h.z, fun s hs e' => (h.ed s hs e').mono he, per_next pf pg h0 h.per ?_ he, hN, hB⟩, ps, pr, hw, hz, ltt_new he⟩
  exact wk_sub pf pg h0 (h.wk _ _ hz) (wk_e (h.wk _ _ hw) e)
theorem PM.pop {w : Nat} (h : PM n f f' g g' P (w :: Q) Pl A B C) (h1 : EdK f g Pl A B C true w) (h2 : EdK f g Pl A B C false w) : PM n f f' g g' (P ++ [w]) Q Pl A B C := by
  have hl : P ++ [w] ++ Q = P ++ w :: Q := by simp
  refine ⟨by rw [hl]; exact h.nd, by rw [hl]; exact h.lt, by rw [hl]; exact h.kn, h.wk, by rw [hl]; exact h.bd, h.z, fun s hs e => ?_, h.per, h.nf, h.bl⟩
  rcases List.mem_append.1 hs with hs | hs
  · exact h.ed s hs e
  · rw [List.mem_singleton.1 hs]
    cases e with
    | true => exact h1
    | false => exact h2
theorem PM.fin (hcn : Conn n f g) (h0 : 0 < n) (h : PM n f f' g g' P [] Pl A B C) : ∃ px py, Edg n f g px py A B C := by
  have hk : ∀ y, Rch f g 0 y → y ∈ P := fun y hr => by
    have m0 : ∀ y p, Pl y = some p → y ∈ P := fun y p hp => by
      have := (h.kn y).1 ⟨p, hp⟩
      rwa [List.append_nil] at this
    induction hr with
    | refl => exact m0 _ _ h.z
    | f _ ih => obtain ⟨ps, pr, -, h2, -⟩ := h.ed _ ih true; exact m0 _ _ h2
    | g _ ih => obtain ⟨ps, pr, -, h2, -⟩ := h.ed _ ih false; exact m0 _ _ h2
  have gt : ∀ {y p}, Pl y = some p → ((Pl y).getD (0, 0)) = p := fun {y p} hp => by rw [hp]; rfl
  refine ⟨fun y => ((Pl y).getD (0, 0)).1, fun y => ((Pl y).getD (0, 0)).2, by show ((Pl 0).getD (0, 0)).1 = 0; rw [gt h.z], by show ((Pl 0).getD (0, 0)).2 = 0; rw [gt h.z], fun s hs => ?_, fun s hs => ?_⟩
  · obtain ⟨ps, pr, h1, h2, h3⟩ := h.ed s (hk s (hcn s hs)) true
    have h2 : Pl (f s) = some pr := h2
    show Ltt A B C (((Pl s).getD (0, 0)).1 + 1 - ((Pl (f s)).getD (0, 0)).1) (((Pl s).getD (0, 0)).2 - ((Pl (f s)).getD (0, 0)).2)
    rw [gt h1, gt h2]
    exact h3.cast rfl (by show ps.2 - pr.2 = ps.2 + 0 - pr.2; omega)
  · obtain ⟨ps, pr, h1, h2, h3⟩ := h.ed s (hk s (hcn s hs)) false
    have h2 : Pl (g s) = some pr := h2
    show Ltt A B C (((Pl s).getD (0, 0)).1 - ((Pl (g s)).getD (0, 0)).1) (((Pl s).getD (0, 0)).2 + 1 - ((Pl (g s)).getD (0, 0)).2)
    rw [gt h1, gt h2]
    exact h3.cast (by show ps.1 - pr.1 = ps.1 + 0 - pr.1; omega) rfl
end
end Go.PI
