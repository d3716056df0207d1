/- Own work of the verifier: OrCn OrCo. -/
import Derived.Test.YtoppgcfijjndfaaGreatDoorOqBD
set_option linter.all false
set_option exponentiation.threshold 3000
set_option linter.deprecated false
/- CHECKORBIT, of the reference. -/
open Go.Proofs
namespace Go.PI
open IM
set_option maxRecDepth 10000
set_option maxHeartbeats 4000000
variable (S : FuncId → Option (List AV → Heap → Option (AV × Heap)))
theorem at_iff {L : OL} {n : Nat} {o : Nat → O4} (hA : AllOk L n o) {p : List Int × List Int} {k : Int} (h : AtL L p k) {x : Nat} (hx : x < L.length) : (x : Int) = k ↔ L[x]? = some p := by
  constructor
  · intro e
    rcases h with ⟨rfl, -⟩ | ⟨i, rfl, h1, -⟩
    · omega
    · rw [show x = i by omega]; exact h1
  · intro e
    rcases h with ⟨-, h2⟩ | ⟨i, rfl, h1, h2⟩
    · exact absurd (List.mem_of_getElem? e) h2
    · rcases Nat.lt_trichotomy x i with h | h | h
      · exact absurd e (h2 x h)
      · omega
      · have hi : i < L.length := by omega
        refine absurd ?_ (mem_one hA hx h)
        have e1 := (memO_get hx).symm.trans e
        have e2 := (memO_get hi).symm.trans h1
        rw [Option.some.inj e1, Option.some.inj e2]
theorem fn82 : ctx.fn 82 = some c82 := by kernel_rfl
theorem bwithin_ct (hS : OldO S) {n a b : Int} : Ct (ctx.plus S) 82 [pn n, pn a, pn b] 0 fun r => r = .bool (decide (a ≤ n ∧ n ≤ b)) := by
  refine ct_of (hS 82 (by decide)) fn82 ?_
  refine ⟨fun h1 => ?_, fun h1 => ?_⟩
  · refine ⟨fun h2 => ?_, fun h2 => ?_⟩
    · exact endq rfl (by rw [decide_eq_true ⟨by omega, by omega⟩])
    · exact endq rfl (by rw [decide_eq_false (by omega)])
  · exact endq rfl (by rw [decide_eq_false (by omega)])
theorem fn43 : ctx.fn 43 = some c43 := by kernel_rfl
theorem rCheckOrbit_ct (hS : OldO S) {L : OL} {X Y : List Int} (hs : Sml L X Y) {n : Nat} {o : Nat → O4} (hG : ¬ Bad0 L X Y → (∀ i, i < L.length → okM L i = 0) → AllOk L n o) :
    Ct (ctx.plus S) 43 [pB L X Y] 400000000 fun w => ∃ e : Int, w = pn e ∧ Ans L X Y n o e := by
  have hL := hs.l
  have hx := hs.x
  have hy := hs.y
  refine ct_of (hS 43 (by decide)) fn43 ?_
  refine ⟨by omega, ?_⟩
  refine ⟨_, rfl, ?_⟩
  refine ⟨fun h0 => ?_, fun h0 => ?_⟩
  · exact endq rfl ⟨10, rfl, .inl ⟨.inl (by have h : ((L.length : Nat) : Int) = 0 := h0; omega), rfl⟩⟩
  have h0 : L.length ≠ 0 := fun e => h0 (by show ((L.length : Nat) : Int) = 0; omega)
  refine ⟨_, rfl, ?_⟩
  refine ⟨fun h1 => ?_, fun h1 => ?_⟩
  · exact endq rfl ⟨10, rfl, .inl ⟨.inr (.inl fun e => h1 (by show ((X.length : Nat) : Int) = (L.length : Nat); omega)), rfl⟩⟩
  have h1 : X.length = L.length := by have h : ((X.length : Nat) : Int) = (L.length : Nat) := h1; omega
  refine ⟨_, rfl, ?_⟩
  refine ⟨fun h2 => ?_, fun h2 => ?_⟩
  · exact endq rfl ⟨10, rfl, .inl ⟨.inr (.inr fun e => h2 (by show ((Y.length : Nat) : Int) = (L.length : Nat); omega)), rfl⟩⟩
  have h2 : Y.length = L.length := by have h : ((Y.length : Nat) : Int) = (L.length : Nat) := h2; omega
  have hB : ¬ Bad0 L X Y := by unfold Bad0; omega
  refine ⟨fun h3 => by have h : ((L.length : Nat) : Int) > 2000 := h3; omega, fun _ => ?_⟩
  refine ⟨fun m s => ∃ (i b : Nat) (σ : List StB) (T : List PV), s = ⟨T, σ, b⟩ ∧ Gt T 147 [(1, .optr 0 0), (3, pn L.length), (4, pn i)] ∧ m = L.length - i ∧ i ≤ L.length ∧ b ≤ 100 + i * 1000000 ∧ Hid (σ[0]? = some (.live 56 [pOs L, pIs X, pIs Y]) ∧ ∀ j, j < i → okM L j = 0), ⟨_, ci ⟨0, _, _, _, rfl, ⟨rfl, rfl, rfl, rfl, trivial⟩, rfl, Nat.zero_le _, by omega, ⟨rfl, fun w' h => by omega⟩⟩⟩, ?_⟩
  rintro _ s ⟨i, b, σ, T, rfl, hT, rfl, hi, hb, hh⟩
  obtain ⟨J, rfl⟩ := gt_open hT
  clear hT
  obtain ⟨s0, hI⟩ := hh.h
  clear hh
  refine ⟨fun hlt => ?_, fun hge => ?_⟩
  · have hil : i < L.length := by omega
    have m1 := hs.m _ (List.mem_of_getElem? (memO_get hil))
    have g0 := memO_get (L := L) (i := 0) (by omega)
    have m0 := hs.m _ (List.mem_of_getElem? g0)
    have gi := memO_get hil
    have hM : okM L i = okO (memO L 0).1.length (if i = 0 then none else some (memO L (i - 1))) (memO L i).1 (memO L i).2 := rfl
    obtain ⟨r, u, hru⟩ : ∃ r u, memO L i = (r, u) := ⟨_, _, rfl⟩
    obtain ⟨r0, u0, hru0⟩ : ∃ r u, memO L 0 = (r, u) := ⟨_, _, rfl⟩
    rw [hru] at gi m1 hM
    rw [hru0] at g0 m0 hM
    simp only at m1 m0 hM
    refine ⟨_, load_k rfl rfl (contOf_live s0) (show [pOs L, pIs X, pIs Y][0]? = some (pOs L) from rfl) rfl, ?_⟩
    refine ⟨⟨⟨by omega, by show (i : Int) < (L.length : Nat); omega⟩, os_ix hil⟩, ?_⟩
    refine ⟨_, os_at gi (by show _ * 2 = _; omega), ?_⟩
    refine ⟨by omega, ?_⟩
    refine ⟨_, _, push_get, ⟨rfl, Nat.le_of_ble_eq_true rfl, rfl⟩, _, rfl, _, push_set, ?_⟩
    refine ⟨_, load_agg S rfl push_cont rfl, ?_⟩
    refine callq (ps := [pO r u]) rfl (rcheck_ct S hS (by omega) (by omega)) (by omega) ?_
    rintro _ rfl
    refine ⟨fun hb0 => ?_, fun hb0 => ?_⟩
    · have hv : okM L i = chkO r u := hM.trans (okO_bad hb0)
      exact endq rfl ⟨_, rfl, .inr (.inl ⟨hB, i, hil, by rw [hv]; exact hb0, hI, hv.symm⟩)⟩
    have hb0 : chkO r u = 0 := hb0
    obtain ⟨w, hw⟩ : ∃ w, w = ow hb0 := ⟨_, rfl⟩
    have e1 := congrArg List.length w.h.hr
    have e2 := congrArg List.length w.h.hu
    rw [PL_len] at e1 e2
    have wpos := w.h.pos
    have wle := w.h.le
    refine ⟨by kernel_rfl, ?_⟩
    refine ⟨_, load_agg S rfl push_cont rfl, rfl, ?_⟩
    refine callq (ps := [pO r u]) rfl (size_ct S hS) (by omega) ?_
    rintro _ rfl
    refine ⟨_, load_k rfl rfl (contOf_live (push_old s0)) (show [pOs L, pIs X, pIs Y][0]? = some (pOs L) from rfl) rfl, rfl, ?_⟩
    refine ⟨⟨⟨by omega, by show (0 : Int) < (L.length : Nat); omega⟩, os_ix (by omega)⟩, ?_⟩
    refine ⟨_, os_at g0 (by rfl), rfl, ?_⟩
    refine callq rfl (size_ct S hS) (by omega) ?_
    rintro _ rfl
    refine ⟨fun hne => ?_, fun heq => ?_⟩
    · have hne : r.length ≠ r0.length := fun e => hne (by show ((r.length : Nat) : Int) = (r0.length : Nat); omega)
      have hv : okM L i = 10 := hM.trans (okO_len hb0 hne)
      exact endq rfl ⟨_, rfl, .inr (.inl ⟨hB, i, hil, by rw [hv]; decide, hI, hv.symm⟩)⟩
    have heq : r.length = r0.length := by have h : ((r.length : Nat) : Int) = (r0.length : Nat) := heq; omega
    refine ⟨_, load_agg S rfl push_cont rfl, ?_⟩
    refine callq (ps := [pO r u]) rfl (rconnected_ct S hS w.h) (by omega) ?_
    rintro _ (⟨hc, rfl⟩ | ⟨hc, rfl⟩)
    rotate_left
    · have hv : okM L i = 16 := hM.trans (okO_con hb0 heq (by rw [← hw]; exact hc))
      exact endq rfl ⟨_, rfl, .inr (.inl ⟨hB, i, hil, by rw [hv]; decide, hI, hv.symm⟩)⟩
    have hlab := rlab_ct S hS (n := w.n) (o := ⟨w.f, w.f', w.g, w.g'⟩) wpos wle ⟨w.h.pr, w.h.pu⟩ hc
    have hp4 : p4 w.n ⟨w.f, w.f', w.g, w.g'⟩ = pO r u := by
      show pO (PL w.n w.f) (PL w.n w.g) = pO r u
      rw [← w.h.hr, ← w.h.hu]
    rw [hp4] at hlab
    refine ⟨by kernel_rfl, ?_⟩
    refine ⟨_, load_agg S rfl push_cont rfl, rfl, ?_⟩
    refine callq (ps := [pO r u]) rfl hlab (by omega) ?_
    rintro _ rfl
    refine ⟨_, load_agg S rfl push_cont rfl, rfl, ?_⟩
    have hsame := sameO_ct S hS (t := w.R) (b := w.U) (t' := r) (b' := u) (by unfold OW.R; rw [Rs_len]; omega) (by unfold OW.U; rw [Us_len]; omega) (by omega) (by omega)
    refine callq (ps := [pO w.R w.U, pO r u]) rfl hsame (by omega) ?_
    rintro _ rfl
    by_cases hl : w.R = r ∧ w.U = u
    rotate_left
    · rw [decide_eq_false hl]
      have hv : okM L i = 3 := hM.trans (okO_lab hb0 heq (by rw [← hw]; exact hc) (by rw [← hw]; exact hl))
      exact endq rfl ⟨_, rfl, .inr (.inl ⟨hB, i, hil, by rw [hv]; decide, hI, hv.symm⟩)⟩
    rw [decide_eq_true hl]
    refine ⟨by kernel_rfl, ?_⟩
    have step : okM L i = 0 → ∀ j, j < i + 1 → okM L j = 0 := fun h j hj => by
      rcases Nat.lt_or_ge j i with hji | hji
      · exact hI j hji
      · rw [show j = i by omega]; exact h
    refine ⟨fun hi0 => ?_, fun hi0 => ?_⟩
    · have hi0 : 0 < i := by omega
      obtain ⟨p1, p2⟩ := okM_prev (hI (i - 1) (by omega))
      have gp := memO_get (L := L) (i := i - 1) (by omega)
      obtain ⟨r1, u1, hru1⟩ : ∃ r u, memO L (i - 1) = (r, u) := ⟨_, _, rfl⟩
      rw [hru0, hru1] at p1 p2
      rw [hru1] at gp
      rw [if_neg (show i ≠ 0 by omega), hru1] at hM
      simp only at p1 p2
      refine ⟨_, load_k rfl rfl (contOf_live (push_old s0)) (show [pOs L, pIs X, pIs Y][0]? = some (pOs L) from rfl) rfl, rfl, ?_⟩
      refine ⟨⟨by omega, by omega⟩, ?_⟩
      refine ⟨⟨⟨by omega, by show (i : Int) - 1 < (L.length : Nat); omega⟩, by show ((i : Int) - 1).toNat * 2 ≤ _; rw [flO_len]; omega⟩, ?_⟩
      refine ⟨_, os_at gp (by show _ * 2 = _; omega), rfl, ?_⟩
      refine ⟨_, load_agg S rfl push_cont rfl, rfl, ?_⟩
      have hbef := before_ct S hS (R := r1) (U := u1) (R' := r) (U' := u) (fun e => by rw [e] at p1; simp at p1; omega) (by omega) (by omega) (by omega) (by omega)
      refine callq (ps := [pO r1 u1, pO r u]) rfl hbef (by omega) ?_
      rintro _ (⟨hlt, rfl⟩ | ⟨hlt, rfl⟩)
      · have hv : okM L i = 0 := hM.trans (okO_less hb0 heq (by rw [← hw]; exact hc) (by rw [← hw]; exact hl) hlt)
        refine ⟨⟨by omega, by omega⟩, ?_⟩
        exact ⟨_, by omega, ci ⟨i + 1, _, _, _, rfl, ⟨rfl, rfl, rfl, rfl, trivial⟩, rfl, by omega, by omega, ⟨push_old s0, step hv⟩⟩⟩
      · have hv : okM L i = 9 := hM.trans (okO_not hb0 heq (by rw [← hw]; exact hc) (by rw [← hw]; exact hl) hlt)
        exact endq rfl ⟨_, rfl, .inr (.inl ⟨hB, i, hil, by rw [hv]; decide, hI, hv.symm⟩)⟩
    · have hi0 : i = 0 := by omega
      rw [if_pos hi0] at hM
      have hv : okM L i = 0 := hM.trans (by rw [okO_ord hb0 heq (by rw [← hw]; exact hc) (by rw [← hw]; exact hl)])
      refine ⟨⟨by omega, by omega⟩, ?_⟩
      exact ⟨_, by omega, ci ⟨i + 1, _, _, _, rfl, ⟨rfl, rfl, rfl, rfl, trivial⟩, rfl, by omega, by omega, ⟨push_old s0, step hv⟩⟩⟩
  · have hall : ∀ i, i < L.length → okM L i = 0 := fun j hj => hI j (by omega)
    have hA := hG hB hall
    have fin : ∀ e, Ans2 L X Y n o e → Ans L X Y n o e := fun e h => .inr (.inr ⟨hB, hall, h⟩)
    obtain ⟨b0, hb0⟩ : ∃ b0, b0 = b := ⟨_, rfl⟩
    have hbb : b ≤ 100000000 := by omega
    clear hb hI hG hge
    refine ⟨fun m s => ∃ (j : Nat) (T : List PV), s = ⟨T, σ, b⟩ ∧ Gt T 147 [(1, .optr 0 0), (3, pn L.length), (7, pn j)] ∧ m = L.length - j ∧ j ≤ L.length ∧ Hid (∀ k ∈ X.take j, 0 ≤ k ∧ k ≤ (L.length : Int) - 1), ⟨_, ci ⟨0, _, rfl, ⟨rfl, rfl, rfl, rfl, trivial⟩, rfl, Nat.zero_le _, ⟨fun k h => by simp at h⟩⟩⟩, ?_⟩
    rintro _ s ⟨j, T, rfl, hT, rfl, hj, hh⟩
    obtain ⟨J, rfl⟩ := gt_open hT
    clear hT
    have hR := hh.h
    clear hh
    refine ⟨fun hlt => ?_, fun hge => ?_⟩
    · obtain ⟨k, hk⟩ := xs_get (xs := X) (i := j) (by omega)
      refine ⟨_, load_k rfl rfl (contOf_live s0) (show [pOs L, pIs X, pIs Y][1]? = some (pIs X) from rfl) rfl, ?_⟩
      refine ⟨⟨⟨by omega, by omega⟩, len_map_le (by omega)⟩, ?_⟩
      refine ⟨_, ld (at_map hk) (by show _ * 1 = j; omega), ?_⟩
      refine ⟨⟨by omega, by omega⟩, ?_⟩
      refine callq rfl (bwithin_ct S hS) (by omega) ?_
      rintro _ rfl
      by_cases hin : 0 ≤ k ∧ k ≤ (L.length : Int) - 1
      · rw [decide_eq_true hin]
        refine ⟨⟨by omega, by omega⟩, ?_⟩
        exact ⟨_, by omega, ci ⟨j + 1, _, rfl, ⟨rfl, rfl, rfl, rfl, trivial⟩, rfl, by omega, ⟨fun x hx => by
          rw [take_snoc hk] at hx
          rcases List.mem_append.1 hx with hx | hx
          · exact hR x hx
          · rw [List.mem_singleton.1 hx]; exact hin⟩⟩⟩
      · rw [decide_eq_false hin]
        exact endq rfl ⟨2, rfl, fin _ (.inl ⟨fun h => hin (h.1 k (List.mem_of_getElem? hk)), rfl⟩)⟩
    have rX : Rg L X := fun k hk => hR k (by rw [List.take_of_length_le (by omega)]; exact hk)
    clear hR hge
    refine ⟨fun m s => ∃ (j : Nat) (T : List PV), s = ⟨T, σ, b⟩ ∧ Gt T 147 [(1, .optr 0 0), (3, pn L.length), (8, pn j)] ∧ m = L.length - j ∧ j ≤ L.length ∧ Hid (∀ k ∈ Y.take j, 0 ≤ k ∧ k ≤ (L.length : Int) - 1), ⟨_, ci ⟨0, _, rfl, ⟨rfl, rfl, rfl, rfl, trivial⟩, rfl, Nat.zero_le _, ⟨fun k h => by simp at h⟩⟩⟩, ?_⟩
    rintro _ s ⟨j, T, rfl, hT, rfl, hj, hh⟩
    obtain ⟨J, rfl⟩ := gt_open hT
    clear hT
    have hR := hh.h
    clear hh
    refine ⟨fun hlt => ?_, fun hge => ?_⟩
    · obtain ⟨k, hk⟩ := xs_get (xs := Y) (i := j) (by omega)
      refine ⟨_, load_k rfl rfl (contOf_live s0) (show [pOs L, pIs X, pIs Y][2]? = some (pIs Y) from rfl) rfl, ?_⟩
      refine ⟨⟨⟨by omega, by omega⟩, len_map_le (by omega)⟩, ?_⟩
      refine ⟨_, ld (at_map hk) (by show _ * 1 = j; omega), ?_⟩
      refine ⟨⟨by omega, by omega⟩, ?_⟩
      refine callq rfl (bwithin_ct S hS) (by omega) ?_
      rintro _ rfl
      by_cases hin : 0 ≤ k ∧ k ≤ (L.length : Int) - 1
      · rw [decide_eq_true hin]
        refine ⟨⟨by omega, by omega⟩, ?_⟩
        exact ⟨_, by omega, ci ⟨j + 1, _, rfl, ⟨rfl, rfl, rfl, rfl, trivial⟩, rfl, by omega, ⟨fun x hx => by
          rw [take_snoc hk] at hx
          rcases List.mem_append.1 hx with hx | hx
          · exact hR x hx
          · rw [List.mem_singleton.1 hx]; exact hin⟩⟩⟩
      · rw [decide_eq_false hin]
        exact endq rfl ⟨2, rfl, fin _ (.inl ⟨fun h => hin (h.2 k (List.mem_of_getElem? hk)), rfl⟩)⟩
    have rY : Rg L Y := fun k hk => hR k (by rw [List.take_of_length_le (by omega)]; exact hk)
    clear hR hge
    have hle := hA.le
    have hpo := hA.pos
    have hmL : ∀ p ∈ L, p.1.length ≤ 1000000 ∧ p.2.length ≤ 1000000 := fun p hp => by have := hs.m p hp; omega
    refine ⟨fun m s => ∃ (w b' : Nat) (T : List PV), s = ⟨T, σ, b'⟩ ∧ Gt T 147 [(1, .optr 0 0), (3, pn L.length), (9, pn w)] ∧ m = L.length - w ∧ w ≤ L.length ∧ b' ≤ b + w * 1000000 ∧ Hid (∀ w', w' < w → Img L X Y n o w'), ⟨_, ci ⟨0, _, _, rfl, ⟨rfl, rfl, rfl, rfl, trivial⟩, rfl, Nat.zero_le _, by omega, ⟨fun w' h => by omega⟩⟩⟩, ?_⟩
    rintro _ s ⟨w, b', T, rfl, hT, rfl, hw, hb', hh⟩
    obtain ⟨J, rfl⟩ := gt_open hT
    clear hT
    have hI := hh.h
    clear hh
    refine ⟨fun hlt => ?_, fun hge => ?_⟩
    · have hwl : w < L.length := by omega
      have hi := hA.eq w hwl
      have hO := hA.ok w hwl
      have hcn := hA.con w hwl
      obtain ⟨x1, x2⟩ := ix_at h1 rX hwl
      obtain ⟨y1, y2⟩ := ix_at h2 rY hwl
      have lab8 : ∀ b8 : Nat, Ct (ctx.plus S) 38 [p4 n ((o w).let b8)] 100010 fun v => v = lab n ((o w).let b8) := fun b8 => rlab_ct S hS hpo hle (hO.let b8) (O4.conn_let hO hpo hcn b8)
      have at8 : ∀ ob : O4, Ct (ctx.plus S) 57 [pOs L, pO (labP n ob).1 (labP n ob).2] (2 * L.length + 1) fun v => ∃ k : Int, v = pn k ∧ AtL L (labP n ob) k := fun ob => atO_ct S hS (by omega) hmL (by unfold labP; rw [Rs_len]; omega) (by unfold labP; rw [Us_len]; omega)
      refine ⟨by kernel_rfl, ?_⟩
      refine ⟨_, load_k rfl rfl (contOf_live s0) (show [pOs L, pIs X, pIs Y][1]? = some (pIs X) from rfl) rfl, rfl, ?_⟩
      refine ⟨⟨⟨by omega, by omega⟩, len_map_le (by omega)⟩, ?_⟩
      refine ⟨_, ld (at_map x1) (by show _ * 1 = w; omega), rfl, ?_⟩
      refine ⟨_, load_k rfl rfl (contOf_live s0) (show [pOs L, pIs X, pIs Y][0]? = some (pOs L) from rfl) rfl, rfl, ?_⟩
      refine ⟨_, load_k rfl rfl (contOf_live s0) (show [pOs L, pIs X, pIs Y][0]? = some (pOs L) from rfl) rfl, rfl, ?_⟩
      refine ⟨⟨⟨by omega, by show (w : Int) < (L.length : Nat); omega⟩, os_ix hwl⟩, ?_⟩
      refine ⟨_, os_at hi (by show _ * 2 = _; omega), rfl, ?_⟩
      refine callq (ps := [p4 n (o w), .int .u8 (83 : Nat)]) rfl (letter_ct S hS hpo hle hO) (by omega) ?_
      rintro _ rfl
      refine callq rfl (lab8 83) (by omega) ?_
      rintro _ rfl
      refine callq (ps := [pOs L, pO (labP n (o w).S).1 (labP n (o w).S).2]) rfl (at8 (o w).S) (by omega) ?_
      rintro _ ⟨k1, rfl, hk1⟩
      have a1 := at_iff hA hk1 x2
      refine ⟨fun hne => ?_, fun heq => ?_⟩
      · exact endq rfl ⟨18, rfl, fin _ (.inr (.inl ⟨⟨rX, rY⟩, fun hall => hne (a1.2 (hall w hwl).1), rfl⟩))⟩
      have heq : (ixN X w : Int) = k1 := heq
      refine ⟨_, load_k rfl rfl (contOf_live s0) (show [pOs L, pIs X, pIs Y][2]? = some (pIs Y) from rfl) rfl, rfl, ?_⟩
      refine ⟨⟨⟨by omega, by omega⟩, len_map_le (by omega)⟩, ?_⟩
      refine ⟨_, ld (at_map y1) (by show _ * 1 = w; omega), rfl, ?_⟩
      refine ⟨_, load_k rfl rfl (contOf_live s0) (show [pOs L, pIs X, pIs Y][0]? = some (pOs L) from rfl) rfl, rfl, ?_⟩
      refine ⟨_, load_k rfl rfl (contOf_live s0) (show [pOs L, pIs X, pIs Y][0]? = some (pOs L) from rfl) rfl, rfl, ?_⟩
      refine ⟨⟨⟨by omega, by show (w : Int) < (L.length : Nat); omega⟩, os_ix hwl⟩, ?_⟩
      refine ⟨_, os_at hi (by show _ * 2 = _; omega), rfl, ?_⟩
      refine callq (ps := [p4 n (o w), .int .u8 (84 : Nat)]) rfl (letter_ct S hS hpo hle hO) (by omega) ?_
      rintro _ rfl
      refine callq rfl (lab8 84) (by omega) ?_
      rintro _ rfl
      refine callq (ps := [pOs L, pO (labP n (o w).T).1 (labP n (o w).T).2]) rfl (at8 (o w).T) (by omega) ?_
      rintro _ ⟨k2, rfl, hk2⟩
      have a2 := at_iff hA hk2 y2
      refine ⟨fun hne => ?_, fun heq2 => ?_⟩
      · exact endq rfl ⟨18, rfl, fin _ (.inr (.inl ⟨⟨rX, rY⟩, fun hall => hne (a2.2 (hall w hwl).2), rfl⟩))⟩
      refine ⟨⟨by omega, by omega⟩, ?_⟩
      refine ⟨_, by omega, ci ⟨w + 1, _, _, rfl, ⟨rfl, rfl, rfl, rfl, trivial⟩, rfl, by omega, by omega, ⟨fun w' hw' => ?_⟩⟩⟩
      rcases Nat.lt_or_ge w' w with h | h
      · exact hI w' h
      · rw [show w' = w by omega]
        exact ⟨a1.1 heq, a2.1 heq2⟩
    · have hwe : w = L.length := by omega
      subst hwe
      refine ⟨_, load_agg S rfl (contOf_live s0) rfl, ?_⟩
      refine callq rfl (rsteps_ct S hS (x := ixN X) (y := ixN Y) (s := 0) (n := L.length) (by omega) (by omega) rfl (fun w hw => ix_at h1 rX hw) (fun w hw => ix_at h2 rY hw) h1 h2) (by omega) ?_
      rintro _ ⟨D, rfl, hD⟩
      have hDl := hD.len
      refine callq rfl (has_ct S hS (y := -1) (by omega)) (by omega) ?_
      rintro _ rfl
      have hmin := hD.minus
      by_cases hr : ∀ w, w < L.length → Rch (ixN X) (ixN Y) 0 w
      · rw [decide_eq_false (fun h => hmin.1 h hr)]
        exact endq rfl ⟨0, rfl, fin _ (.inr (.inr (.inr ⟨⟨rX, rY⟩, hI, hr, rfl⟩)))⟩
      · rw [decide_eq_true (hmin.2 hr)]
        exact endq rfl ⟨18, rfl, fin _ (.inr (.inr (.inl ⟨⟨rX, rY⟩, hI, hr, rfl⟩)))⟩
end Go.PI
/- THE LAW OF ORBITS THAT ARE GIVEN. -/
open Go.Proofs
namespace Go.PI
open IM
set_option maxRecDepth 10000
set_option maxHeartbeats 4000000
variable (S : FuncId → Option (List AV → Heap → Option (AV × Heap)))
theorem fn7 : ctx.fn 7 = some c7 := by kernel_rfl
theorem checksLaw_ct (hS : OldO S) (hM : MulOk S) (hA : Ct (ctx.plus S) 15 [] 0 fun r => r = .bool true) {L : OL} {X Y : List Int} : Ct (ctx.plus S) 7 [pB L X Y] 1000000000 fun v => v = .bool true := by
  refine ct_of (hS 7 (by decide)) fn7 ?_
  refine ⟨by omega, ?_⟩
  refine callq rfl hA (by omega) ?_
  rintro _ rfl
  refine ⟨by kernel_rfl, ?_⟩
  refine ⟨_, rfl, rfl, ?_⟩
  refine callq rfl (small_ct S hS) (by omega) ?_
  rintro _ (⟨hs, rfl⟩ | ⟨hs, rfl⟩)
  rotate_left
  · exact endq rfl rfl
  obtain ⟨n, o, hG⟩ : ∃ n o, ¬ Bad0 L X Y → (∀ i, i < L.length → okM L i = 0) → AllOk L n o := by
    by_cases h : ¬ Bad0 L X Y ∧ ∀ i, i < L.length → okM L i = 0
    · obtain ⟨n, o, h1⟩ := allOk (by
        rcases Nat.eq_zero_or_pos L.length with h0 | h0
        · exact absurd (.inl h0) h.1
        · exact h0) h.2
      exact ⟨n, o, fun _ _ => h1⟩
    · exact ⟨0, fun _ => ⟨id, id, id, id⟩, fun h1 h2 => absurd ⟨h1, h2⟩ h⟩
  refine ⟨_, rfl, rfl, ?_⟩
  refine callq rfl (pCheckOrbit_ct S hS hM hs hG) (by omega) ?_
  rintro _ ⟨e, rfl, he⟩
  refine ⟨_, rfl, rfl, ?_⟩
  refine callq rfl (rCheckOrbit_ct S hS hs hG) (by omega) ?_
  rintro _ ⟨e', rfl, he'⟩
  have hee := ans_one he he'
  subst hee
  refine ⟨fun _ => ?_, fun h => absurd rfl h⟩
  exact endq rfl rfl
/-- a list of origamis of more than 30 elements, of whatever kind -/
theorem checksLaw_big (hS : OldO S) (hA : Ct (ctx.plus S) 15 [] 0 fun r => r = .bool true) {n : Nat} {cs : List PV} {X Y : List Int} (hn : 30 < n) (hb : n < 9223372036854775808) : Ct (ctx.plus S) 7 [.agg [.lst n cs, pIs X, pIs Y]] 1000000000 fun v => v = .bool true := by
  refine ct_of (hS 7 (by decide)) fn7 ?_
  refine ⟨by omega, ?_⟩
  refine callq rfl hA (by omega) ?_
  rintro _ rfl
  refine ⟨by kernel_rfl, ?_⟩
  refine ⟨_, rfl, rfl, ?_⟩
  refine callq rfl (small_big S hS hn hb) (by omega) ?_
  rintro _ rfl
  exact endq rfl rfl
end Go.PI
