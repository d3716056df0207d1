/- Own work of the verifier: OrCn OrDa OrDb OrDc OrDd OrDe. -/
import Derived.Test.YtoppgcfijjndfaaGreatDoorOwBD
import Derived.Test.YtoppgcfijjndfaaGreatDoorOwBB
import Derived.Test.YtoppgcfijjndfaaGreatDoorOwAX
set_option linter.all false
set_option exponentiation.threshold 3000
set_option linter.deprecated false
/- CHECKORBIT, of the reference. -/
open Go.Proofs
namespace Go.PI
open IM
set_option maxRecDepth 10000
set_option maxHeartbeats 4000000
variable (S : FuncId → Option (List AV → Heap → Option (AV × Heap)))
theorem at_iff {L : OL} {n : Nat} {o : Nat → O4} (hA : AllOk L n o) {p : List Int × List Int} {k : Int} (h : AtL L p k) {x : Nat} (hx : x < L.length) : (x : Int) = k ↔ L[x]? = some p := by
  constructor
  · intro e
    rcases h with ⟨rfl, -⟩ | ⟨i, rfl, h1, -⟩
    · omega
    · rw [show x = i by omega]; exact h1
  · intro e
    rcases h with ⟨-, h2⟩ | ⟨i, rfl, h1, h2⟩
    · exact absurd (List.mem_of_getElem? e) h2
    · rcases Nat.lt_trichotomy x i with h | h | h
      · exact absurd e (h2 x h)
      · omega
      · have hi : i < L.length := by omega
        refine absurd ?_ (mem_one hA hx h)
        have e1 := (memO_get hx).symm.trans e
        have e2 := (memO_get hi).symm.trans h1
        rw [Option.some.inj e1, Option.some.inj e2]
theorem fn82 : ctx.fn 82 = some c82 := by kernel_rfl
theorem bwithin_ct (hS : OldO S) {n a b : Int} : Ct (ctx.plus S) 82 [pn n, pn a, pn b] 0 fun r => r = .bool (decide (a ≤ n ∧ n ≤ b)) := by
  refine ct_of (hS 82 (by decide)) fn82 ?_
  refine ⟨fun h1 => ?_, fun h1 => ?_⟩
  · refine ⟨fun h2 => ?_, fun h2 => ?_⟩
    · exact endq rfl (by rw [decide_eq_true ⟨by omega, by omega⟩])
    · exact endq rfl (by rw [decide_eq_false (by omega)])
  · exact endq rfl (by rw [decide_eq_false (by omega)])
theorem fn43 : ctx.fn 43 = some c43 := by kernel_rfl
theorem rCheckOrbit_ct (hS : OldO S) {L : OL} {X Y : List Int} (hs : Sml L X Y) {n : Nat} {o : Nat → O4} (hG : ¬ Bad0 L X Y → (∀ i, i < L.length → okM L i = 0) → AllOk L n o) :
    Ct (ctx.plus S) 43 [pB L X Y] 400000000 fun w => ∃ e : Int, w = pn e ∧ Ans L X Y n o e := by
  have hL := hs.l
  have hx := hs.x
  have hy := hs.y
  refine ct_of (hS 43 (by decide)) fn43 ?_
  refine ⟨by omega, ?_⟩
  refine ⟨_, rfl, ?_⟩
  refine ⟨fun h0 => ?_, fun h0 => ?_⟩
  · exact endq rfl ⟨10, rfl, .inl ⟨.inl (by have h : ((L.length : Nat) : Int) = 0 := h0; omega), rfl⟩⟩
  have h0 : L.length ≠ 0 := fun e => h0 (by show ((L.length : Nat) : Int) = 0; omega)
  refine ⟨_, rfl, ?_⟩
  refine ⟨fun h1 => ?_, fun h1 => ?_⟩
  · exact endq rfl ⟨10, rfl, .inl ⟨.inr (.inl fun e => h1 (by show ((X.length : Nat) : Int) = (L.length : Nat); omega)), rfl⟩⟩
  have h1 : X.length = L.length := by have h : ((X.length : Nat) : Int) = (L.length : Nat) := h1; omega
  refine ⟨_, rfl, ?_⟩
  refine ⟨fun h2 => ?_, fun h2 => ?_⟩
  · exact endq rfl ⟨10, rfl, .inl ⟨.inr (.inr fun e => h2 (by show ((Y.length : Nat) : Int) = (L.length : Nat); omega)), rfl⟩⟩
  have h2 : Y.length = L.length := by have h : ((Y.length : Nat) : Int) = (L.length : Nat) := h2; omega
  have hB : ¬ Bad0 L X Y := by unfold Bad0; omega
  refine ⟨fun h3 => by have h : ((L.length : Nat) : Int) > 2000 := h3; omega, fun _ => ?_⟩
  refine ⟨fun m s => ∃ (i b : Nat) (σ : List StB) (T : List PV), s = ⟨T, σ, b⟩ ∧ Gt T 147 [(1, .optr 0 0), (3, pn L.length), (4, pn i)] ∧ m = L.length - i ∧ i ≤ L.length ∧ b ≤ 100 + i * 1000000 ∧ Hid (σ[0]? = some (.live 56 [pOs L, pIs X, pIs Y]) ∧ ∀ j, j < i → okM L j = 0), ⟨_, ci ⟨0, _, _, _, rfl, ⟨rfl, rfl, rfl, rfl, trivial⟩, rfl, Nat.zero_le _, by omega, ⟨rfl, fun w' h => by omega⟩⟩⟩, ?_⟩
  rintro _ s ⟨i, b, σ, T, rfl, hT, rfl, hi, hb, hh⟩
  obtain ⟨J, rfl⟩ := gt_open hT
  clear hT
  obtain ⟨s0, hI⟩ := hh.h
  clear hh
  refine ⟨fun hlt => ?_, fun hge => ?_⟩
  · have hil : i < L.length := by omega
    have m1 := hs.m _ (List.mem_of_getElem? (memO_get hil))
    have g0 := memO_get (L := L) (i := 0) (by omega)
    have m0 := hs.m _ (List.mem_of_getElem? g0)
    have gi := memO_get hil
    have hM : okM L i = okO (memO L 0).1.length (if i = 0 then none else some (memO L (i - 1))) (memO L i).1 (memO L i).2 := rfl
    obtain ⟨r, u, hru⟩ : ∃ r u, memO L i = (r, u) := ⟨_, _, rfl⟩
    obtain ⟨r0, u0, hru0⟩ : ∃ r u, memO L 0 = (r, u) := ⟨_, _, rfl⟩
    rw [hru] at gi m1 hM
    rw [hru0] at g0 m0 hM
    simp only at m1 m0 hM
    refine ⟨_, load_k rfl rfl (contOf_live s0) (show [pOs L, pIs X, pIs Y][0]? = some (pOs L) from rfl) rfl, ?_⟩
    refine ⟨⟨⟨by omega, by show (i : Int) < (L.length : Nat); omega⟩, os_ix hil⟩, ?_⟩
    refine ⟨_, os_at gi (by show _ * 2 = _; omega), ?_⟩
    refine ⟨by omega, ?_⟩
    refine ⟨_, _, push_get, ⟨rfl, Nat.le_of_ble_eq_true rfl, rfl⟩, _, rfl, _, push_set, ?_⟩
    refine ⟨_, load_agg S rfl push_cont rfl, ?_⟩
    refine callq (ps := [pO r u]) rfl (rcheck_ct S hS (by omega) (by omega)) (by omega) ?_
    rintro _ rfl
    refine ⟨fun hb0 => ?_, fun hb0 => ?_⟩
    · have hv : okM L i = chkO r u := hM.trans (okO_bad hb0)
      exact endq rfl ⟨_, rfl, .inr (.inl ⟨hB, i, hil, by rw [hv]; exact hb0, hI, hv.symm⟩)⟩
    have hb0 : chkO r u = 0 := hb0
    obtain ⟨w, hw⟩ : ∃ w, w = ow hb0 := ⟨_, rfl⟩
    have e1 := congrArg List.length w.h.hr
    have e2 := congrArg List.length w.h.hu
    rw [PL_len] at e1 e2
    have wpos := w.h.pos
    have wle := w.h.le
    refine ⟨by kernel_rfl, ?_⟩
    refine ⟨_, load_agg S rfl push_cont rfl, rfl, ?_⟩
    refine callq (ps := [pO r u]) rfl (size_ct S hS) (by omega) ?_
    rintro _ rfl
    refine ⟨_, load_k rfl rfl (contOf_live (push_old s0)) (show [pOs L, pIs X, pIs Y][0]? = some (pOs L) from rfl) rfl, rfl, ?_⟩
    refine ⟨⟨⟨by omega, by show (0 : Int) < (L.length : Nat); omega⟩, os_ix (by omega)⟩, ?_⟩
    refine ⟨_, os_at g0 (by rfl), rfl, ?_⟩
    refine callq rfl (size_ct S hS) (by omega) ?_
    rintro _ rfl
    refine ⟨fun hne => ?_, fun heq => ?_⟩
    · have hne : r.length ≠ r0.length := fun e => hne (by show ((r.length : Nat) : Int) = (r0.length : Nat); omega)
      have hv : okM L i = 10 := hM.trans (okO_len hb0 hne)
      exact endq rfl ⟨_, rfl, .inr (.inl ⟨hB, i, hil, by rw [hv]; decide, hI, hv.symm⟩)⟩
    have heq : r.length = r0.length := by have h : ((r.length : Nat) : Int) = (r0.length : Nat) := heq; omega
    refine ⟨_, load_agg S rfl push_cont rfl, ?_⟩
    refine callq (ps := [pO r u]) rfl (rconnected_ct S hS w.h) (by omega) ?_
    rintro _ (⟨hc, rfl⟩ | ⟨hc, rfl⟩)
    rotate_left
    · have hv : okM L i = 16 := hM.trans (okO_con hb0 heq (by rw [← hw]; exact hc))
      exact endq rfl ⟨_, rfl, .inr (.inl ⟨hB, i, hil, by rw [hv]; decide, hI, hv.symm⟩)⟩
    have hlab := rlab_ct S hS (n := w.n) (o := ⟨w.f, w.f', w.g, w.g'⟩) wpos wle ⟨w.h.pr, w.h.pu⟩ hc
    have hp4 : p4 w.n ⟨w.f, w.f', w.g, w.g'⟩ = pO r u := by
      show pO (PL w.n w.f) (PL w.n w.g) = pO r u
      rw [← w.h.hr, ← w.h.hu]
    rw [hp4] at hlab
    refine ⟨by kernel_rfl, ?_⟩
    refine ⟨_, load_agg S rfl push_cont rfl, rfl, ?_⟩
    refine callq (ps := [pO r u]) rfl hlab (by omega) ?_
    rintro _ rfl
    refine ⟨_, load_agg S rfl push_cont rfl, rfl, ?_⟩
    have hsame := sameO_ct S hS (t := w.R) (b := w.U) (t' := r) (b' := u) (by unfold OW.R; rw [Rs_len]; omega) (by unfold OW.U; rw [Us_len]; omega) (by omega) (by omega)
    refine callq (ps := [pO w.R w.U, pO r u]) rfl hsame (by omega) ?_
    rintro _ rfl
    by_cases hl : w.R = r ∧ w.U = u
    rotate_left
    · rw [decide_eq_false hl]
      have hv : okM L i = 3 := hM.trans (okO_lab hb0 heq (by rw [← hw]; exact hc) (by rw [← hw]; exact hl))
      exact endq rfl ⟨_, rfl, .inr (.inl ⟨hB, i, hil, by rw [hv]; decide, hI, hv.symm⟩)⟩
    rw [decide_eq_true hl]
    refine ⟨by kernel_rfl, ?_⟩
    have step : okM L i = 0 → ∀ j, j < i + 1 → okM L j = 0 := fun h j hj => by
      rcases Nat.lt_or_ge j i with hji | hji
      · exact hI j hji
      · rw [show j = i by omega]; exact h
    refine ⟨fun hi0 => ?_, fun hi0 => ?_⟩
    · have hi0 : 0 < i := by omega
      obtain ⟨p1, p2⟩ := okM_prev (hI (i - 1) (by omega))
      have gp := memO_get (L := L) (i := i - 1) (by omega)
      obtain ⟨r1, u1, hru1⟩ : ∃ r u, memO L (i - 1) = (r, u) := ⟨_, _, rfl⟩
      rw [hru0, hru1] at p1 p2
      rw [hru1] at gp
      rw [if_neg (show i ≠ 0 by omega), hru1] at hM
      simp only at p1 p2
      refine ⟨_, load_k rfl rfl (contOf_live (push_old s0)) (show [pOs L, pIs X, pIs Y][0]? = some (pOs L) from rfl) rfl, rfl, ?_⟩
      refine ⟨⟨by omega, by omega⟩, ?_⟩
      refine ⟨⟨⟨by omega, by show (i : Int) - 1 < (L.length : Nat); omega⟩, by show ((i : Int) - 1).toNat * 2 ≤ _; rw [flO_len]; omega⟩, ?_⟩
      refine ⟨_, os_at gp (by show _ * 2 = _; omega), rfl, ?_⟩
      refine ⟨_, load_agg S rfl push_cont rfl, rfl, ?_⟩
      have hbef := before_ct S hS (R := r1) (U := u1) (R' := r) (U' := u) (fun e => by rw [e] at p1; simp at p1; omega) (by omega) (by omega) (by omega) (by omega)
      refine callq (ps := [pO r1 u1, pO r u]) rfl hbef (by omega) ?_
      rintro _ (⟨hlt, rfl⟩ | ⟨hlt, rfl⟩)
      · have hv : okM L i = 0 := hM.trans (okO_less hb0 heq (by rw [← hw]; exact hc) (by rw [← hw]; exact hl) hlt)
        refine ⟨⟨by omega, by omega⟩, ?_⟩
        exact ⟨_, by omega, ci ⟨i + 1, _, _, _, rfl, ⟨rfl, rfl, rfl, rfl, trivial⟩, rfl, by omega, by omega, ⟨push_old s0, step hv⟩⟩⟩
      · have hv : okM L i = 9 := hM.trans (okO_not hb0 heq (by rw [← hw]; exact hc) (by rw [← hw]; exact hl) hlt)
        exact endq rfl ⟨_, rfl, .inr (.inl ⟨hB, i, hil, by rw [hv]; decide, hI, hv.symm⟩)⟩
    · have hi0 : i = 0 := by omega
      rw [if_pos hi0] at hM
      have hv : okM L i = 0 := hM.trans (by rw [okO_ord hb0 heq (by rw [← hw]; exact hc) (by rw [← hw]; exact hl)])
      refine ⟨⟨by omega, by omega⟩, ?_⟩
      exact ⟨_, by omega, ci ⟨i + 1, _, _, _, rfl, ⟨rfl, rfl, rfl, rfl, trivial⟩, rfl, by omega, by omega, ⟨push_old s0, step hv⟩⟩⟩
  · have hall : ∀ i, i < L.length → okM L i = 0 := fun j hj => hI j (by omega)
    have hA := hG hB hall
    have fin : ∀ e, Ans2 L X Y n o e → Ans L X Y n o e := fun e h => .inr (.inr ⟨hB, hall, h⟩)
    obtain ⟨b0, hb0⟩ : ∃ b0, b0 = b := ⟨_, rfl⟩
    have hbb : b ≤ 100000000 := by omega
    clear hb hI hG hge
    refine ⟨fun m s => ∃ (j : Nat) (T : List PV), s = ⟨T, σ, b⟩ ∧ Gt T 147 [(1, .optr 0 0), (3, pn L.length), (7, pn j)] ∧ m = L.length - j ∧ j ≤ L.length ∧ Hid (∀ k ∈ X.take j, 0 ≤ k ∧ k ≤ (L.length : Int) - 1), ⟨_, ci ⟨0, _, rfl, ⟨rfl, rfl, rfl, rfl, trivial⟩, rfl, Nat.zero_le _, ⟨fun k h => by simp at h⟩⟩⟩, ?_⟩
    rintro _ s ⟨j, T, rfl, hT, rfl, hj, hh⟩
    obtain ⟨J, rfl⟩ := gt_open hT
    clear hT
    have hR := hh.h
    clear hh
    refine ⟨fun hlt => ?_, fun hge => ?_⟩
    · obtain ⟨k, hk⟩ := xs_get (xs := X) (i := j) (by omega)
      refine ⟨_, load_k rfl rfl (contOf_live s0) (show [pOs L, pIs X, pIs Y][1]? = some (pIs X) from rfl) rfl, ?_⟩
      refine ⟨⟨⟨by omega, by omega⟩, len_map_le (by omega)⟩, ?_⟩
      refine ⟨_, ld (at_map hk) (by show _ * 1 = j; omega), ?_⟩
      refine ⟨⟨by omega, by omega⟩, ?_⟩
      refine callq rfl (bwithin_ct S hS) (by omega) ?_
      rintro _ rfl
      by_cases hin : 0 ≤ k ∧ k ≤ (L.length : Int) - 1
      · rw [decide_eq_true hin]
        refine ⟨⟨by omega, by omega⟩, ?_⟩
        exact ⟨_, by omega, ci ⟨j + 1, _, rfl, ⟨rfl, rfl, rfl, rfl, trivial⟩, rfl, by omega, ⟨fun x hx => by
          rw [take_snoc hk] at hx
          rcases List.mem_append.1 hx with hx | hx
          · exact hR x hx
          · rw [List.mem_singleton.1 hx]; exact hin⟩⟩⟩
      · rw [decide_eq_false hin]
        exact endq rfl ⟨2, rfl, fin _ (.inl ⟨fun h => hin (h.1 k (List.mem_of_getElem? hk)), rfl⟩)⟩
    have rX : Rg L X := fun k hk => hR k (by rw [List.take_of_length_le (by omega)]; exact hk)
    clear hR hge
    refine ⟨fun m s => ∃ (j : Nat) (T : List PV), s = ⟨T, σ, b⟩ ∧ Gt T 147 [(1, .optr 0 0), (3, pn L.length), (8, pn j)] ∧ m = L.length - j ∧ j ≤ L.length ∧ Hid (∀ k ∈ Y.take j, 0 ≤ k ∧ k ≤ (L.length : Int) - 1), ⟨_, ci ⟨0, _, rfl, ⟨rfl, rfl, rfl, rfl, trivial⟩, rfl, Nat.zero_le _, ⟨fun k h => by simp at h⟩⟩⟩, ?_⟩
    rintro _ s ⟨j, T, rfl, hT, rfl, hj, hh⟩
    obtain ⟨J, rfl⟩ := gt_open hT
    clear hT
    have hR := hh.h
    clear hh
    refine ⟨fun hlt => ?_, fun hge => ?_⟩
    · obtain ⟨k, hk⟩ := xs_get (xs := Y) (i := j) (by omega)
      refine ⟨_, load_k rfl rfl (contOf_live s0) (show [pOs L, pIs X, pIs Y][2]? = some (pIs Y) from rfl) rfl, ?_⟩
      refine ⟨⟨⟨by omega, by omega⟩, len_map_le (by omega)⟩, ?_⟩
      refine ⟨_, ld (at_map hk) (by show _ * 1 = j; omega), ?_⟩
      refine ⟨⟨by omega, by omega⟩, ?_⟩
      refine callq rfl (bwithin_ct S hS) (by omega) ?_
      rintro _ rfl
      by_cases hin : 0 ≤ k ∧ k ≤ (L.length : Int) - 1
      · rw [decide_eq_true hin]
        refine ⟨⟨by omega, by omega⟩, ?_⟩
        exact ⟨_, by omega, ci ⟨j + 1, _, rfl, ⟨rfl, rfl, rfl, rfl, trivial⟩, rfl, by omega, ⟨fun x hx => by
          rw [take_snoc hk] at hx
          rcases List.mem_append.1 hx with hx | hx
          · exact hR x hx
          · rw [List.mem_singleton.1 hx]; exact hin⟩⟩⟩
      · rw [decide_eq_false hin]
        exact endq rfl ⟨2, rfl, fin _ (.inl ⟨fun h => hin (h.2 k (List.mem_of_getElem? hk)), rfl⟩)⟩
    have rY : Rg L Y := fun k hk => hR k (by rw [List.take_of_length_le (by omega)]; exact hk)
    clear hR hge
    have hle := hA.le
    have hpo := hA.pos
    have hmL : ∀ p ∈ L, p.1.length ≤ 1000000 ∧ p.2.length ≤ 1000000 := fun p hp => by have := hs.m p hp; omega
    refine ⟨fun m s => ∃ (w b' : Nat) (T : List PV), s = ⟨T, σ, b'⟩ ∧ Gt T 147 [(1, .optr 0 0), (3, pn L.length), (9, pn w)] ∧ m = L.length - w ∧ w ≤ L.length ∧ b' ≤ b + w * 1000000 ∧ Hid (∀ w', w' < w → Img L X Y n o w'), ⟨_, ci ⟨0, _, _, rfl, ⟨rfl, rfl, rfl, rfl, trivial⟩, rfl, Nat.zero_le _, by omega, ⟨fun w' h => by omega⟩⟩⟩, ?_⟩
    rintro _ s ⟨w, b', T, rfl, hT, rfl, hw, hb', hh⟩
    obtain ⟨J, rfl⟩ := gt_open hT
    clear hT
    have hI := hh.h
    clear hh
    refine ⟨fun hlt => ?_, fun hge => ?_⟩
    · have hwl : w < L.length := by omega
      have hi := hA.eq w hwl
      have hO := hA.ok w hwl
      have hcn := hA.con w hwl
      obtain ⟨x1, x2⟩ := ix_at h1 rX hwl
      obtain ⟨y1, y2⟩ := ix_at h2 rY hwl
      have lab8 : ∀ b8 : Nat, Ct (ctx.plus S) 38 [p4 n ((o w).let b8)] 100010 fun v => v = lab n ((o w).let b8) := fun b8 => rlab_ct S hS hpo hle (hO.let b8) (O4.conn_let hO hpo hcn b8)
      have at8 : ∀ ob : O4, Ct (ctx.plus S) 57 [pOs L, pO (labP n ob).1 (labP n ob).2] (2 * L.length + 1) fun v => ∃ k : Int, v = pn k ∧ AtL L (labP n ob) k := fun ob => atO_ct S hS (by omega) hmL (by unfold labP; rw [Rs_len]; omega) (by unfold labP; rw [Us_len]; omega)
      refine ⟨by kernel_rfl, ?_⟩
      refine ⟨_, load_k rfl rfl (contOf_live s0) (show [pOs L, pIs X, pIs Y][1]? = some (pIs X) from rfl) rfl, rfl, ?_⟩
      refine ⟨⟨⟨by omega, by omega⟩, len_map_le (by omega)⟩, ?_⟩
      refine ⟨_, ld (at_map x1) (by show _ * 1 = w; omega), rfl, ?_⟩
      refine ⟨_, load_k rfl rfl (contOf_live s0) (show [pOs L, pIs X, pIs Y][0]? = some (pOs L) from rfl) rfl, rfl, ?_⟩
      refine ⟨_, load_k rfl rfl (contOf_live s0) (show [pOs L, pIs X, pIs Y][0]? = some (pOs L) from rfl) rfl, rfl, ?_⟩
      refine ⟨⟨⟨by omega, by show (w : Int) < (L.length : Nat); omega⟩, os_ix hwl⟩, ?_⟩
      refine ⟨_, os_at hi (by show _ * 2 = _; omega), rfl, ?_⟩
      refine callq (ps := [p4 n (o w), .int .u8 (83 : Nat)]) rfl (letter_ct S hS hpo hle hO) (by omega) ?_
      rintro _ rfl
      refine callq rfl (lab8 83) (by omega) ?_
      rintro _ rfl
      refine callq (ps := [pOs L, pO (labP n (o w).S).1 (labP n (o w).S).2]) rfl (at8 (o w).S) (by omega) ?_
      rintro _ ⟨k1, rfl, hk1⟩
      have a1 := at_iff hA hk1 x2
      refine ⟨fun hne => ?_, fun heq => ?_⟩
      · exact endq rfl ⟨18, rfl, fin _ (.inr (.inl ⟨⟨rX, rY⟩, fun hall => hne (a1.2 (hall w hwl).1), rfl⟩))⟩
      have heq : (ixN X w : Int) = k1 := heq
      refine ⟨_, load_k rfl rfl (contOf_live s0) (show [pOs L, pIs X, pIs Y][2]? = some (pIs Y) from rfl) rfl, rfl, ?_⟩
      refine ⟨⟨⟨by omega, by omega⟩, len_map_le (by omega)⟩, ?_⟩
      refine ⟨_, ld (at_map y1) (by show _ * 1 = w; omega), rfl, ?_⟩
      refine ⟨_, load_k rfl rfl (contOf_live s0) (show [pOs L, pIs X, pIs Y][0]? = some (pOs L) from rfl) rfl, rfl, ?_⟩
      refine ⟨_, load_k rfl rfl (contOf_live s0) (show [pOs L, pIs X, pIs Y][0]? = some (pOs L) from rfl) rfl, rfl, ?_⟩
      refine ⟨⟨⟨by omega, by show (w : Int) < (L.length : Nat); omega⟩, os_ix hwl⟩, ?_⟩
      refine ⟨_, os_at hi (by show _ * 2 = _; omega), rfl, ?_⟩
      refine callq (ps := [p4 n (o w), .int .u8 (84 : Nat)]) rfl (letter_ct S hS hpo hle hO) (by omega) ?_
      rintro _ rfl
      refine callq rfl (lab8 84) (by omega) ?_
      rintro _ rfl
      refine callq (ps := [pOs L, pO (labP n (o w).T).1 (labP n (o w).T).2]) rfl (at8 (o w).T) (by omega) ?_
      rintro _ ⟨k2, rfl, hk2⟩
      have a2 := at_iff hA hk2 y2
      refine ⟨fun hne => ?_, fun heq2 => ?_⟩
      · exact endq rfl ⟨18, rfl, fin _ (.inr (.inl ⟨⟨rX, rY⟩, fun hall => hne (a2.2 (hall w hwl).2), rfl⟩))⟩
      refine ⟨⟨by omega, by omega⟩, ?_⟩
      refine ⟨_, by omega, ci ⟨w + 1, _, _, rfl, ⟨rfl, rfl, rfl, rfl, trivial⟩, rfl, by omega, by omega, ⟨fun w' hw' => ?_⟩⟩⟩
      rcases Nat.lt_or_ge w' w with h | h
      · exact hI w' h
      · rw [show w' = w by omega]
        exact ⟨a1.1 heq, a2.1 heq2⟩
    · have hwe : w = L.length := by omega
      subst hwe
      refine ⟨_, load_agg S rfl (contOf_live s0) rfl, ?_⟩
      refine callq rfl (rsteps_ct S hS (x := ixN X) (y := ixN Y) (s := 0) (n := L.length) (by omega) (by omega) rfl (fun w hw => ix_at h1 rX hw) (fun w hw => ix_at h2 rY hw) h1 h2) (by omega) ?_
      rintro _ ⟨D, rfl, hD⟩
      have hDl := hD.len
      refine callq rfl (has_ct S hS (y := -1) (by omega)) (by omega) ?_
      rintro _ rfl
      have hmin := hD.minus
      by_cases hr : ∀ w, w < L.length → Rch (ixN X) (ixN Y) 0 w
      · rw [decide_eq_false (fun h => hmin.1 h hr)]
        exact endq rfl ⟨0, rfl, fin _ (.inr (.inr (.inr ⟨⟨rX, rY⟩, hI, hr, rfl⟩)))⟩
      · rw [decide_eq_true (hmin.2 hr)]
        exact endq rfl ⟨18, rfl, fin _ (.inr (.inr (.inl ⟨⟨rX, rY⟩, hI, hr, rfl⟩)))⟩
end Go.PI
/- HOW THE MEMBERS of an orbit are moved. -/
open Go.Proofs
namespace Go.PI
open IM
theorem PL_inj {n : Nat} {f g : Nat → Nat} (h : PL n f = PL n g) {x : Nat} (hx : x < n) : f x = g x := by
  have := congrArg (fun l => l[x]?) h
  simp only [PL, List.getElem?_map, List.getElem?_range hx, Option.map_some, Option.some.injEq] at this
  exact Int.ofNat_inj.1 this
theorem isom_id {n : Nat} {f g F G : Nat → Nat} (hf : ∀ x, x < n → F x = f x) (hg : ∀ x, x < n → G x = g x) : Isom n f g F G fun x => x := ⟨fun _ h => h, fun _ _ _ _ e => e, hf, hg⟩
theorem selfO {L : OL} {n : Nat} {o : Nat → O4} (hA : AllOk L n o) (h : ∀ i, i < L.length → okM L i = 0) {i : Nat} (hi : i < L.length) : labP n (o i) = memO L i := by
  obtain ⟨h0, h1, h2, ⟨hr, hu⟩, -⟩ := okO_zero (h i hi)
  obtain ⟨w, hw⟩ : ∃ w, w = ow h0 := ⟨_, rfl⟩
  rw [← hw] at h2 hr hu
  have e := (memO_get hi).symm.trans (hA.eq i hi)
  have e := Option.some.inj e
  have er : (memO L i).1 = PL n (o i).f := by rw [e]
  have eu : (memO L i).2 = PL n (o i).g := by rw [e]
  have hn : w.n = n := by
    have a := congrArg List.length w.h.hr
    have a2 := congrArg List.length er
    rw [PL_len] at a a2
    omega
  obtain ⟨wn, wf, wf', wg, wg', wh⟩ := w
  simp only at hn
  subst hn
  have fe : ∀ x, x < wn → (o i).f x = wf x := fun x hx => PL_inj (er.symm.trans wh.hr) hx
  have ge : ∀ x, x < wn → (o i).g x = wg x := fun x hx => PL_inj (eu.symm.trans wh.hu) hx
  have := (isom_id fe ge).label wh.pr wh.pu wh.pos h2
  unfold labP
  rw [this.1, this.2]
  exact Prod.ext hr hu
theorem lab_iso {L : OL} {n : Nat} {o : Nat → O4} (hA : AllOk L n o) {p : O4} (hp : p.Ok n) (hc : Conn n p.f p.g) {z : Nat} (hz : z < L.length) (h : L[z]? = some (labP n p)) : ∃ e, Iso4 n p (o z) e := by
  have h0 := hA.pos
  have b1 := bst_lt (f := p.f) (g := p.g) h0 n (Nat.le_refl _)
  have hP := es_perm hp.pr hp.pu h0 b1 hc
  have e := Option.some.inj ((hA.eq z hz).symm.trans h)
  have ef : PL n (o z).f = Rs p.f p.g n (bst p.f p.g n n) := congrArg Prod.fst e
  have eg : PL n (o z).g = Us p.f p.g n (bst p.f p.g n n) := congrArg Prod.snd e
  refine ⟨ei p.f p.g n (bst p.f p.g n n), Iso4.of hp (hA.ok z hz) ⟨hP.glt, fun a b ha hb hab => hP.inv.inj ha hb hab, fun a ha => ?_, fun a ha => ?_⟩⟩
  · rw [PL_inj ef (hP.glt a ha)]
    show ei p.f p.g n _ (p.f (es p.f p.g n _ (ei p.f p.g n _ a))) = _
    rw [hP.fg a ha]
  · rw [PL_inj eg (hP.glt a ha)]
    show ei p.f p.g n _ (p.g (es p.f p.g n _ (ei p.f p.g n _ a))) = _
    rw [hP.fg a ha]
theorem iso_one {L : OL} {n : Nat} {o : Nat → O4} (hA : AllOk L n o) (h : ∀ i, i < L.length → okM L i = 0) {a b : Nat} (ha : a < L.length) (hb : b < L.length) {e : Nat → Nat} (i : Iso4 n (o a) (o b) e) : a = b := by
  have hl := i.to.label (hA.ok a ha).pr (hA.ok a ha).pu hA.pos (hA.con a ha)
  have hab : memO L a = memO L b := by
    rw [← selfO hA h ha, ← selfO hA h hb]
    unfold labP
    rw [hl.1, hl.2]
  rcases Nat.lt_trichotomy a b with hlt | heq | hlt
  · exact absurd hab (mem_one hA hb hlt)
  · exact heq
  · exact absurd hab.symm (mem_one hA ha hlt)
def mvW (x y : Nat → Nat) : List Nat → Nat → Nat
  | [], w => w
  | b :: v, w => if b = 83 then x (mvW x y v w) else y (mvW x y v w)
section
variable {L : OL} {X Y : List Int} {n : Nat} {o : Nat → O4}
theorem mv_iso (hA : AllOk L n o) (hx : ∀ w, w < L.length → ixN X w < L.length) (hy : ∀ w, w < L.length → ixN Y w < L.length) (hI : ∀ w, w < L.length → Img L X Y n o w) {w : Nat} (hw : w < L.length) :
    ∀ v : List Nat, (∀ b ∈ v, b = 83 ∨ b = 84) → mvW (ixN X) (ixN Y) v w < L.length ∧ ∃ e, Iso4 n ((o w).act v) (o (mvW (ixN X) (ixN Y) v w)) e
  | [], _ => ⟨hw, fun x => x, Iso4.refl (hA.ok w hw)⟩
  | b :: v, hv => by
    obtain ⟨hz, e, i⟩ := mv_iso hA hx hy hI hw v fun c hc => hv c (by simp [hc])
    obtain ⟨z, hze⟩ : ∃ z, z = mvW (ixN X) (ixN Y) v w := ⟨_, rfl⟩
    rw [← hze] at hz i
    have hO := hA.ok z hz
    have hcn := hA.con z hz
    have hact := (hA.ok w hw).act v
    have j := i.let hact b
    rcases hv b (by simp) with rfl | rfl
    · have k := lab_iso hA hO.S (by have := O4.conn_let hO hA.pos hcn 83; exact this) (hx z hz) (hI z hz).1
      obtain ⟨d, k⟩ := k
      refine ⟨by show ixN X (mvW (ixN X) (ixN Y) v w) < _; rw [← hze]; exact hx z hz, fun a => d (e a), ?_⟩
      show Iso4 n (((o w).act v).let 83) (o (ixN X (mvW (ixN X) (ixN Y) v w))) _
      rw [← hze]
      exact j.trans k
    · have k := lab_iso hA hO.T (by have := O4.conn_let hO hA.pos hcn 84; exact this) (hy z hz) (hI z hz).2
      obtain ⟨d, k⟩ := k
      refine ⟨by show ixN Y (mvW (ixN X) (ixN Y) v w) < _; rw [← hze]; exact hy z hz, fun a => d (e a), ?_⟩
      show Iso4 n (((o w).act v).let 84) (o (ixN Y (mvW (ixN X) (ixN Y) v w))) _
      rw [← hze]
      exact j.trans k
structure Orb (L : OL) (X Y : List Int) (n : Nat) (o : Nat → O4) : Prop where
  all : AllOk L n o
  ok : ∀ i, i < L.length → okM L i = 0
  xl : X.length = L.length
  yl : Y.length = L.length
  rx : Rg L X
  ry : Rg L Y
  im : ∀ w, w < L.length → Img L X Y n o w
theorem Orb.x (h : Orb L X Y n o) : ∀ w, w < L.length → ixN X w < L.length := fun _ hw => (ix_at h.xl h.rx hw).2
theorem Orb.y (h : Orb L X Y n o) : ∀ w, w < L.length → ixN Y w < L.length := fun _ hw => (ix_at h.yl h.ry hw).2
theorem Iso4.symm {p q : O4} {e : Nat → Nat} (i : Iso4 n p q e) (hp : p.Ok n) : ∃ d, Iso4 n q p d := by
  have hon : ∀ y, y < n → ∃ x, x < n ∧ e x = y := fun y hy => i.to.onto hy
  have hch : ∀ y, ∃ x, y < n → x < n ∧ e x = y := fun y => by
    by_cases hy : y < n
    · obtain ⟨x, hx⟩ := hon y hy
      exact ⟨x, fun _ => hx⟩
    · exact ⟨0, fun h => absurd h hy⟩
  obtain ⟨d, hd⟩ := Classical.axiomOfChoice hch
  have key : ∀ (F G : Nat → Nat), (∀ x, x < n → F x < n) → (∀ x, x < n → G (e x) = e (F x)) → ∀ y, y < n → F (d y) = d (G y) := fun F G hF h y hy => by
    obtain ⟨h1, h2⟩ := hd y hy
    have h3 := h (d y) h1
    rw [h2] at h3
    have h4 := hd (G y) (by rw [h3]; exact i.lt _ (hF _ h1))
    exact i.inj _ _ (hF _ h1) h4.1 (by rw [h4.2, h3])
  exact ⟨d, fun y hy => (hd y hy).1, fun a b ha hb hab => by rw [← (hd a ha).2, ← (hd b hb).2, hab], key _ _ hp.pr.lt i.f, key _ _ hp.pr.glt i.f', key _ _ hp.pu.lt i.g, key _ _ hp.pu.glt i.g'⟩
theorem Orb.same (h : Orb L X Y n o) {w w' : Nat} (hw : w < L.length) (hw' : w' < L.length) {u v : List Nat} (hu : ∀ b ∈ u, b = 83 ∨ b = 84) (hv : ∀ b ∈ v, b = 83 ∨ b = 84) {e : Nat → Nat} (i : Iso4 n ((o w).act u) ((o w').act v) e) : mvW (ixN X) (ixN Y) u w = mvW (ixN X) (ixN Y) v w' := by
  obtain ⟨a1, e1, i1⟩ := mv_iso h.all h.x h.y h.im hw u hu
  obtain ⟨a2, e2, i2⟩ := mv_iso h.all h.x h.y h.im hw' v hv
  obtain ⟨d, j⟩ := i1.symm ((h.all.ok w hw).act u)
  exact iso_one h.all h.ok a1 a2 ((j.trans i).trans i2)
theorem Orb.x4 (h : Orb L X Y n o) {w : Nat} (hw : w < L.length) : ixN X (ixN X (ixN X (ixN X w))) = w :=
  h.same hw hw (u := [83, 83, 83, 83]) (v := []) (by simp) (by simp) (Iso4.refl (h.all.ok w hw))
theorem Eq4.iso {p q : O4} (hp : p.Ok n) (h : Eq4 n p q) : Iso4 n p q fun x => x := ⟨fun _ h => h, fun _ _ _ _ e => e, fun x hx => (h.f x hx).symm, fun x hx => (h.f' x hx).symm, fun x hx => (h.g x hx).symm, fun x hx => (h.g' x hx).symm⟩
theorem Orb.yxx (h : Orb L X Y n o) {w : Nat} (hw : w < L.length) : ixN Y (ixN X (ixN X w)) = ixN X (ixN X (ixN Y w)) := by
  have hO := h.all.ok w hw
  have hp := hO.act [84, 83, 83]
  have i := act_rel4 hp
  rw [← O4.act_app] at i
  have l1 := let_inv ((hO.act [83, 83])) (b := 84) (.inr (.inr (.inl rfl)))
  have j : Eq4 n ((o w).act [83, 83, 84, 115, 115, 116, 84, 83, 83]) ((o w).act [83, 83, 84]) := by
    have e1 : Eq4 n ((o w).act [116, 84, 83, 83]) ((o w).act [83, 83]) := l1
    have e2 : Eq4 n ((o w).act [115, 115, 83, 83]) (o w) := act_back hO [83, 83] (by simp [IsLet])
    have e3 := e1.act (hO.act [116, 84, 83, 83]) [83, 83, 84, 115, 115]
    rw [← O4.act_app, ← O4.act_app] at e3
    have e4 := e2.act (hO.act [115, 115, 83, 83]) [83, 83, 84]
    rw [← O4.act_app] at e4
    exact e3.trans e4
  have k := i.trans (j.iso (hO.act _))
  exact h.same hw hw (u := [84, 83, 83]) (v := [83, 83, 84]) (by simp) (by simp) k
theorem Orb.yinj (h : Orb L X Y n o) {w w' : Nat} (hw : w < L.length) (hw' : w' < L.length) (e : ixN Y w = ixN Y w') : w = w' := by
  obtain ⟨-, e1, i1⟩ := mv_iso h.all h.x h.y h.im hw [84] (by simp)
  obtain ⟨-, e2, i2⟩ := mv_iso h.all h.x h.y h.im hw' [84] (by simp)
  have hO := h.all.ok w hw
  have hO' := h.all.ok w' hw'
  have i1 : Iso4 n (o w).T (o (ixN Y w)) e1 := i1
  have i2 : Iso4 n (o w').T (o (ixN Y w')) e2 := i2
  rw [← e] at i2
  obtain ⟨d, j⟩ := i2.symm hO'.T
  have k := (i1.trans j).let hO.T 116
  have a := (let_inv hO (b := 84) (.inr (.inr (.inl rfl))))
  have b := (let_inv hO' (b := 84) (.inr (.inr (.inl rfl))))
  have a' : Iso4 n (o w) ((o w).T.let 116) fun x => x := ⟨fun _ h => h, fun _ _ _ _ e => e, fun x hx => a.f x hx, fun x hx => a.f' x hx, fun x hx => a.g x hx, fun x hx => a.g' x hx⟩
  have b' : Iso4 n ((o w').T.let 116) (o w') fun x => x := Eq4.iso (hO'.T.let 116) b
  exact iso_one h.all h.ok hw hw' ((a'.trans k).trans b')
end
end Go.PI
/- PAIRS of members, of the program and of the reference. -/
open Go.Proofs
namespace Go.PI
open IM
set_option maxRecDepth 10000
set_option maxHeartbeats 4000000
variable (S : FuncId → Option (List AV → Heap → Option (AV × Heap)))
def lz (x : Nat → Nat) (i : Nat) : Nat := min i (x (x i))
def prN (x : Nat → Nat) (k : Nat) : List Int := ((List.range k).filter fun i => decide (lz x i = i)).map fun i : Nat => (i : Int)
theorem prN_yes {x : Nat → Nat} {k : Nat} (h : lz x k = k) : prN x (k + 1) = prN x k ++ [(k : Int)] := by
  unfold prN
  rw [List.range_succ, List.filter_append]
  simp [h]
theorem prN_no {x : Nat → Nat} {k : Nat} (h : lz x k ≠ k) : prN x (k + 1) = prN x k := by
  unfold prN
  rw [List.range_succ, List.filter_append]
  simp [h]
theorem prN_len {x : Nat → Nat} {k : Nat} : (prN x k).length ≤ k := by
  unfold prN
  rw [List.length_map]
  exact Nat.le_trans (List.length_filter_le _ _) (by simp)
theorem prN_get {x : Nat → Nat} {k i : Nat} {a : Int} (h : (prN x k)[i]? = some a) : ∃ m : Nat, a = m ∧ m < k ∧ lz x m = m := by
  have := List.mem_of_getElem? h
  unfold prN at this
  obtain ⟨m, hm, rfl⟩ := List.mem_map.1 this
  obtain ⟨h1, h2⟩ := List.mem_filter.1 hm
  exact ⟨m, rfl, List.mem_range.1 h1, by simpa using h2⟩
section
variable {L : OL} {X Y : List Int}
theorem fn156 : ctx.fn 156 = some c156 := by kernel_rfl
theorem lesser_ct (hS : OldO S) (hX : ∀ w, w < L.length → X[w]? = some (ixN X w : Int) ∧ ixN X w < L.length) (hl : X.length = L.length) (hL : L.length ≤ 2000) {i : Nat} (hi : i < L.length) : Ct (ctx.plus S) 156 [pB L X Y, pn i] 1 fun v => v = pn (lz (ixN X) i) := by
  obtain ⟨a1, a2⟩ := hX i hi
  obtain ⟨b1, b2⟩ := hX _ a2
  refine ct_of (hS 156 (by decide)) fn156 ?_
  refine ⟨by omega, ?_⟩
  refine ⟨by kernel_rfl, ?_⟩
  refine ⟨_, rfl, rfl, ?_⟩
  refine ⟨_, rfl, rfl, ?_⟩
  refine ⟨⟨⟨by omega, by omega⟩, len_map_le (by omega)⟩, ?_⟩
  refine ⟨_, ld (at_map a1) (by show _ * 1 = i; omega), rfl, ?_⟩
  refine ⟨⟨⟨by omega, by omega⟩, len_map_le (by omega)⟩, ?_⟩
  refine ⟨_, ld (at_map b1) (by show _ * 1 = ixN X i; omega), rfl, ?_⟩
  exact endq rfl (by show pn (min (i : Int) (ixN X (ixN X i) : Int)) = pn ((min i (ixN X (ixN X i)) : Nat) : Int); congr 1; omega)
theorem fn155 : ctx.fn 155 = some c155 := by kernel_rfl
theorem pairs_ct (hS : OldO S) (hX : ∀ w, w < L.length → X[w]? = some (ixN X w : Int) ∧ ixN X w < L.length) (hl : X.length = L.length) (hL : L.length ≤ 2000) : Ct (ctx.plus S) 155 [pB L X Y] 10000 fun v => v = pIs (prN (ixN X) L.length) := by
  refine ct_of (hS 155 (by decide)) fn155 ?_
  refine ⟨by omega, ?_⟩
  refine ⟨_, rfl, ?_⟩
  refine ⟨fun m s => ∃ (i b : Nat) (v : PV) (σ : List StB) (T : List PV), s = ⟨T, σ, b⟩ ∧ Gt T 22 [(1, .optr 0 0), (3, v), (7, pn L.length), (8, pn i)] ∧ m = L.length - i ∧ i ≤ L.length ∧ b ≤ 10 + 3 * i ∧ Hid (σ[0]? = some (.live 56 [pOs L, pIs X, pIs Y]) ∧ Gr pn 3 v σ (prN (ixN X) i) ∧ blkOf v ≠ some 0), ⟨_, ci ⟨0, _, _, _, _, rfl, ⟨rfl, rfl, rfl, rfl, rfl, trivial⟩, rfl, Nat.zero_le _, by omega, ⟨rfl, Gr.nil, (fun h => by cases h)⟩⟩⟩, ?_⟩
  rintro _ s ⟨i, b, v, σ, T, rfl, hT, rfl, hi, hb, hh⟩
  obtain ⟨J, rfl⟩ := gt_open hT
  clear hT
  obtain ⟨s0, hg, hv⟩ := hh.h
  clear hh
  have hpl := prN_len (x := ixN X) (k := i)
  refine ⟨fun hlt => ?_, fun hge => ?_⟩
  · have hil : i < L.length := by omega
    refine ⟨_, load_agg S rfl (contOf_live s0) rfl, ?_⟩
    refine callq rfl (lesser_ct S hS hX hl hL hil) (by omega) ?_
    rintro _ rfl
    refine ⟨fun h => ?_, fun h => ?_⟩
    · have h : lz (ixN X) i = i := by omega
      refine ⟨by omega, partc rfl ⟨_, rfl, ?_⟩⟩
      refine appG (Gr.keep hg fun j b _ hb => push_old hb) push_cont rfl rfl rfl rfl rfl rfl rfl (by omega) (by omega) ?_
      intro v' σ' g1 g2 g3
      refine ⟨⟨by omega, by omega⟩, ?_⟩
      refine ⟨_, by omega, ci ⟨i + 1, _, v', σ', _, rfl, ⟨rfl, rfl, rfl, rfl, rfl, trivial⟩, rfl, by omega, by omega, ⟨g2 0 _ hv (push_old s0), by rw [prN_yes h]; exact g1, fun e => ?_⟩⟩⟩
      rw [g3] at e
      have := Option.some.inj e
      have h0 := (List.getElem?_eq_some_iff.1 s0).1
      simp at this
    · have h : lz (ixN X) i ≠ i := by omega
      refine ⟨⟨by omega, by omega⟩, ?_⟩
      exact ⟨_, by omega, ci ⟨i + 1, _, v, σ, _, rfl, ⟨rfl, rfl, rfl, rfl, rfl, trivial⟩, rfl, by omega, by omega, ⟨s0, by rw [prN_no h]; exact hg, hv⟩⟩⟩
  · have hie : i = L.length := by omega
    subst hie
    obtain ⟨σ', hf⟩ := hg.fz
    exact endf hf rfl
end
end Go.PI
/- PAIRS and elliptic points. -/
open Go.Proofs
namespace Go.PI
open IM
set_option maxRecDepth 10000
set_option maxHeartbeats 4000000
variable (S : FuncId → Option (List AV → Heap → Option (AV × Heap)))
section
variable {L : OL} {X Y : List Int}
theorem fn104 : ctx.fn 104 = some c104 := by kernel_rfl
theorem pair_ct (hS : OldO S) (hX : ∀ w, w < L.length → X[w]? = some (ixN X w : Int) ∧ ixN X w < L.length) (hl : X.length = L.length) (hL : L.length ≤ 2000) {i : Nat} (hi : i < L.length) : Ct (ctx.plus S) 104 [pB L X Y, pn i] 1 fun v => v = pn (lz (ixN X) i) := by
  obtain ⟨a1, a2⟩ := hX i hi
  obtain ⟨b1, b2⟩ := hX _ a2
  refine ct_of (hS 104 (by decide)) fn104 ?_
  refine ⟨by omega, ?_⟩
  refine ⟨by kernel_rfl, ?_⟩
  refine ⟨_, rfl, rfl, ?_⟩
  refine ⟨_, rfl, rfl, ?_⟩
  refine ⟨⟨⟨by omega, by omega⟩, len_map_le (by omega)⟩, ?_⟩
  refine ⟨_, ld (at_map a1) (by show _ * 1 = i; omega), rfl, ?_⟩
  refine ⟨⟨⟨by omega, by omega⟩, len_map_le (by omega)⟩, ?_⟩
  refine ⟨_, ld (at_map b1) (by show _ * 1 = ixN X i; omega), rfl, ?_⟩
  exact endq rfl (by show pn (min (i : Int) (ixN X (ixN X i) : Int)) = pn ((min i (ixN X (ixN X i)) : Nat) : Int); congr 1; omega)
theorem fn103 : ctx.fn 103 = some c103 := by kernel_rfl
theorem rpairs_ct (hS : OldO S) (hX : ∀ w, w < L.length → X[w]? = some (ixN X w : Int) ∧ ixN X w < L.length) (hl : X.length = L.length) (hL : L.length ≤ 2000) : Ct (ctx.plus S) 103 [pB L X Y] 10000 fun v => v = pIs (prN (ixN X) L.length) := by
  refine ct_of (hS 103 (by decide)) fn103 ?_
  refine ⟨by omega, ?_⟩
  refine ⟨fun m s => ∃ (i b : Nat) (v : PV) (σ : List StB) (T : List PV), s = ⟨T, σ, b⟩ ∧ Gt T 22 [(1, .optr 0 0), (3, v), (4, pn i)] ∧ m = L.length - i ∧ i ≤ L.length ∧ b ≤ 10 + 3 * i ∧ Hid (σ[0]? = some (.live 56 [pOs L, pIs X, pIs Y]) ∧ Gr pn 3 v σ (prN (ixN X) i) ∧ blkOf v ≠ some 0), ⟨_, ci ⟨0, _, _, _, _, rfl, ⟨rfl, rfl, rfl, rfl, trivial⟩, rfl, Nat.zero_le _, by omega, ⟨rfl, Gr.nil, (fun h => by cases h)⟩⟩⟩, ?_⟩
  rintro _ s ⟨i, b, v, σ, T, rfl, hT, rfl, hi, hb, hh⟩
  obtain ⟨J, rfl⟩ := gt_open hT
  clear hT
  obtain ⟨s0, hg, hv⟩ := hh.h
  clear hh
  have hpl := prN_len (x := ixN X) (k := i)
  refine ⟨_, load_k rfl rfl (contOf_live s0) (show [pOs L, pIs X, pIs Y][0]? = some (pOs L) from rfl) rfl, ?_⟩
  refine ⟨fun hlt => ?_, fun hge => ?_⟩
  · have hil : i < L.length := by have h : (i : Int) < (L.length : Nat) := hlt; omega
    refine ⟨_, load_agg S rfl (contOf_live s0) rfl, ?_⟩
    refine callq rfl (pair_ct S hS hX hl hL hil) (by omega) ?_
    rintro _ rfl
    refine ⟨fun h => ?_, fun h => ?_⟩
    · have h : lz (ixN X) i = i := by omega
      refine ⟨by omega, partc rfl ⟨_, rfl, ?_⟩⟩
      refine appG (Gr.keep hg fun j b _ hb => push_old hb) push_cont rfl rfl rfl rfl rfl rfl rfl (by omega) (by omega) ?_
      intro v' σ' g1 g2 g3
      refine ⟨⟨by omega, by omega⟩, ?_⟩
      refine ⟨_, by omega, ci ⟨i + 1, _, v', σ', _, rfl, ⟨rfl, rfl, rfl, rfl, trivial⟩, rfl, by omega, by omega, ⟨g2 0 _ hv (push_old s0), by rw [prN_yes h]; exact g1, fun e => ?_⟩⟩⟩
      rw [g3] at e
      have := Option.some.inj e
      have h0 := (List.getElem?_eq_some_iff.1 s0).1
      simp at this
    · have h : lz (ixN X) i ≠ i := by omega
      refine ⟨⟨by omega, by omega⟩, ?_⟩
      exact ⟨_, by omega, ci ⟨i + 1, _, v, σ, _, rfl, ⟨rfl, rfl, rfl, rfl, trivial⟩, rfl, by omega, by omega, ⟨s0, by rw [prN_no h]; exact hg, hv⟩⟩⟩
  · have hie : i = L.length := by have h : ((L.length : Nat) : Int) ≤ i := hge; omega
    subst hie
    obtain ⟨σ', hf⟩ := hg.fz
    exact endf hf rfl
def cntF (x g : Nat → Nat) (P : List Int) : Nat := (P.filter fun a => decide ((lz x (g a.toNat) : Int) = a)).length
theorem cntF_le {x g : Nat → Nat} {P : List Int} : cntF x g P ≤ P.length := List.length_filter_le _ _
theorem cntF_yes {x g : Nat → Nat} {P : List Int} {i m : Nat} (h : P[i]? = some (m : Int)) (hg : lz x (g m) = m) : cntF x g (P.take (i + 1)) = cntF x g (P.take i) + 1 := by
  unfold cntF
  rw [List.take_add_one, h, List.filter_append, List.length_append]
  simp [hg]
theorem cntF_no {x g : Nat → Nat} {P : List Int} {i m : Nat} (h : P[i]? = some (m : Int)) (hg : lz x (g m) ≠ m) : cntF x g (P.take (i + 1)) = cntF x g (P.take i) := by
  unfold cntF
  rw [List.take_add_one, h, List.filter_append, List.length_append]
  have : ¬ ((lz x (g m) : Int) = m) := by omega
  simp [this]
noncomputable def ell2 (X : List Int) (P : List Int) : Nat := cntF (ixN X) (ixN X) P
noncomputable def ell3 (X Y : List Int) (P : List Int) : Nat := cntF (ixN X) (fun i => ixN X (ixN Y i)) P
theorem fn100 : ctx.fn 100 = some c100 := by kernel_rfl
theorem elliptic_ct (hS : OldO S) (hX : ∀ w, w < L.length → X[w]? = some (ixN X w : Int) ∧ ixN X w < L.length) (hY : ∀ w, w < L.length → Y[w]? = some (ixN Y w : Int) ∧ ixN Y w < L.length) (hl : X.length = L.length) (hl2 : Y.length = L.length) (hL : L.length ≤ 2000) :
    Ct (ctx.plus S) 100 [pB L X Y] 20000 fun v => v = .tup [pn (ell2 X (prN (ixN X) L.length)), pn (ell3 X Y (prN (ixN X) L.length))] := by
  obtain ⟨P, hP⟩ : ∃ P, P = prN (ixN X) L.length := ⟨_, rfl⟩
  have hpl : P.length ≤ L.length := by rw [hP]; exact prN_len
  have hpg : ∀ (i : Nat) (a : Int), P[i]? = some a → ∃ m : Nat, a = m ∧ m < L.length ∧ lz (ixN X) m = m := fun i a h => by rw [hP] at h; exact prN_get h
  have hpc := pairs_ct S hS (X := X) (Y := Y) hX hl hL
  rw [← hP] at hpc ⊢
  refine ct_of (hS 100 (by decide)) fn100 ?_
  refine ⟨by omega, ?_⟩
  refine ⟨_, rfl, ?_⟩
  refine callq rfl hpc (by omega) ?_
  rintro _ rfl
  refine ⟨fun m s => ∃ (i b : Nat) (T : List PV), s = ⟨T, [.live 56 [pOs L, pIs X, pIs Y]], b⟩ ∧ Gt T 42 [(1, .optr 0 0), (2, pn (ell2 X (P.take i))), (3, pn (ell3 X Y (P.take i))), (7, pIs P), (8, pn P.length), (9, pn i)] ∧ m = P.length - i ∧ i ≤ P.length ∧ b ≤ 10010 + 2 * i, ⟨_, ci ⟨0, _, _, rfl, ⟨rfl, rfl, rfl, rfl, rfl, rfl, rfl, trivial⟩, rfl, Nat.zero_le _, by omega⟩⟩, ?_⟩
  rintro _ s ⟨i, b, T, rfl, hT, rfl, hi, hb⟩
  obtain ⟨J, rfl⟩ := gt_open hT
  clear hT
  refine ⟨fun hlt => ?_, fun hge => ?_⟩
  · obtain ⟨a, ha⟩ := xs_get (xs := P) (i := i) (by omega)
    obtain ⟨m, rfl, hm, hmz⟩ := hpg i a ha
    obtain ⟨x1, x2⟩ := hX m hm
    obtain ⟨y1, y2⟩ := hY m hm
    obtain ⟨z1, z2⟩ := hX _ y2
    have h2l : ell2 X (P.take i) ≤ i := Nat.le_trans cntF_le (by rw [List.length_take]; omega)
    have h3l : ell3 X Y (P.take i) ≤ i := Nat.le_trans cntF_le (by rw [List.length_take]; omega)
    have k2y : lz (ixN X) (ixN X m) = m → ell2 X (P.take (i + 1)) = ell2 X (P.take i) + 1 := fun h => cntF_yes ha h
    have k2n : lz (ixN X) (ixN X m) ≠ m → ell2 X (P.take (i + 1)) = ell2 X (P.take i) := fun h => cntF_no ha h
    have k3y : lz (ixN X) (ixN X (ixN Y m)) = m → ell3 X Y (P.take (i + 1)) = ell3 X Y (P.take i) + 1 := fun h => cntF_yes (g := fun i => ixN X (ixN Y i)) ha h
    have k3n : lz (ixN X) (ixN X (ixN Y m)) ≠ m → ell3 X Y (P.take (i + 1)) = ell3 X Y (P.take i) := fun h => cntF_no (g := fun i => ixN X (ixN Y i)) ha h
    refine ⟨⟨⟨by omega, by omega⟩, len_map_le (by omega)⟩, ?_⟩
    refine ⟨_, ld (at_map ha) (by show _ * 1 = i; omega), ?_⟩
    refine ⟨by kernel_rfl, ?_⟩
    refine ⟨_, rfl, rfl, ?_⟩
    refine ⟨_, rfl, rfl, ?_⟩
    refine ⟨⟨⟨by omega, by omega⟩, len_map_le (by omega)⟩, ?_⟩
    refine ⟨_, ld (at_map x1) (by show _ * 1 = m; omega), rfl, ?_⟩
    refine callq (ps := [pB L X Y, pn (ixN X m)]) rfl (lesser_ct S hS hX hl hL x2) (by omega) ?_
    rintro _ rfl
    refine ⟨fun h => ?_, fun h => ?_⟩
    all_goals
      first
        | (refine ⟨⟨by omega, by omega⟩, ?_⟩; have hA := k2y (by omega))
        | (have hA := k2n (by omega))
      refine ⟨by kernel_rfl, ?_⟩
      refine ⟨_, rfl, rfl, ?_⟩
      refine ⟨_, rfl, rfl, ?_⟩
      refine ⟨_, rfl, rfl, ?_⟩
      refine ⟨⟨⟨by omega, by omega⟩, len_map_le (by omega)⟩, ?_⟩
      refine ⟨_, ld (at_map y1) (by show _ * 1 = m; omega), rfl, ?_⟩
      refine ⟨⟨⟨by omega, by omega⟩, len_map_le (by omega)⟩, ?_⟩
      refine ⟨_, ld (at_map z1) (by show _ * 1 = ixN Y m; omega), rfl, ?_⟩
      refine callq (ps := [pB L X Y, pn (ixN X (ixN Y m))]) rfl (lesser_ct S hS hX hl hL z2) (by omega) ?_
      rintro _ rfl
      refine ⟨fun h' => ?_, fun h' => ?_⟩
      all_goals
        first
          | (refine ⟨⟨by omega, by omega⟩, ?_⟩; have hB := k3y (by omega))
          | (have hB := k3n (by omega))
        refine ⟨⟨by omega, by omega⟩, ?_⟩
        exact ⟨_, by omega, ci ⟨i + 1, _, _, rfl, ⟨rfl, rfl, by rw [hA]; rfl, by rw [hB]; rfl, rfl, rfl, rfl, trivial⟩, rfl, by omega, by omega⟩⟩
  · have hie : i = P.length := by omega
    subst hie
    rw [List.take_length]
    exact endsq rfl rfl
end
end Go.PI
/- ELLIPTIC POINTS, of the reference. -/
open Go.Proofs
namespace Go.PI
open IM
set_option maxRecDepth 10000
set_option maxHeartbeats 4000000
variable (S : FuncId → Option (List AV → Heap → Option (AV × Heap)))
section
variable {L : OL} {X Y : List Int}
theorem fn48 : ctx.fn 48 = some c48 := by kernel_rfl
theorem relliptic_ct (hS : OldO S) (hX : ∀ w, w < L.length → X[w]? = some (ixN X w : Int) ∧ ixN X w < L.length) (hY : ∀ w, w < L.length → Y[w]? = some (ixN Y w : Int) ∧ ixN Y w < L.length) (hl : X.length = L.length) (hl2 : Y.length = L.length) (hL : L.length ≤ 2000) :
    Ct (ctx.plus S) 48 [pB L X Y] 20000 fun v => v = .tup [pn (ell2 X (prN (ixN X) L.length)), pn (ell3 X Y (prN (ixN X) L.length))] := by
  obtain ⟨P, hP⟩ : ∃ P, P = prN (ixN X) L.length := ⟨_, rfl⟩
  have hpl : P.length ≤ L.length := by rw [hP]; exact prN_len
  have hpg : ∀ (i : Nat) (a : Int), P[i]? = some a → ∃ m : Nat, a = m ∧ m < L.length ∧ lz (ixN X) m = m := fun i a h => by rw [hP] at h; exact prN_get h
  have hpc := rpairs_ct S hS (X := X) (Y := Y) hX hl hL
  rw [← hP] at hpc ⊢
  refine ct_of (hS 48 (by decide)) fn48 ?_
  refine ⟨by omega, ?_⟩
  refine ⟨_, rfl, ?_⟩
  refine callq rfl hpc (by omega) ?_
  rintro _ rfl
  refine ⟨fun m s => ∃ (i b : Nat) (T : List PV), s = ⟨T, [.live 56 [pOs L, pIs X, pIs Y]], b⟩ ∧ Gt T 56 [(1, .optr 0 0), (4, pIs P), (5, pn (ell2 X (P.take i))), (6, pn (ell3 X Y (P.take i))), (7, pn i)] ∧ m = P.length - i ∧ i ≤ P.length ∧ b ≤ 10010 + 2 * i, ⟨_, ci ⟨0, _, _, rfl, ⟨rfl, rfl, rfl, rfl, rfl, rfl, trivial⟩, rfl, Nat.zero_le _, by omega⟩⟩, ?_⟩
  rintro _ s ⟨i, b, T, rfl, hT, rfl, hi, hb⟩
  obtain ⟨J, rfl⟩ := gt_open hT
  clear hT
  refine ⟨fun hlt => ?_, fun hge => ?_⟩
  · obtain ⟨a, ha⟩ := xs_get (xs := P) (i := i) (by omega)
    obtain ⟨m, rfl, hm, hmz⟩ := hpg i a ha
    obtain ⟨x1, x2⟩ := hX m hm
    obtain ⟨y1, y2⟩ := hY m hm
    obtain ⟨z1, z2⟩ := hX _ y2
    have h2l : ell2 X (P.take i) ≤ i := Nat.le_trans cntF_le (by rw [List.length_take]; omega)
    have h3l : ell3 X Y (P.take i) ≤ i := Nat.le_trans cntF_le (by rw [List.length_take]; omega)
    have k2y : lz (ixN X) (ixN X m) = m → ell2 X (P.take (i + 1)) = ell2 X (P.take i) + 1 := fun h => cntF_yes ha h
    have k2n : lz (ixN X) (ixN X m) ≠ m → ell2 X (P.take (i + 1)) = ell2 X (P.take i) := fun h => cntF_no ha h
    have k3y : lz (ixN X) (ixN X (ixN Y m)) = m → ell3 X Y (P.take (i + 1)) = ell3 X Y (P.take i) + 1 := fun h => cntF_yes (g := fun i => ixN X (ixN Y i)) ha h
    have k3n : lz (ixN X) (ixN X (ixN Y m)) ≠ m → ell3 X Y (P.take (i + 1)) = ell3 X Y (P.take i) := fun h => cntF_no (g := fun i => ixN X (ixN Y i)) ha h
    refine ⟨by kernel_rfl, ?_⟩
    refine ⟨_, rfl, rfl, ?_⟩
    refine ⟨_, rfl, rfl, ?_⟩
    refine ⟨⟨⟨by omega, by omega⟩, len_map_le (by omega)⟩, ?_⟩
    refine ⟨_, ld (at_map ha) (by show _ * 1 = i; omega), rfl, ?_⟩
    refine ⟨⟨⟨by omega, by omega⟩, len_map_le (by omega)⟩, ?_⟩
    refine ⟨_, ld (at_map x1) (by show _ * 1 = m; omega), rfl, ?_⟩
    refine callq (ps := [pB L X Y, pn (ixN X m)]) rfl (pair_ct S hS hX hl hL x2) (by omega) ?_
    rintro _ rfl
    refine ⟨⟨⟨by omega, by omega⟩, len_map_le (by omega)⟩, ?_⟩
    refine ⟨_, ld (at_map ha) (by show _ * 1 = i; omega), rfl, ?_⟩
    refine ⟨fun h => ?_, fun h => ?_⟩
    all_goals
      first
        | (refine ⟨⟨by omega, by omega⟩, ?_⟩; have hA := k2y (by omega))
        | (have hA := k2n (by omega))
      refine ⟨by kernel_rfl, ?_⟩
      refine ⟨_, rfl, rfl, ?_⟩
      refine ⟨_, rfl, rfl, ?_⟩
      refine ⟨_, rfl, rfl, ?_⟩
      refine ⟨⟨⟨by omega, by omega⟩, len_map_le (by omega)⟩, ?_⟩
      refine ⟨_, ld (at_map ha) (by show _ * 1 = i; omega), rfl, ?_⟩
      refine ⟨⟨⟨by omega, by omega⟩, len_map_le (by omega)⟩, ?_⟩
      refine ⟨_, ld (at_map y1) (by show _ * 1 = m; omega), rfl, ?_⟩
      refine ⟨⟨⟨by omega, by omega⟩, len_map_le (by omega)⟩, ?_⟩
      refine ⟨_, ld (at_map z1) (by show _ * 1 = ixN Y m; omega), rfl, ?_⟩
      refine callq (ps := [pB L X Y, pn (ixN X (ixN Y m))]) rfl (pair_ct S hS hX hl hL z2) (by omega) ?_
      rintro _ rfl
      refine ⟨⟨⟨by omega, by omega⟩, len_map_le (by omega)⟩, ?_⟩
      refine ⟨_, ld (at_map ha) (by show _ * 1 = i; omega), rfl, ?_⟩
      refine ⟨fun h' => ?_, fun h' => ?_⟩
      all_goals
        first
          | (refine ⟨⟨by omega, by omega⟩, ?_⟩; have hB := k3y (by omega))
          | (have hB := k3n (by omega))
        refine ⟨⟨by omega, by omega⟩, ?_⟩
        exact ⟨_, by omega, ci ⟨i + 1, _, _, rfl, ⟨rfl, rfl, rfl, by rw [hA]; rfl, by rw [hB]; rfl, rfl, trivial⟩, rfl, by omega, by omega⟩⟩
  · have hie : i = P.length := by omega
    subst hie
    rw [List.take_length]
    exact endsq rfl rfl
end
end Go.PI
/- CUSPS: the cycles of pairs of members. -/
open Go.Proofs
namespace Go.PI
open IM
def cuF (x y : Nat → Nat) (i : Nat) : Nat := if lz x i = i then lz x (y i) else i
section
variable {N : Nat} {x y : Nat → Nat}
structure XY (N : Nat) (x y : Nat → Nat) : Prop where
  xl : ∀ i, i < N → x i < N
  yl : ∀ i, i < N → y i < N
  x4 : ∀ i, i < N → x (x (x (x i))) = i
  yxx : ∀ i, i < N → y (x (x i)) = x (x (y i))
  yinj : ∀ i j, i < N → j < N → y i = y j → i = j
theorem lz_le {i : Nat} : lz x i ≤ i := Nat.min_le_left _ _
theorem lz_is {i : Nat} : lz x i = i ∨ lz x i = x (x i) := by unfold lz; omega
theorem XY.lzl (h : XY N x y) {i : Nat} (hi : i < N) : lz x i < N := Nat.lt_of_le_of_lt lz_le hi
theorem XY.lz2 (h : XY N x y) {i : Nat} (hi : i < N) : lz x (lz x i) = lz x i := by
  have h4 := h.x4 i hi
  rcases lz_is (x := x) (i := i) with e | e
  · rw [e, e]
  · have hle := lz_le (x := x) (i := i)
    rw [e] at hle ⊢
    unfold lz
    rw [h4]
    omega
theorem XY.lz_one (h : XY N x y) {i j : Nat} (hi : i < N) (hj : j < N) (e : lz x i = lz x j) : i = j ∨ i = x (x j) := by
  have h4i := h.x4 i hi
  have h4j := h.x4 j hj
  rcases lz_is (x := x) (i := i) with ei | ei <;> rcases lz_is (x := x) (i := j) with ej | ej <;> rw [ei, ej] at e
  · exact .inl e
  · exact .inr e
  · right; rw [← e, h4i]
  · left; rw [← h4i, e, h4j]
theorem XY.rep (h : XY N x y) {i : Nat} (hi : i < N) (hr : lz x i = i) : lz x (cuF x y i) = cuF x y i := by
  unfold cuF
  rw [if_pos hr]
  exact h.lz2 (h.yl i hi)
theorem XY.culz (h : XY N x y) {i : Nat} (hi : i < N) : cuF x y i < N := by
  unfold cuF
  split
  · exact h.lzl (h.yl i hi)
  · exact hi
theorem XY.cuinj (h : XY N x y) {i j : Nat} (hi : i < N) (hj : j < N) (e : cuF x y i = cuF x y j) : i = j := by
  by_cases ri : lz x i = i
  · by_cases rj : lz x j = j
    · unfold cuF at e
      rw [if_pos ri, if_pos rj] at e
      rcases h.lz_one (h.yl i hi) (h.yl j hj) e with e | e
      · exact h.yinj i j hi hj e
      · rw [← h.yxx j hj] at e
        have e := h.yinj _ _ hi (h.xl _ (h.xl _ hj)) e
        have e2 : x (x i) = j := by rw [e, h.x4 j hj]
        unfold lz at ri rj
        rw [e2] at ri
        rw [← e] at rj
        omega
    · have := h.rep hi ri
      rw [e] at this
      unfold cuF at this
      rw [if_neg rj] at this
      exact absurd this rj
  · by_cases rj : lz x j = j
    · have := h.rep hj rj
      rw [← e] at this
      unfold cuF at this
      rw [if_neg ri] at this
      exact absurd this ri
    · unfold cuF at e
      rw [if_neg ri, if_neg rj] at e
      exact e
theorem XY.perm (h : XY N x y) : ∃ c', IsP N (cuF x y) c' := by
  have hI : Isom N (fun i => i) (fun i => i) (fun i => i) (fun i => i) (cuF x y) := ⟨fun i hi => h.culz hi, fun i j hi hj e => h.cuinj hi hj e, fun _ _ => rfl, fun _ _ => rfl⟩
  have hch : ∀ i, ∃ j, i < N → j < N ∧ cuF x y j = i := fun i => by
    by_cases hi : i < N
    · obtain ⟨j, hj, e⟩ := hI.onto hi
      exact ⟨j, fun _ => ⟨hj, e⟩⟩
    · exact ⟨0, fun h => absurd h hi⟩
  obtain ⟨c', hc⟩ := Classical.axiomOfChoice hch
  exact ⟨c', fun i hi => h.culz hi, fun i hi => (hc i hi).1, fun i hi => h.cuinj (hc _ (h.culz hi)).1 hi (hc _ (h.culz hi)).2, fun i hi => (hc i hi).2⟩
theorem XY.rep_it (h : XY N x y) {i : Nat} (hi : i < N) (hr : lz x i = i) : ∀ k, it (cuF x y) k i < N ∧ lz x (it (cuF x y) k i) = it (cuF x y) k i
  | 0 => ⟨hi, hr⟩
  | k + 1 => by
    obtain ⟨h1, h2⟩ := h.rep_it hi hr k
    exact ⟨h.culz h1, h.rep h1 h2⟩
theorem prN_mem {k : Nat} {a : Int} : a ∈ prN x k ↔ ∃ m : Nat, a = m ∧ m < k ∧ lz x m = m := by
  unfold prN
  constructor
  · intro h
    obtain ⟨m, hm, rfl⟩ := List.mem_map.1 h
    obtain ⟨h1, h2⟩ := List.mem_filter.1 hm
    exact ⟨m, rfl, List.mem_range.1 h1, by simpa using h2⟩
  · rintro ⟨m, rfl, h1, h2⟩
    exact List.mem_map.2 ⟨m, List.mem_filter.2 ⟨List.mem_range.2 h1, by simpa using h2⟩, rfl⟩
theorem prN_take : ∀ {k t m : Nat}, (prN x k)[t]? = some (m : Int) → (prN x k).take t = prN x m
  | 0, t, m, h => by simp [prN] at h
  | k + 1, t, m, h => by
    by_cases hr : lz x k = k
    · rw [prN_yes hr] at h ⊢
      rcases Nat.lt_trichotomy t (prN x k).length with ht | ht | ht
      · rw [List.getElem?_append_left ht] at h
        rw [List.take_append_of_le_length (by omega)]
        exact prN_take h
      · subst ht
        rw [List.getElem?_append_right (Nat.le_refl _), Nat.sub_self] at h
        have hm : k = m := by
          have := Option.some.inj h
          omega
        rw [List.take_append_of_le_length (Nat.le_refl _), List.take_length, hm]
      · rw [List.getElem?_eq_none (by simp; omega)] at h
        cases h
    · rw [prN_no hr] at h ⊢
      exact prN_take h
open Classical in
/-- the cusps that begin with one of a list -/
noncomputable def cuL (x y : Nat → Nat) (P : List Int) : List (List Int) := (P.filter fun a => decide (lead (cuF x y) a.toNat)).map fun a => cyc (cuF x y) a.toNat
theorem cuL_yes {P : List Int} {t m : Nat} (h : P[t]? = some (m : Int)) (hl : lead (cuF x y) m) : cuL x y (P.take (t + 1)) = cuL x y (P.take t) ++ [cyc (cuF x y) m] := by
  unfold cuL
  rw [List.take_add_one, h, List.filter_append, List.map_append]
  simp [hl]
theorem cuL_no {P : List Int} {t m : Nat} (h : P[t]? = some (m : Int)) (hl : ¬ lead (cuF x y) m) : cuL x y (P.take (t + 1)) = cuL x y (P.take t) := by
  unfold cuL
  rw [List.take_add_one, h, List.filter_append, List.map_append]
  simp [hl]
theorem XY.seen (h : XY N x y) {t m : Nat} (ht : (prN x N)[t]? = some (m : Int)) : (∃ m' : Nat, (m' : Int) ∈ (prN x N).take t ∧ InC (cuF x y) m' m) ↔ ¬ lead (cuF x y) m := by
  obtain ⟨c', hc⟩ := h.perm
  obtain ⟨m0, e0, hm, hr⟩ := prN_get ht
  have : m0 = m := by omega
  subst this
  rw [prN_take ht]
  constructor
  · rintro ⟨m', h1, h2⟩ hl
    obtain ⟨m1, e1, h3, h4⟩ := prN_mem.1 h1
    have : m1 = m' := by omega
    subst this
    have := hl m1 (h2.symm hc (by omega))
    omega
  · intro hn
    unfold lead at hn
    obtain ⟨z, hz⟩ := Classical.not_forall.1 hn
    obtain ⟨h1, h2⟩ := Classical.not_imp.1 hz
    obtain ⟨k, hk⟩ := id h1
    obtain ⟨h3, h4⟩ := h.rep_it hm hr k
    rw [hk] at h3 h4
    exact ⟨z, prN_mem.2 ⟨z, rfl, by omega, h4⟩, h1.symm hc hm⟩
end
theorem Orb.xy {L : OL} {X Y : List Int} {n : Nat} {o : Nat → O4} (h : Orb L X Y n o) : XY L.length (ixN X) (ixN Y) :=
  ⟨h.x, h.y, fun _ hi => h.x4 hi, fun _ hi => h.yxx hi, fun _ _ hi hj e => h.yinj hi hj e⟩
end Go.PI
