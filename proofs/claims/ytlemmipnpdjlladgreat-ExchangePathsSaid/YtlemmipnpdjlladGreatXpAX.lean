/- Own work of the verifier: XpT XpU. -/
import Derived.Test.YtlemmipnpdjlladGreatXpAW
set_option linter.all false
set_option exponentiation.threshold 3000
set_option linter.deprecated false
/- STEPS, one after the other: the reference's. -/
open Go.Proofs
namespace Go.PI
open IM
set_option maxRecDepth 10000
set_option maxHeartbeats 4000000
/-- what a call from no store of ours ends with, after some blocks have been closed -/
theorem Cm.ctS {C : Ctx} {g : FuncId} {ps : List PV} {d : Nat} {Q : PV → List StB → Prop} {Q' : PV → Prop} (h : Cm C g ps [] d Q) (hq : ∀ r σ', Q r σ' → ∃ js, sealsK σ' js fun σ2 => frzAK σ2 r fun p _ => Q' p) : Ct C g ps d Q' := by
  intro H W avs hw hr hn
  have I : Sto H W d [] 0 W [] H := ⟨hn, Nat.zero_le _, Nat.le_refl _, Nat.le_refl _, fun _ _ => rfl, hw, fun _ h => h, fun _ h => .inl h, rfl, fun i b h => by simp at h, fun i t l b h => by simp at h, fun i t l b h => by simp at h, fun i j b h => by simp at h, fun i t l b h => by simp at h⟩
  refine (h H W d 0 W [] H avs I (by omega) (RelVs.clo hr)).mono ?_
  rintro v H' ⟨r, σ', k', W', β', E, I', hv, hQ, hk⟩
  obtain ⟨js, hs⟩ := hq r σ' hQ
  obtain ⟨σ1, W1, E1, I1, -, h4⟩ := sealsK_ok hs I'
  obtain ⟨p, σ2, W2, f, r2, hp⟩ := frzAK_ok h4 I1 (hv.ext E1)
  exact ⟨p, hp, r2.mono (fun _ _ _ => rfl) (fun A _ h => f.2.1.w0 A h), I1.lo, by have := I1.hi; omega, I1.keep⟩
variable (S : FuncId → Option (List AV → Heap → Option (AV × Heap)))
theorem runit_ct (hS : OldX S) {n : Nat} (hn : n ≤ 12) : Ct (ctx.plus S) 33 [pn n] 13 fun r => r = pM (unitM n) := by
  refine (runit_cm S hS (n := n) (σ := []) hn).ctS ?_
  rintro _ σ ⟨rfl, hM, -, -⟩
  have hM : Mx σ 0 n (unitM n) := hM
  have hMl : (unitM n).length = n := by simp [unitM]
  refine ⟨[0], seal_mx hM fun σ' h1 _ => ?_⟩
  refine ⟨22, _, (unitM n).map pIs, h1, ⟨by rw [List.length_map]; omega, Nat.le_refl _⟩, by rw [List.drop_zero, List.take_of_length_le (by rw [List.length_map]; omega)], ?_⟩
  show PV.lst n _ = pM _
  unfold pM
  rw [hMl]
theorem stepM_bd {n w l : Nat} {r : List Int} (h : r ∈ stepM n w l) : r.length = n ∧ ∀ a ∈ r, 0 ≤ a ∧ a ≤ 1 := by
  have hu : ∀ q, (unitR n q).length = n ∧ ∀ a ∈ unitR n q, 0 ≤ a ∧ a ≤ 1 := fun q => by
    refine ⟨by simp [unitR], fun a ha => ?_⟩
    unfold unitR at ha
    rcases List.mem_or_eq_of_mem_set ha with ha | rfl
    · rw [(List.mem_replicate.1 ha).2]; decide
    · decide
  unfold stepM at h
  rcases List.mem_or_eq_of_mem_set h with h | rfl
  · obtain ⟨q, hq⟩ := List.getElem?_of_mem h
    obtain ⟨-, rfl⟩ := unitM_get hq
    exact hu q
  · refine ⟨by rw [List.length_set]; exact (hu w).1, fun a ha => ?_⟩
    rcases List.mem_or_eq_of_mem_set ha with ha | rfl
    · exact (hu w).2 a ha
    · decide
theorem stepM_len {n w l : Nat} : (stepM n w l).length = n := by simp [stepM, unitM]
theorem fn16 : ctx.fn 16 = some c16 := by kernel_rfl
theorem rfollow_ct (hS : OldX S) {n : Nat} {t b ks : List Int} (h : Rws n t b) (hk : ks.length ≤ 20) : Ct (ctx.plus S) 16 [pRo t b, pIs ks] 6000 fun r => r = pPS (runS (t, b, unitM n) ks) := by
  have hn := h.hn
  have hlt := h.lt
  have hlb := h.lb
  have hI := PInv.run (ks := ks) (PInv.zero h)
  subst hlt
  refine ct_of (hS 16 (by decide)) fn16 ?_
  refine ⟨by omega, by omega, ?_⟩
  refine ⟨_, rfl, ?_⟩
  refine callq rfl (runit_ct S hS (n := t.length) (by omega)) (by omega) ?_
  rintro _ rfl
  refine ⟨by kernel_rfl, ?_⟩
  refine ⟨_, rfl, rfl, ?_⟩
  refine callq rfl (copy_ct S hS (by omega)) (by omega) ?_
  rintro _ rfl
  refine ⟨_, rfl, rfl, ?_⟩
  refine callq rfl (copy_ct S hS (by omega)) (by omega) ?_
  rintro _ rfl
  refine part2 fzL fzL ⟨[pIs t, pIs b], rfl, ?_⟩
  refine ⟨by omega, ?_⟩
  refine ⟨_, _, rfl, ⟨rfl, Nat.le_refl 2, rfl⟩, _, rfl, _, rfl, ?_⟩
  refine ⟨fun m s => ∃ (i k : Nat) (σ : List StB) (T : List PV), s = ⟨T, σ, k⟩ ∧ Gt T 43 [(1, pIs ks), (4, .optr 1 0), (6, pM (runS (t, b, unitM t.length) (ks.take i)).2.2), (7, .optr 2 0), (8, pn i)] ∧ m = ks.length - i ∧ i ≤ ks.length ∧ k ≤ 200 + 200 * i ∧ (∃ cs, σ[1]? = some (.live 24 cs) ∧ cs.length = 2) ∧ σ[2]? = some (.live 24 [pIs (runS (t, b, unitM t.length) (ks.take i)).1, pIs (runS (t, b, unitM t.length) (ks.take i)).2.1]), ⟨_, ci ⟨0, _, _, _, rfl, ⟨rfl, rfl, rfl, rfl, rfl, rfl, trivial⟩, rfl, Nat.zero_le _, (by show _ ≤ 200 + 0; omega), ⟨_, rfl, rfl⟩, rfl⟩⟩, ?_⟩
  rintro _ s ⟨i, k, σ, T, rfl, hT, rfl, hi, hk2, ⟨zs, h1, hzs⟩, h2⟩
  obtain ⟨J, rfl⟩ := gt_open hT
  clear hT
  have hIi := hI i hi
  obtain ⟨s, hs⟩ : ∃ s, runS (t, b, unitM t.length) (ks.take i) = s := ⟨_, rfl⟩
  rw [hs] at h2 hIi ⊢
  refine ⟨fun hlt => ?_, fun hge => ?_⟩
  · obtain ⟨κ, hκ⟩ := xs_get (xs := ks) (i := i) (by omega)
    have hnx := run_next (s := (t, b, unitM t.length)) hκ
    rw [hs] at hnx
    obtain ⟨w, l, hw, hl, hwn, hln, hwl⟩ := hIi.rws.wl (κ := κ)
    have hp := pow_lt (i := i) (by omega)
    have e1 : (runS (t, b, unitM t.length) (ks.take (i + 1))) = (stT κ s.1 s.2.1, stB κ s.1 s.2.1, s.2.2.map (extR w l)) := by
      rw [hnx]; unfold st1; rw [hw, hl]; rfl
    have he := times_exts hwn hln hwl (fun r hr => (hIi.bd r hr).1)
    refine ⟨by kernel_rfl, ?_⟩
    refine ⟨_, load_ro S (contOf_live h2), rfl, ?_⟩
    refine ⟨⟨⟨by omega, by omega⟩, len_map_le (by omega)⟩, ?_⟩
    refine ⟨_, ld (at_map hκ) (by show _ * 1 = i; omega), rfl, ?_⟩
    refine callq rfl (rstep_ct S hS hIi.rws hw hl) (by omega) ?_
    rintro _ rfl
    refine ⟨by omega, ?_⟩
    refine ⟨_, _, push_get, ⟨rfl, Nat.le_refl 2, rfl⟩, [pIs (stT κ s.1 s.2.1), pIs (stB κ s.1 s.2.1)], pspl_all rfl, _, push_set, ?_⟩
    refine ⟨by kernel_rfl, ?_⟩
    refine ⟨_, load_ro S push_cont, rfl, ?_⟩
    refine callq rfl (times_ct S hS (n := t.length) (by omega) (by rw [hIi.len]; omega) stepM_len (fun r hr => ⟨(hIi.bd r hr).1, fun a ha => ⟨((hIi.bd r hr).2 a ha).1, Int.le_trans ((hIi.bd r hr).2 a ha).2 hp⟩⟩) (fun r hr => stepM_bd hr)) (by omega) ?_
    rintro _ rfl
    rw [he]
    refine ⟨_, _, push_old h2, ⟨rfl, Nat.le_refl 2, rfl⟩, [pIs (stT κ s.1 s.2.1), pIs (stB κ s.1 s.2.1)], pspl_all rfl, _, rfl, ?_⟩
    refine ⟨⟨by omega, by omega⟩, ?_⟩
    refine ⟨_, by omega, ci ⟨i + 1, _, _, _, rfl, ⟨rfl, rfl, rfl, by rw [e1]; rfl, rfl, rfl, trivial⟩, rfl, by omega, ?_, ⟨zs, ?_, hzs⟩, ?_⟩⟩
    · omega
    · exact (List.getElem?_set_ne (show (2 : Nat) ≠ 1 by decide)).trans (push_old h1)
    · rw [e1, List.getElem?_set_self (by have := (List.getElem?_eq_some_iff.1 h2).1; rw [List.length_append]; omega)]
  · have hin : i = ks.length := by omega
    subst hin
    rw [List.take_length] at hs
    rw [hs]
    refine ⟨_, load_ro S (contOf_live h2), ?_⟩
    refine ⟨_, _, h1, ⟨rfl, by rw [hzs]; exact Nat.le_refl 2, rfl⟩, _, pspl_all hzs, _, rfl, ?_⟩
    refine ⟨_, load_ro S (contOf_live (List.getElem?_set_self (List.getElem?_eq_some_iff.1 h1).1)), ?_⟩
    exact endsq rfl rfl
end Go.PI
/- Follow and Move. -/
open Go.Proofs
namespace Go.PI
open IM
set_option maxRecDepth 10000
set_option maxHeartbeats 4000000
variable (S : FuncId → Option (List AV → Heap → Option (AV × Heap)))
noncomputable def chkF (t b ks : List Int) : Int := if chkI t b = 0 then chkK ks else chkI t b
def pFol (s : PS) : PV := .tup [pRo s.1 s.2.1, pM s.2.2, pn 0]
def pErr (e : Int) : PV := .tup [pRo [] [], .lst 0 [], pn e]
theorem fn8 : ctx.fn 8 = some c8 := by kernel_rfl
theorem kok_len {ks : List Int} (h : chkK ks = 0) : ks.length ≤ 60 ∧ KOK ks := by
  unfold chkK at h
  split at h
  · cases h
  · split at h
    · exact ⟨by omega, ‹_›⟩
    · cases h
theorem Follow_ct (hS : OldX S) {t b ks : List Int} (l1 : t.length ≤ 12) (l2 : b.length ≤ 12) (hk : ks.length ≤ 20 ∨ 60 < ks.length) :
    Ct (ctx.plus S) 8 [pRo t b, pIs ks] 6000 fun r => (chkF t b ks = 0 ∧ Rws t.length t b ∧ ks.length ≤ 20 ∧ r = pFol (runS (t, b, unitM t.length) ks)) ∨ (chkF t b ks ≠ 0 ∧ r = pErr (chkF t b ks)) := by
  refine ct_of (hS 8 (by decide)) fn8 ?_
  refine ⟨by omega, by omega, ?_⟩
  refine ⟨_, rfl, ?_⟩
  refine callq rfl (chkIrr_ct S hS l1 l2) (by omega) ?_
  rintro _ rfl
  obtain ⟨e, he⟩ : ∃ e, chkI t b = e := ⟨_, rfl⟩
  rw [he]
  refine ⟨fun h0 => ?_, fun h0 => ?_⟩
  · subst h0
    have hF : chkF t b ks = chkK ks := if_pos he
    refine callq rfl (kinds_ct S hS) (by omega) ?_
    rintro _ rfl
    obtain ⟨e2, he2⟩ : ∃ e2, chkK ks = e2 := ⟨_, rfl⟩
    rw [he2]
    refine ⟨fun h1 => ?_, fun h1 => ?_⟩
    · refine part0 ⟨_, rfl, ?_⟩
      refine ⟨_, _, rfl, ⟨rfl, Nat.le_refl 2, rfl⟩, _, rfl, _, rfl, ?_⟩
      exact ⟨_, rfl, ⟨⟨[], .inr ⟨by rw [hF, he2]; exact h1, by rw [hF, he2]; rfl⟩⟩⟩⟩
    · have h1 : e2 = 0 := by omega
      subst h1
      have hR := rws_of he
      have hkl := (kok_len he2).1
      refine ⟨_, rfl, ?_⟩
      refine callq rfl (follow_ct S hS hR (by omega)) (by omega) ?_
      rintro _ rfl
      obtain ⟨s, hs⟩ : ∃ s, runS (t, b, unitM t.length) ks = s := ⟨_, rfl⟩
      rw [hs]
      refine ⟨_, _, rfl, ⟨rfl, Nat.le_refl 2, rfl⟩, _, rfl, _, rfl, ?_⟩
      refine ⟨_, rfl, ?_⟩
      refine ⟨_, _, rfl, ⟨rfl, Nat.le_refl 2, rfl⟩, _, rfl, _, rfl, ?_⟩
      exact ⟨_, rfl, endsq rfl (.inl ⟨by rw [hF, he2], hR, by omega, rfl⟩)⟩
  · have hF : chkF t b ks = e := by unfold chkF; rw [if_neg (by omega), he]
    refine ⟨fun h1 => ?_, fun h1 => absurd h1 (by omega)⟩
    refine part0 ⟨_, rfl, ?_⟩
    refine ⟨_, _, rfl, ⟨rfl, Nat.le_refl 2, rfl⟩, _, rfl, _, rfl, ?_⟩
    exact ⟨_, rfl, ⟨⟨[], .inr ⟨by rw [hF]; exact h1, by rw [hF]; rfl⟩⟩⟩⟩
theorem fn7 : ctx.fn 7 = some c7 := by kernel_rfl
theorem Move_ct (hS : OldX S) {t b : List Int} {κ : Int} (l1 : t.length ≤ 12) (l2 : b.length ≤ 12) :
    Ct (ctx.plus S) 7 [pRo t b, pn κ] 7000 fun r => (chkF t b [κ] = 0 ∧ Rws t.length t b ∧ r = pFol (st1 (t, b, unitM t.length) κ)) ∨ (chkF t b [κ] ≠ 0 ∧ r = pErr (chkF t b [κ])) := by
  refine ct_of (hS 7 (by decide)) fn7 ?_
  refine ⟨by omega, by omega, ?_⟩
  refine ⟨_, rfl, ?_⟩
  refine ⟨by omega, part1 fzI ⟨[pn κ], rfl, ?_⟩⟩
  refine cal2 (p := pRo t b) (q := pIs [κ]) (fun _ h => h) (fz_own (n := 1) (c := 1) (cs' := [pn κ]) rfl (Nat.le_refl 1) (Nat.le_refl 1) rfl) (Follow_ct S hS l1 l2 (ks := [κ]) (.inl (by show 1 ≤ 20; decide))) (by omega) ?_
  rintro _ (⟨h1, h2, -, rfl⟩ | ⟨h1, rfl⟩)
  · refine ⟨_, _, rfl, ⟨rfl, Nat.le_refl 2, rfl⟩, _, rfl, _, rfl, ?_⟩
    exact ⟨_, rfl, endsq rfl (.inl ⟨h1, h2, rfl⟩)⟩
  · refine ⟨_, _, rfl, ⟨rfl, Nat.le_refl 2, rfl⟩, _, rfl, _, rfl, ?_⟩
    exact ⟨_, rfl, endsq rfl (.inr ⟨h1, rfl⟩)⟩
end Go.PI
