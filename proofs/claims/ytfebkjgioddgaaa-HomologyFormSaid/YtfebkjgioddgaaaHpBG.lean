/- Own work of the verifier: HoU HoV. -/
import Derived.Test.YtfebkjgioddgaaaHpBF
set_option linter.all false
set_option exponentiation.threshold 3000
set_option linter.deprecated false
/- INTERSECT, of the program. -/
open Go.Proofs
namespace Go.PI
open IM
set_option maxRecDepth 10000
set_option maxHeartbeats 4000000
variable (S : FuncId → Option (List AV → Heap → Option (AV × Heap)))
theorem fn58 : ctx.fn 58 = some c58 := by kernel_rfl
theorem ianswer_ct (hS : OldO S) {r u : List Int} {n : Nat} {f f' g g' : Nat → Nat} (ho : IsO r u n f f' g g') {L : List (Nat × List PV)} {es : List Int} (hl : es.length = L.length) (hL : L.length ≤ 1000) {dk d q : Nat} {cs : List PV} {Q : PV → Prop} (hcl : ∀ p ∈ L, clos p.2 = true)
    (hk : ∀ (i : Nat) (p : Nat × List PV) (e : Int), L[i]? = some p → es[i]? = some e → Ct (ctx.plus S) p.1 (.lptr (tilO n f f' g g') :: p.2) dk fun v => v = pn e) (hcs : clos cs = true) (hg : fstE es = 0 → Ct (ctx.plus S) q (.lptr (tilO n f f' g g') :: cs) d Q) (hq : ∀ v, Q v → cloA v = true) :
    Ct (ctx.plus S) 58 [pO r u, .fnc q cs, pFs L] (10300 + L.length * dk + d) fun v => (fstE es ≠ 0 ∧ v = .tup [pn 0, pn (fstE es)]) ∨ (fstE es = 0 ∧ ∃ w, Q w ∧ v = .tup [w, pn 0]) := by
  refine ct_of (hS 58 (by decide)) fn58 ?_
  refine ⟨by omega, ?_⟩
  refine ⟨_, rfl, ?_⟩
  refine callq rfl (open_ct S hS ho) (by omega) ?_
  rintro _ rfl
  refine ⟨fun h => absurd rfl h, fun _ => ?_⟩
  refine ⟨fun m s => ∃ (i b : Nat) (T : List PV), s = ⟨T, [.live 24 [pIs r, pIs u]], b⟩ ∧ Gt T 40 [(1, .fnc q cs), (8, pn 0), (9, .lptr (tilO n f f' g g')), (23, pFs L), (24, pn L.length), (25, pn i)] ∧ m = L.length - i ∧ i ≤ L.length ∧ b ≤ 10201 + i * dk ∧ Hid (∀ x ∈ es.take i, x = 0), ⟨_, ci ⟨0, _, _, rfl, ⟨rfl, rfl, rfl, rfl, rfl, rfl, rfl, trivial⟩, rfl, Nat.zero_le _, by omega, ⟨fun x hx => by simp at hx⟩⟩⟩, ?_⟩
  rintro _ s ⟨i, b, T, rfl, hT, rfl, hi, hb, hz⟩
  obtain ⟨J, rfl⟩ := gt_open hT
  clear hT
  refine ⟨fun hlt => ?_, fun hge => ?_⟩
  · obtain ⟨p, hp⟩ : ∃ p, L[i]? = some p := ⟨L[i]'(by omega), List.getElem?_eq_getElem _⟩
    obtain ⟨e, he⟩ : ∃ e, es[i]? = some e := ⟨es[i]'(by omega), List.getElem?_eq_getElem _⟩
    have hm1 : i * dk + dk ≤ L.length * dk := by rw [← Nat.succ_mul]; exact Nat.mul_le_mul_right _ (by omega)
    refine ⟨⟨⟨by omega, by omega⟩, len_map_le (by omega)⟩, ?_⟩
    refine ⟨_, ld (at_map hp) (by show _ * 1 = i; omega), ?_⟩
    refine callq (ps := .lptr (tilO n f f' g g') :: p.2) (cloAs_cons rfl (hcl p (List.mem_of_getElem? hp))) (hk i p e hp he) (by omega) ?_
    rintro _ rfl
    refine ⟨fun h0 => ?_, fun h0 => ?_⟩
    · exact ⟨⟨[], .inl (by rw [fstE_bad hz.h he h0]; exact ⟨h0, rfl⟩)⟩⟩
    · refine ⟨⟨by omega, by omega⟩, ?_⟩
      exact ⟨_, by omega, ci ⟨i + 1, _, _, rfl, ⟨rfl, rfl, rfl, rfl, rfl, rfl, rfl, trivial⟩, rfl, by omega, by rw [Nat.succ_mul]; omega, ⟨fun x hx => by
        rw [take_snoc he] at hx
        rcases List.mem_append.1 hx with hx | hx
        · exact hz.h x hx
        · rw [List.mem_singleton.1 hx]; exact h0⟩⟩⟩
  · have hf0 : fstE es = 0 := fstE_ok fun x hx => hz.h x (by rw [List.take_of_length_le (by omega)]; exact hx)
    have hm2 : i * dk ≤ L.length * dk := Nat.mul_le_mul_right _ hi
    refine callq (ps := .lptr (tilO n f f' g g') :: cs) (cloAs_cons rfl hcs) (hg hf0) (by omega) ?_
    intro w hw
    exact endsq (by simp only [cloAs, hq w hw]; rfl) (.inr ⟨hf0, w, hw, rfl⟩)
theorem ianswer_fn (hS : OldO S) {r u : List Int} {n : Nat} {f f' g g' : Nat → Nat} (ho : IsO r u n f f' g g') {d q : Nat} {Q : PV → Prop} (hg : Ct (ctx.plus S) q [.lptr (tilO n f f' g g')] d Q) (hq : ∀ v, Q v → cloA v = true) :
    Ct (ctx.plus S) 58 [pO r u, .fn q, .lst 0 []] (10300 + d) fun v => ∃ w, Q w ∧ v = .tup [w, pn 0] := by
  refine ct_of (hS 58 (by decide)) fn58 ?_
  refine ⟨by omega, ?_⟩
  refine ⟨_, rfl, ?_⟩
  refine callq rfl (open_ct S hS ho) (by omega) ?_
  rintro _ rfl
  refine ⟨fun h => absurd rfl h, fun _ => ?_⟩
  refine ⟨fun m s => m = 0 ∧ ∃ (T : List PV), s = ⟨T, [.live 24 [pIs r, pIs u]], 10201⟩ ∧ Gt T 40 [(1, .fn q), (9, .lptr (tilO n f f' g g')), (24, pn 0), (25, pn 0)], ⟨_, ci ⟨rfl, _, rfl, ⟨rfl, rfl, rfl, rfl, rfl, trivial⟩⟩⟩, ?_⟩
  rintro _ s ⟨rfl, T, rfl, hT⟩
  obtain ⟨J, rfl⟩ := gt_open hT
  clear hT
  refine ⟨fun hlt => ?_, fun hge => ?_⟩
  · exact absurd hlt (by decide)
  · refine callq rfl hg (by omega) ?_
    intro w hw
    exact endsq (by simp only [cloAs, hq w hw]; rfl) ⟨w, hw, rfl⟩
theorem ianswer_bad (hS : OldO S) {r u : List Int} (l1 : r.length ≤ 1000000) (l2 : u.length ≤ 1000000) (hb : chkO r u ≠ 0) {F ks : PV} :
    Ct (ctx.plus S) 58 [pO r u, F, ks] 10300 fun v => v = .tup [pn 0, pn (chkO r u)] := by
  refine ct_of (hS 58 (by decide)) fn58 ?_
  refine ⟨by omega, ?_⟩
  refine ⟨_, rfl, ?_⟩
  refine callq rfl (open_bad S hS l1 l2 hb) (by omega) ?_
  rintro _ rfl
  refine ⟨fun _ => ?_, fun h => absurd h hb⟩
  exact ⟨⟨[], rfl⟩⟩
variable {n : Nat} {f f' g g' : Nat → Nat}
theorem fn95 : ctx.fn 95 = some c95 := by kernel_rfl
theorem isZero_ct (hS : OldO S) {xs : List Int} (hl : xs.length ≤ 1000000) (h0 : ∀ x ∈ xs, x = 0) : Ct (ctx.plus S) 95 [pIs xs] 1 fun w => w = .bool true := by
  refine ct_of (hS 95 (by decide)) fn95 ?_
  refine callq rfl (areWithin_ct S hS hl (by omega)) (by omega) ?_
  rintro _ (⟨hw, rfl⟩ | ⟨hw, rfl⟩)
  · exact endq rfl rfl
  · exact absurd (fun x hx => by rw [h0 x hx]; omega) hw
theorem fn99 : ctx.fn 99 = some c99 := by kernel_rfl
theorem checkCycle_ct (hS : OldO S) {r u : List Int} (ho : IsO r u n f f' g g') {X : Nat → Int} (hX : Wi (FL (2 * n) X) 1000000) (hk : Cyk n f f' g g' X) :
    Ct (ctx.plus S) 99 [.lptr (tilO n f f' g g'), pIs (FL (2 * n) X)] 210 fun w => w = pn 0 := by
  have hn := ho.le
  have hl : (FL (2 * n) X).length = 2 * n := FL_len
  have h0 : chkC n (FL (2 * n) X) = 0 := chkC0 hl hX
  have hb := (cyk_iff ho.pr ho.pu X).1 hk
  have hV : (cycs n (cmf f f' g g')).length ≤ n := cycs_len (Nat.le_refl n)
  refine ct_of (hS 99 (by decide)) fn99 ?_
  refine callq rfl (checkChain_ct S hS (by omega) (by omega)) (by omega) ?_
  rintro _ rfl
  rw [h0]
  refine ⟨fun _ => ?_, fun h => absurd rfl h⟩
  refine callq rfl (boundary_ct S hS ho.cm ho.pr ho.pu hn (rest := [pIs (PL n f), pIs (PL n g), pIs (PL n f'), pIs (PL n g'), pM (cycs n (cmf f f' g g'))]) hX) (by omega) ?_
  rintro _ rfl
  refine callq rfl (isZero_ct S hS (by rw [FL_len]; omega) fun x hx => ?_) (by omega) ?_
  · obtain ⟨w, hw, rfl⟩ := List.mem_map.1 hx
    exact hb w (List.mem_range.1 hw)
  rintro _ rfl
  exact endq rfl rfl
theorem fn62 : ctx.fn 62 = some c62 := by kernel_rfl
theorem isCycle_ct (hS : OldO S) {c : List Int} : Ct (ctx.plus S) 62 [pIs c] 1 fun w => w = .fnc 98 [.lptr [pIs c]] := by
  refine ct_of (hS 62 (by decide)) fn62 ?_
  refine ⟨by omega, ?_⟩
  exact endf (fz_fnc1 rfl) rfl
theorem fn98 : ctx.fn 98 = some c98 := by kernel_rfl
theorem isCycle1_ct (hS : OldO S) {r u : List Int} (ho : IsO r u n f f' g g') {X : Nat → Int} (hX : Wi (FL (2 * n) X) 1000000) (hk : Cyk n f f' g g' X) :
    Ct (ctx.plus S) 98 [.lptr (tilO n f f' g g'), .lptr [pIs (FL (2 * n) X)]] 210 fun w => w = pn 0 := by
  refine ct_of (hS 98 (by decide)) fn98 ?_
  refine ⟨by kernel_rfl, ?_⟩
  refine ⟨Nat.zero_le _, ?_⟩
  refine ⟨_, rfl, rfl, ?_⟩
  refine callq rfl (checkCycle_ct S hS ho hX hk) (by omega) ?_
  rintro _ rfl
  exact endq rfl rfl
theorem fn59 : ctx.fn 59 = some c59 := by kernel_rfl
theorem inter1_ct (hS : OldO S) {r u : List Int} (ho : IsO r u n f f' g g') (h6 : n ≤ 6) {A B : Nat → Int} (hA : Wi (FL (2 * n) A) 1000000) (hB : Wi (FL (2 * n) B) 1000000) :
    Ct (ctx.plus S) 59 [.lptr (tilO n f f' g g'), .lptr [pIs (FL (2 * n) A)], .lptr [pIs (FL (2 * n) B)]] 20 fun w => w = pn (Isn n f f' g g' A B) ∧ (-1000000000000000000 ≤ Isn n f f' g g' A B ∧ Isn n f f' g g' A B ≤ 1000000000000000000) := by
  have hAi := wi_FL hA
  refine ct_of (hS 59 (by decide)) fn59 ?_
  refine ⟨by kernel_rfl, ?_⟩
  refine ⟨_, rfl, rfl, ?_⟩
  refine ⟨_, rfl, rfl, ?_⟩
  refine callq rfl (crossings_ct S hS ho h6 hB) (by omega) ?_
  rintro _ ⟨τ, rfl, ht⟩
  refine callq rfl (dot_ct S hS (x := 1000000) (y := 10000000000) (by omega) hAi (fun i _ => ht.le i) (by omega) (by omega)) (by omega) ?_
  rintro _ rfl
  have e := ht.sum A
  refine endq rfl ⟨by rw [e], ?_⟩
  have := sumN_le (h := fun e => A e * τ e) (b := 10000000000000000) (k := 2 * n) fun i hi => ?_
  · rw [← e]
    omega
  · have h1 := hAi i hi
    have h2 := ht.le i
    have h3 : (A i * τ i).natAbs ≤ 1000000 * 10000000000 := by
      rw [Int.natAbs_mul]
      exact Nat.mul_le_mul (by omega) (by omega)
    show _ ≤ A i * τ i ∧ A i * τ i ≤ _
    omega
theorem fz_fnc2 {f i j : Nat} {ty ty' : TypeId} {cs cs' : List PV} {σ : List StB} (h : contOf σ i = some (ty, cs)) (h' : contOf (σ.set i (.frz ty cs)) j = some (ty', cs')) : Fz (.fnc f [.optr i 0, .optr j 0]) σ (.fnc f [.lptr cs, .lptr cs']) ((σ.set i (.frz ty cs)).set j (.frz ty' cs')) := fun _ hK => ⟨ty, cs, h, Nat.zero_le _, ty', cs', h', Nat.zero_le _, hK⟩
theorem fz_fns2 {i h k : Nat} {ty : TypeId} {hc kc : List PV} {σ : List StB} (hg : contOf σ i = some (ty, [.fnc h hc, .fnc k kc])) : Fz (.own i 0 2 2 1) σ (pFs [(h, hc), (k, kc)]) (σ.set i (.frz ty [.fnc h hc, .fnc k kc])) := fz_own hg (Nat.le_refl _) (Nat.le_refl _) rfl
theorem fn27 : ctx.fn 27 = some c27 := by kernel_rfl
theorem intersect_ct (hS : OldO S) {r u : List Int} (ho : IsO r u n f f' g g') (h6 : n ≤ 6) {A B : Nat → Int} (hA : Wi (FL (2 * n) A) 1000000) (hB : Wi (FL (2 * n) B) 1000000) (kA : Cyk n f f' g g' A) (kB : Cyk n f f' g g' B) :
    Ct (ctx.plus S) 27 [pO r u, pIs (FL (2 * n) A), pIs (FL (2 * n) B)] 11000 fun w => w = .tup [pn (Isn n f f' g g' A B), pn 0] ∧ (-1000000000000000000 ≤ Isn n f f' g g' A B ∧ Isn n f f' g g' A B ≤ 1000000000000000000) := by
  refine ct_of (hS 27 (by decide)) fn27 ?_
  refine ⟨by omega, ?_⟩
  refine ⟨by omega, ?_⟩
  refine ⟨by omega, ?_⟩
  refine ⟨by kernel_rfl, ?_⟩
  refine ⟨_, rfl, rfl, ?_⟩
  refine ⟨_, rfl, rfl, ?_⟩
  refine callq rfl (isCycle_ct S hS) (by omega) ?_
  rintro _ rfl
  refine ⟨_, rfl, rfl, ?_⟩
  refine callq rfl (isCycle_ct S hS) (by omega) ?_
  rintro _ rfl
  refine ⟨by omega, partc rfl ⟨_, rfl, ?_⟩⟩
  have hans := ianswer_ct S hS ho (L := [(98, [.lptr [pIs (FL (2 * n) A)]]), (98, [.lptr [pIs (FL (2 * n) B)]])]) (es := [0, 0]) rfl (by simp) (dk := 210) (d := 20) (q := 59) (cs := [.lptr [pIs (FL (2 * n) A)], .lptr [pIs (FL (2 * n) B)]]) (Q := fun w => w = pn (Isn n f f' g g' A B) ∧ (-1000000000000000000 ≤ Isn n f f' g g' A B ∧ Isn n f f' g g' A B ≤ 1000000000000000000)) (fun p hp => by
      simp only [List.mem_cons, List.not_mem_nil, or_false] at hp
      rcases hp with rfl | rfl <;> rfl)
    (fun i p e h1 h2 => by
      match i with
      | 0 => simp at h1 h2; subst h1; subst h2; exact isCycle1_ct S hS ho hA kA
      | 1 => simp at h1 h2; subst h1; subst h2; exact isCycle1_ct S hS ho hB kB
      | i + 2 => simp at h1) rfl (fun _ => inter1_ct S hS ho h6 hA hB) (fun v hv => by rw [hv.1]; rfl)
  refine cal3 (fun K h => frzAK_clo rfl h) (fz_fnc2 rfl rfl) (fz_fns2 rfl) hans (by simp) ?_
  rintro _ (⟨h0, rfl⟩ | ⟨h0, w, ⟨rfl, hb⟩, rfl⟩)
  · exact absurd rfl h0
  · exact endsq rfl ⟨rfl, hb⟩
end Go.PI
/- SQUARES of the program, CYCLES of the reference, small functions. -/
open Go.Proofs
namespace Go.PI
open IM
set_option maxRecDepth 10000
set_option maxHeartbeats 4000000
variable (S : FuncId → Option (List AV → Heap → Option (AV × Heap)))
variable {n : Nat} {f f' g g' : Nat → Nat}
theorem fn18 : ctx.fn 18 = some c18 := by kernel_rfl
theorem square_ct (hS : OldO S) {r u : List Int} (ho : IsO r u n f f' g g') {i : Nat} (hi : i < n) : Ct (ctx.plus S) 18 [pO r u, pn i] 10500 fun w => w = .tup [pIs (FL (2 * n) (sq n f' g' i)), pn 0] := by
  have hn := ho.le
  refine ct_of (hS 18 (by decide)) fn18 ?_
  refine ⟨by omega, ?_⟩
  refine ⟨_, rfl, ?_⟩
  refine callq rfl (open_ct S hS ho) (by omega) ?_
  rintro _ rfl
  refine ⟨fun h => absurd rfl h, fun _ => ?_⟩
  refine ⟨fun h => by omega, fun _ => ?_⟩
  refine callq rfl (squares_l S hS) (by omega) ?_
  rintro _ rfl
  refine ⟨fun h => by omega, fun _ => ?_⟩
  refine ⟨Nat.zero_le _, ?_⟩
  refine callq rfl (around_ct S hS hn) (by omega) ?_
  rintro _ rfl
  refine endsq rfl ?_
  have : (FL (2 * n) fun e => ind ((lft n f' e : Int) = i) - ind ((rgt n g' e : Int) = i)) = FL (2 * n) (sq n f' g' i) := FL_eq fun e he => by
    show _ = ind (lft n f' e = i) - ind (rgt n g' e = i)
    rw [ind_iff (p := (lft n f' e : Int) = i) (q := lft n f' e = i) (by omega), ind_iff (p := (rgt n g' e : Int) = i) (q := rgt n g' e = i) (by omega)]
  rw [this]
theorem fn96 : ctx.fn 96 = some c96 := by kernel_rfl
theorem rzero_ct (hS : OldO S) {m : Nat} {h : Nat → Int} (hm : m ≤ 1000000) : Ct (ctx.plus S) 96 [pIs (FL m h)] 0 fun w => ((∀ i, i < m → h i = 0) ∧ w = .bool true) ∨ w = .bool false := by
  have hl : (FL m h).length = m := FL_len
  refine ct_of (hS 96 (by decide)) fn96 ?_
  refine ⟨fun q s => ∃ (i : Nat) (T : List PV), s = ⟨T, [], 0⟩ ∧ Gt T 15 [(0, pIs (FL m h)), (3, pn i)] ∧ q = m - i ∧ i ≤ m ∧ Hid (∀ j, j < i → h j = 0), ⟨_, ci ⟨0, _, rfl, ⟨rfl, rfl, rfl, trivial⟩, rfl, Nat.zero_le _, ⟨fun j hj => by omega⟩⟩⟩, ?_⟩
  rintro _ s ⟨i, T, rfl, hT, rfl, hi, hh⟩
  obtain ⟨J, rfl⟩ := gt_open hT
  clear hT
  refine ⟨fun hlt => ?_, fun hge => ?_⟩
  · have him : i < m := by omega
    refine ⟨⟨⟨by omega, by omega⟩, len_map_le (by omega)⟩, ?_⟩
    refine ⟨_, ld (at_map (FL_get him)) (by show _ * 1 = i; omega), ?_⟩
    refine ⟨fun hne => ?_, fun heq => ?_⟩
    · exact endq rfl (.inr rfl)
    · refine ⟨⟨by omega, by omega⟩, ?_⟩
      exact ⟨_, by omega, ci ⟨i + 1, _, rfl, ⟨rfl, rfl, rfl, trivial⟩, rfl, by omega, ⟨fun j hj => by
        rcases Nat.lt_or_ge j i with h1 | h1
        · exact hh.h j h1
        · rw [show j = i by omega]; exact heq⟩⟩⟩
  · exact endq rfl (.inl ⟨fun j hj => hh.h j (by omega), rfl⟩)
/-- a cycle that is small enough -/
def Gd (n : Nat) (f f' g g' : Nat → Nat) (X : List Int) : Prop := ∃ C, X = FL (2 * n) C ∧ Wi (FL (2 * n) C) 1000000 ∧ Cyk n f f' g g' C
noncomputable def landC (n : Nat) (f f' g g' : Nat → Nat) : List PV := [pn n, pIs (PL n f), pIs (PL n g), pIs (PL n f'), pIs (PL n g'), pIs (PL n (vn (cmf f f' g g'))), pn (cycs n (cmf f f' g g')).length]
theorem fn57 : ctx.fn 57 = some c57 := by kernel_rfl
theorem checkCycles_ct (hS : OldO S) {r u : List Int} (ho : IsO r u n f f' g g') {Ls : List (List Int)} (hL : Ls.length ≤ 40) (hl : ∀ X ∈ Ls, X.length ≤ 1000000) : Ct (ctx.plus S) 57 [land n f f' g g', pM Ls] 10000 fun w => ∃ e : Int, w = pn e ∧ (e = 0 → ∀ X ∈ Ls, Gd n f f' g g' X) := by
  have hn := ho.le
  have hV : (cycs n (cmf f f' g g')).length ≤ n := cycs_len (Nat.le_refl n)
  refine ct_of (hS 57 (by decide)) fn57 ?_
  refine ⟨by omega, ?_⟩
  refine ⟨fun h => by omega, fun _ => ?_⟩
  refine ⟨fun q s => ∃ (i b : Nat) (T : List PV), s = ⟨T, [.live 34 (landC n f f' g g')], b⟩ ∧ Gt T 33 [(1, pM Ls), (2, .optr 0 0), (5, pn i)] ∧ q = Ls.length - i ∧ i ≤ Ls.length ∧ b ≤ 1 + i * 210 ∧ Hid (∀ X ∈ Ls.take i, Gd n f f' g g' X), ⟨_, ci ⟨0, _, _, rfl, ⟨rfl, rfl, rfl, rfl, trivial⟩, rfl, Nat.zero_le _, by omega, ⟨fun X hX => by simp at hX⟩⟩⟩, ?_⟩
  rintro _ s ⟨i, b, T, rfl, hT, rfl, hi, hb, hh⟩
  obtain ⟨J, rfl⟩ := gt_open hT
  clear hT
  refine ⟨fun hlt => ?_, fun hge => ?_⟩
  · obtain ⟨X, hX⟩ : ∃ X, Ls[i]? = some X := ⟨Ls[i]'(by omega), List.getElem?_eq_getElem _⟩
    have hXl := hl X (List.mem_of_getElem? hX)
    refine ⟨by kernel_rfl, ?_⟩
    refine ⟨land n f f' g g', rfl, rfl, ?_⟩
    refine ⟨⟨⟨by omega, by omega⟩, len_map_le (by omega)⟩, ?_⟩
    refine ⟨_, ld (at_map hX) (by show _ * 1 = i; omega), rfl, ?_⟩
    refine callq rfl (rcheckChain_ct S hS hn hXl) (by omega) ?_
    rintro _ rfl
    refine ⟨fun h => ?_, fun h => ?_⟩
    · exact endq rfl ⟨_, rfl, fun h0 => absurd h0 h⟩
    · obtain ⟨h1, h2⟩ := chkC_ok h
      have hX0 := FL_of h1
      obtain ⟨C, hC⟩ : ∃ C : Nat → Int, X = FL (2 * n) C := ⟨_, hX0⟩
      rw [hC] at h2
      refine ⟨by kernel_rfl, ?_⟩
      refine ⟨land n f f' g g', rfl, rfl, ?_⟩
      refine ⟨⟨⟨by omega, by omega⟩, len_map_le (by omega)⟩, ?_⟩
      refine ⟨_, ld (at_map hX) (by show _ * 1 = i; omega), rfl, ?_⟩
      refine callq (ps := [land n f f' g g', pIs X]) rfl (hC ▸ rboundary_ct S hS ho h2) (by omega) ?_
      rintro _ rfl
      refine callq rfl (rzero_ct S hS (by omega)) (by omega) ?_
      rintro _ (⟨h0, rfl⟩ | rfl)
      · refine ⟨⟨by omega, by omega⟩, ?_⟩
        refine ⟨_, by omega, ci ⟨i + 1, _, _, rfl, ⟨rfl, rfl, rfl, rfl, trivial⟩, rfl, by omega, (by omega), ⟨fun Y hY => ?_⟩⟩⟩
        rw [List.take_add_one, hX] at hY
        rcases List.mem_append.1 hY with hY | hY
        · exact hh.h Y hY
        · rw [show Y = X by simpa using hY]
          exact ⟨C, hC, h2, (cyk_iff ho.pr ho.pu C).2 h0⟩
      · exact endq rfl ⟨_, rfl, fun h0 => absurd h0 (by decide)⟩
  · exact endq rfl ⟨_, rfl, fun _ X hX => hh.h X (by rw [List.take_of_length_le (by omega)]; exact hX)⟩
theorem fn23 : ctx.fn 23 = some c23 := by kernel_rfl
theorem cycles_bad (hS : OldO S) {r u : List Int} (l1 : r.length ≤ 1000000) (l2 : u.length ≤ 1000000) (hb : chkO r u ≠ 0) {L : PV} : Ct (ctx.plus S) 23 [pO r u, L] 100 fun w => w = pn (chkO r u) := by
  refine ct_of (hS 23 (by decide)) fn23 ?_
  refine ⟨by omega, ?_⟩
  refine ⟨_, rfl, ?_⟩
  refine callq rfl (rcheck_ct S hS l1 l2) (by omega) ?_
  rintro _ rfl
  refine ⟨fun _ => ?_, fun h => absurd h hb⟩
  exact endq rfl rfl
theorem cyclesLaw_ct (hS : OldO S) {r u : List Int} (ho : IsO r u n f f' g g') (l1 : r.length ≤ 1000000) (l2 : u.length ≤ 1000000) {Ls : List (List Int)} (hL : Ls.length ≤ 40) (hl : ∀ X ∈ Ls, X.length ≤ 1000000) : Ct (ctx.plus S) 23 [pO r u, pM Ls] 20000 fun w => ∃ e : Int, w = pn e ∧ (e = 0 → ∀ X ∈ Ls, Gd n f f' g g' X) := by
  refine ct_of (hS 23 (by decide)) fn23 ?_
  refine ⟨by omega, ?_⟩
  refine ⟨_, rfl, ?_⟩
  refine callq rfl (rcheck_ct S hS l1 l2) (by omega) ?_
  rintro _ rfl
  rw [ho.chk]
  refine ⟨fun h => absurd rfl h, fun _ => ?_⟩
  refine ⟨_, rfl, ?_⟩
  refine callq rfl (ropen_ct S hS ho) (by omega) ?_
  rintro _ rfl
  refine callq rfl (checkCycles_ct S hS ho hL hl) (by omega) ?_
  rintro _ ⟨e, rfl, he⟩
  exact endq rfl ⟨e, rfl, he⟩
theorem fn24 : ctx.fn 24 = some c24 := by kernel_rfl
theorem tqm {p q : Int} (hq : q ≠ 0) : p = q * p.tdiv q + p.tmod q ∧ (0 ≤ p → 0 ≤ p.tmod q) ∧ (p ≤ 0 → p.tmod q ≤ 0) ∧ (p.tmod q).natAbs < q.natAbs ∧ (p.tdiv q).natAbs ≤ p.natAbs := by
  refine ⟨(Int.mul_tdiv_add_tmod p q).symm, fun h => Int.tmod_nonneg _ h, fun h => ?_, ?_, ?_⟩
  · have := Int.tmod_nonneg q (show 0 ≤ -p by omega)
    rw [Int.neg_tmod] at this
    omega
  · rw [Int.natAbs_tmod]; exact Nat.mod_lt _ (by omega)
  · rw [Int.natAbs_tdiv]; exact Nat.div_le_self _ _
theorem mod_ct (hS : OldO S) {p : Int} (hn : n ≤ 60) (h0 : 0 < n) : Ct (ctx.plus S) 24 [pn p, pn n] 0 fun w => ∃ i : Nat, i < n ∧ w = pn i := by
  obtain ⟨t1, t2, t3, t4, t5⟩ := tqm (p := p) (q := n) (by omega)
  refine ct_of (hS 24 (by decide)) fn24 ?_
  refine ⟨by omega, ?_⟩
  refine ⟨fun h => ?_, fun h => ?_⟩
  · refine ⟨⟨by omega, by omega⟩, ?_⟩
    exact endq rfl ⟨(p.tmod n + n).toNat, by omega, congrArg pn (by omega)⟩
  · exact endq rfl ⟨(p.tmod n).toNat, by omega, congrArg pn (by omega)⟩
theorem fn26 : ctx.fn 26 = some c26 := by kernel_rfl
theorem rabs_ct (hS : OldO S) {p : Int} (hp : -1000000000000 ≤ p ∧ p ≤ 1000000000000) : Ct (ctx.plus S) 26 [pn p] 0 fun w => w = pn p.natAbs := by
  refine ct_of (hS 26 (by decide)) fn26 ?_
  refine ⟨fun h => ?_, fun h => ?_⟩
  · refine ⟨⟨by omega, by omega⟩, ?_⟩
    exact endq rfl (congrArg pn (by omega))
  · exact endq rfl (congrArg pn (by omega))
theorem callqu {dr : Bool} {C : Ctx} {c k d : Nat} {σ : List StB} {g : FuncId} {K : PV → List StB → Nat → Prop} {ps : List PV} {Q : TypeId → Nat → Nat → List PV → Prop} (hc : cloAs ps = true) (h : Cfu C g ps d Q) (hk : k + d ≤ c) (hK : ∀ ty n e cs, Q ty n e cs → K (.ownu σ.length n e) (σ ++ [.live ty cs]) (k + d)) : ArgK dr C c k σ g ps K := ⟨.inl (frzAsK_clo hc ⟨⟨d, hk, .inr (.inr ⟨Q, h, hK⟩)⟩⟩)⟩
theorem ones_pn {xs : List Int} : pones (xs.map pn) = true := by
  induction xs with
  | nil => rfl
  | cons x xs ih =>
    show ((pn x).one && pones (xs.map pn)) = true
    rw [ih]; rfl
theorem fn25 : ctx.fn 25 = some c25 := by kernel_rfl
theorem copyInts_cu (hS : OldO S) {xs : List Int} (hne : xs ≠ []) (hl : xs.length ≤ 100000) : Cfu (ctx.plus S) 25 [pIs xs] 2 fun ty n e cs => ty = 3 ∧ n = xs.length ∧ e = 1 ∧ cs = xs.map pn := by
  have hpos := List.length_pos_iff.2 hne
  refine cu_of (hS 25 (by decide)) fn25 ?_
  refine ⟨by omega, part0 ⟨_, rfl, ?_⟩⟩
  refine ⟨⟨by rw [List.length_map]; show xs.length = xs.length * 1; omega, ⟨by omega, ones_pn⟩, by omega, fun h => absurd h (by omega), fun h => ⟨by omega, 3, [], _, rfl, by simp, rfl, ?_⟩⟩⟩
  exact ⟨⟨_, _, _, _, _, rfl, push_get, rfl, by omega, rfl, rfl⟩⟩
end Go.PI
