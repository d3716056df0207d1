/- Own work of the verifier: NlA NlB. -/
import Derived.Test.YtbancdhkfjfhlaaGreatDoorNnAY
import Derived.Test.YtbancdhkfjfhlaaGreatDoorNnAV
import Derived.Test.YtbancdhkfjfhlaaGreatDoorNnAU
set_option linter.all false
set_option exponentiation.threshold 3000
set_option linter.deprecated false
/- WHETHER WHAT CAME IN IS SMALL. -/
open Go.Proofs
namespace Go.PI
set_option maxRecDepth 20000
set_option maxHeartbeats 1000000
variable (S : FuncId → Option (List AV → Heap → Option (AV × Heap)))
abbrev sInt : Sh := .int .i64
abbrev sI : Sh := .sl sInt
abbrev sM : Sh := .sl sI
abbrev sNum : Sh := .st [sM, sI]
abbrev sVec : Sh := .st [sNum, sNum]
abbrev sVecs : Sh := .sl sVec
abbrev sSlot : Sh := .st [sInt, sInt]
abbrev sSlots : Sh := .sl sSlot
abbrev sField : Sh := .st [sI, sInt, sInt, sInt]
abbrev sSurf : Sh := .st [sField, .sl sVecs, .sl sSlots]
abbrev sTable : Sh := .st [sField, sVecs]
abbrev sState : Sh := .st [sInt, sNum, sVec]
abbrev sRay : Sh := .st [sSlot, sSlot, sNum, .bool]
abbrev sOri : Sh := .st [sI, sI]
abbrev sOrb : Sh := .st [.sl sOri, sI, sI]
abbrev sRows : Sh := .st [sI, sI]
abbrev sClaim : Sh := .st [sInt, sInt, sTable, sState, sSurf, sSurf, sSlots, sVec, .sl sRay, sOri, sOri, sI, .str, sOrb, sM, sRows, sRows]
abbrev sRes : Sh := .st [.str, .str, sInt, sClaim]
def Is (e : Sh) (p : PV) : Prop := (Sh.sl e).Has [p]
theorem Is.out {e : Sh} {p : PV} (h : Is e p) : ∃ (n : Nat) (cs : List PV), p = .lst n cs ∧ n ≤ maxLen ∧ ((e.cost = 0 ∨ n ≤ 100) → ∃ css : List (List PV), css.length = n ∧ cs = css.flatten ∧ ∀ c, c ∈ css → e.Has c) := by
  obtain ⟨n, cs, h1, h2, h3⟩ := h
  exact ⟨n, cs, by simpa using h1, h2, h3⟩
theorem flat_get {k : Nat} : ∀ {css : List (List PV)} {i : Nat} {c : List PV}, (∀ x ∈ css, x.length = k) → css[i]? = some c → ∃ rest, css.flatten.drop (i * k) = c ++ rest
  | [], i, c, _, h => by simp at h
  | x :: css, 0, c, hk, h => by
    have : x = c := by simpa using h
    subst this
    exact ⟨css.flatten, by simp⟩
  | x :: css, i + 1, c, hk, h => by
    obtain ⟨rest, hr⟩ := flat_get (css := css) (i := i) (fun y hy => hk y (by simp [hy])) (by simpa using h)
    refine ⟨rest, ?_⟩
    have hx := hk x (by simp)
    rw [List.flatten_cons, Nat.succ_mul, List.drop_append, List.drop_of_length_le (by omega), hx, show i * k + k - k = i * k by omega, List.nil_append]
    exact hr
theorem flat_len {k : Nat} : ∀ {css : List (List PV)}, (∀ x ∈ css, x.length = k) → css.flatten.length = css.length * k
  | [], _ => by simp
  | x :: css, hk => by
    rw [List.flatten_cons, List.length_append, flat_len (css := css) fun y hy => hk y (by simp [hy]), hk x (by simp), List.length_cons, Nat.succ_mul]
    omega
theorem Is.at {e : Sh} {n : Nat} {cs : List PV} (h : Is e (.lst n cs)) (hn : e.cost = 0 ∨ n ≤ 100) {i : Nat} (hi : i < n) : ∃ c rest, e.Has c ∧ cs.drop (i * e.nc) = c ++ rest ∧ i * e.nc + e.nc ≤ cs.length := by
  obtain ⟨n', cs', h1, -, h3⟩ := h.out
  cases h1
  obtain ⟨css, hl, rfl, hall⟩ := h3 hn
  have hk : ∀ x ∈ css, x.length = e.nc := fun x hx => Sh.Has.len e (hall x hx)
  obtain ⟨c, hc⟩ : ∃ c, css[i]? = some c := ⟨_, List.getElem?_eq_getElem (by omega)⟩
  obtain ⟨rest, hr⟩ := flat_get hk hc
  refine ⟨c, rest, hall c (List.mem_of_getElem? hc), hr, ?_⟩
  rw [flat_len hk, hl, ← Nat.succ_mul]
  exact Nat.mul_le_mul_right _ hi
theorem Has.sl1 {e : Sh} {c : List PV} (h : (Sh.sl e).Has c) : ∃ p, c = [p] ∧ Is e p := by
  obtain ⟨n, cs, rfl, h2, h3⟩ := h
  exact ⟨_, rfl, n, cs, rfl, h2, h3⟩
theorem Has.int1 {k : IntKind} {c : List PV} (h : (Sh.int k).Has c) : ∃ n, c = [.int k n] ∧ (Lit.int k n).wf = true := by
  obtain ⟨n, h1, rfl⟩ := h
  exact ⟨n, rfl, h1⟩
theorem Has.num {c : List PV} (h : sNum.Has c) : ∃ p q, c = [p, q] ∧ Is sI p ∧ Is sInt q := by
  obtain ⟨a, b, rfl, h1, a2, b2, rfl, h2, h3⟩ := h
  obtain ⟨p, rfl, hp⟩ := Has.sl1 h1
  obtain ⟨q, rfl, hq⟩ := Has.sl1 h2
  have h3 : b2 = [] := h3
  subst h3
  exact ⟨p, q, rfl, hp, hq⟩
theorem Has.vec {c : List PV} (h : sVec.Has c) : ∃ p q p2 q2, c = [p, q, p2, q2] ∧ Is sI p ∧ Is sInt q ∧ Is sI p2 ∧ Is sInt q2 := by
  obtain ⟨a, b, rfl, h1, a2, b2, rfl, h2, h3⟩ := h
  obtain ⟨p, q, rfl, hp, hq⟩ := Has.num h1
  obtain ⟨p2, q2, rfl, hp2, hq2⟩ := Has.num h2
  have h3 : b2 = [] := h3
  subst h3
  exact ⟨p, q, p2, q2, rfl, hp, hq, hp2, hq2⟩
def BoolP (r : PV) : Prop := ∃ b, r = .bool b
theorem fn55 : ctx.fn 55 = some c55 := by kernel_rfl
theorem short_ct (hS : OldN S) {p q : PV} (hp : Is sI p) (hq : Is sInt q) : Ct (ctx.plus S) 55 [.agg [p, q], pn 4] 1 BoolP := by
  obtain ⟨n, cs, rfl, hn, -⟩ := hp.out
  obtain ⟨m, ds, rfl, hm, -⟩ := hq.out
  have hmx : maxLen = 9223372036854775807 := rfl
  refine ct_of (hS 55 (by decide)) fn55 ?_
  refine ⟨by omega, ?_⟩
  refine ⟨_, rfl, ?_⟩
  refine ⟨fun hgt => ?_, fun hle => ?_⟩
  · exact endq rfl ⟨_, rfl⟩
  refine ⟨_, rfl, ?_⟩
  refine ⟨fun hgt => ?_, fun hle2 => ?_⟩
  · exact endq rfl ⟨_, rfl⟩
  refine ⟨fun m' s => ∃ (i : Nat) (T : List PV), s = ⟨T, [.live 30 [.lst n cs, .lst m ds]], 1⟩ ∧ Gt T 32 [(1, pn 4), (2, .optr 0 0), (5, pn i)] ∧ m' = n - i ∧ i ≤ n, ⟨_, ci ⟨0, _, rfl, ⟨rfl, rfl, rfl, rfl, trivial⟩, rfl, Nat.zero_le _⟩⟩, ?_⟩
  rintro _ s ⟨i, T, rfl, hT, rfl, hi⟩
  obtain ⟨J, rfl⟩ := gt_open hT
  clear hT
  refine ⟨_, rfl, ?_⟩
  refine ⟨fun hlt => ?_, fun hge => ?_⟩
  · obtain ⟨c, rest, hc, hd, hb⟩ := hp.at (.inr (by omega)) (show i < n by omega)
    obtain ⟨r, rfl, hr⟩ := Has.sl1 hc
    obtain ⟨l, es, rfl, hl, -⟩ := hr.out
    have hix : (i : Int).toNat * 1 ≤ cs.length := by
      have : sI.nc = 1 := rfl
      rw [this] at hb; omega
    have hv : (cs.drop ((i : Int).toNat * 1))[0]? = some (.lst l es) := by
      rw [Int.toNat_natCast]
      have hd : cs.drop (i * 1) = _ := hd
      rw [hd]; rfl
    refine ⟨_, rfl, ?_⟩
    refine ⟨⟨⟨by omega, by omega⟩, hix⟩, ?_⟩
    refine ⟨_, hv, ?_⟩
    refine ⟨fun hgt => ?_, fun hle3 => ?_⟩
    · exact endq rfl ⟨_, rfl⟩
    refine ⟨⟨by omega, by omega⟩, ?_⟩
    have ei : pn ((i : Int) + 1) = pn ((i + 1 : Nat) : Int) := congrArg pn (by omega)
    exact ⟨_, by omega, ci ⟨i + 1, _, rfl, ⟨rfl, rfl, rfl, ei, trivial⟩, rfl, by omega⟩⟩
  · exact endq rfl ⟨_, rfl⟩
theorem fn54 : ctx.fn 54 = some c54 := by kernel_rfl
theorem fn56 : ctx.fn 56 = some c56 := by kernel_rfl
theorem fn57 : ctx.fn 57 = some c57 := by kernel_rfl
theorem fn58 : ctx.fn 58 = some c58 := by kernel_rfl
theorem fn59 : ctx.fn 59 = some c59 := by kernel_rfl
theorem small_ct (hS : OldN S) {p : PV} (hp : Is sInt p) : Ct (ctx.plus S) 58 [p] 0 BoolP := by
  obtain ⟨n, cs, rfl, hn, -⟩ := hp.out
  refine ct_of (hS 58 (by decide)) fn58 ?_
  refine ⟨fun hle => ?_, fun hgt => ?_⟩
  · exact endq rfl ⟨_, rfl⟩
  · exact endq rfl ⟨_, rfl⟩
theorem smallOri_ct (hS : OldN S) {p q : PV} (hp : Is sInt p) (hq : Is sInt q) : Ct (ctx.plus S) 57 [.agg [p, q]] 1 BoolP := by
  obtain ⟨n, cs, rfl, hn, -⟩ := hp.out
  obtain ⟨m, ds, rfl, hm, -⟩ := hq.out
  refine ct_of (hS 57 (by decide)) fn57 ?_
  refine ⟨by omega, ?_⟩
  refine ⟨_, rfl, ?_⟩
  refine ⟨fun hle => ?_, fun hgt => ?_⟩
  · refine ⟨_, rfl, ?_⟩
    refine ⟨fun hle2 => ?_, fun hgt => ?_⟩
    · exact endq rfl ⟨_, rfl⟩
    · exact endq rfl ⟨_, rfl⟩
  · exact endq rfl ⟨_, rfl⟩
theorem smallLists_ct (hS : OldN S) {p : PV} (hp : Is sI p) : Ct (ctx.plus S) 59 [p] 0 BoolP := by
  obtain ⟨n, cs, rfl, hn, -⟩ := hp.out
  have hmx : maxLen = 9223372036854775807 := rfl
  refine ct_of (hS 59 (by decide)) fn59 ?_
  refine ⟨fun m' s => ∃ (i : Nat) (T : List PV), s = ⟨T, [], 0⟩ ∧ Gt T 24 [(0, .lst n cs), (3, pn i)] ∧ m' = n - i ∧ i ≤ n, ⟨_, ci ⟨0, _, rfl, ⟨rfl, rfl, rfl, trivial⟩, rfl, Nat.zero_le _⟩⟩, ?_⟩
  rintro _ s ⟨i, T, rfl, hT, rfl, hi⟩
  obtain ⟨J, rfl⟩ := gt_open hT
  clear hT
  have fin : ∀ b : Bool, BoolP (.bool b) := fun b => ⟨b, rfl⟩
  refine ⟨fun hlt => ?_, fun hge => ?_⟩
  · refine ⟨fun h60 => ?_, fun h60 => ?_⟩
    · obtain ⟨c, rest, hc, hd, hb⟩ := hp.at (.inr (by omega)) (show i < n by omega)
      obtain ⟨r, rfl, hr⟩ := Has.sl1 hc
      have hix : (i : Int).toNat * 1 ≤ cs.length := by
        have : sI.nc = 1 := rfl
        rw [this] at hb; omega
      have hv : (cs.drop ((i : Int).toNat * 1))[0]? = some r := by
        rw [Int.toNat_natCast]
        have hd : cs.drop (i * 1) = _ := hd
        rw [hd]; rfl
      refine ⟨⟨⟨by omega, by omega⟩, hix⟩, ?_⟩
      refine ⟨_, hv, ?_⟩
      obtain ⟨l, es, rfl, hl, -⟩ := hr.out
      refine callq rfl (small_ct S hS hr) (by omega) ?_
      rintro _ ⟨b, rfl⟩
      cases b
      · exact endq rfl ⟨_, rfl⟩
      refine ⟨⟨by omega, by omega⟩, ?_⟩
      have ei : pn ((i : Int) + 1) = pn ((i + 1 : Nat) : Int) := congrArg pn (by omega)
      exact ⟨_, by omega, ci ⟨i + 1, _, rfl, ⟨rfl, rfl, ei, trivial⟩, rfl, by omega⟩⟩
    · refine ⟨fun h => ?_, fun h => ?_⟩
      · exact endq rfl ⟨_, rfl⟩
      · exact endq rfl ⟨_, rfl⟩
  · refine ⟨fun h => ?_, fun h => ?_⟩
    · exact endq rfl ⟨_, rfl⟩
    · exact endq rfl ⟨_, rfl⟩
theorem smallVecs_ct (hS : OldN S) {p : PV} (hp : Is sVec p) : Ct (ctx.plus S) 54 [p] 200 BoolP := by
  obtain ⟨n, cs, rfl, hn, -⟩ := hp.out
  have hmx : maxLen = 9223372036854775807 := rfl
  refine ct_of (hS 54 (by decide)) fn54 ?_
  refine ⟨fun m' s => ∃ (i k : Nat) (T : List PV), s = ⟨T, [], k⟩ ∧ Gt T 34 [(0, .lst n cs), (3, pn i)] ∧ m' = n - i ∧ i ≤ n ∧ (k ≤ 2 * i ∧ k ≤ 100), ⟨_, ci ⟨0, 0, _, rfl, ⟨rfl, rfl, rfl, trivial⟩, rfl, Nat.zero_le _, by omega, by omega⟩⟩, ?_⟩
  rintro _ s ⟨i, k, T, rfl, hT, rfl, hi, hk1, hk2⟩
  obtain ⟨J, rfl⟩ := gt_open hT
  clear hT
  refine ⟨fun hlt => ?_, fun hge => ?_⟩
  · refine ⟨fun h30 => ?_, fun h30 => ?_⟩
    · obtain ⟨c, rest, hc, hd, hb⟩ := hp.at (.inr (by omega)) (show i < n by omega)
      obtain ⟨a, b, a2, b2, rfl, ha, hb1, ha2, hb2⟩ := Has.vec hc
      have e4 : sVec.nc = 4 := rfl
      rw [e4] at hd hb
      have hix : (i : Int).toNat * 4 ≤ cs.length := by omega
      have hd' : cs.drop ((i : Int).toNat * 4) = a :: b :: a2 :: b2 :: rest := by rw [Int.toNat_natCast]; exact hd
      have hf0 : 0 ≤ (cs.drop ((i : Int).toNat * 4)).length := Nat.zero_le _
      have hf2 : 2 ≤ (cs.drop ((i : Int).toNat * 4)).length := by rw [hd']; simp
      have hv0 : partP t30 ((cs.drop ((i : Int).toNat * 4)).drop 0) 0 = some (.agg [a, b]) := by rw [hd']; rfl
      have hv2 : partP t30 ((cs.drop ((i : Int).toNat * 4)).drop 2) 0 = some (.agg [a2, b2]) := by rw [hd']; rfl
      obtain ⟨n1, c1, rfl, -, -⟩ := ha.out
      obtain ⟨n2, c2, rfl, -, -⟩ := hb1.out
      obtain ⟨n3, c3, rfl, -, -⟩ := ha2.out
      obtain ⟨n4, c4, rfl, -, -⟩ := hb2.out
      have ei : pn ((i : Int) + 1) = pn ((i + 1 : Nat) : Int) := congrArg pn (by omega)
      refine ⟨⟨⟨by omega, by omega⟩, hix⟩, ?_⟩
      refine ⟨hf0, ?_⟩
      refine ⟨_, hv0, ?_⟩
      refine callq rfl (short_ct S hS ha hb1) (by omega) ?_
      rintro _ ⟨x, rfl⟩
      cases x
      · exact endq rfl ⟨_, rfl⟩
      refine ⟨⟨⟨by omega, by omega⟩, hix⟩, ?_⟩
      refine ⟨hf2, ?_⟩
      refine ⟨_, hv2, ?_⟩
      refine callq rfl (short_ct S hS ha2 hb2) (by omega) ?_
      rintro _ ⟨x, rfl⟩
      cases x
      · exact endq rfl ⟨_, rfl⟩
      refine ⟨⟨by omega, by omega⟩, ?_⟩
      exact ⟨_, by omega, ci ⟨i + 1, _, _, rfl, ⟨rfl, rfl, ei, trivial⟩, rfl, by omega, by omega, by omega⟩⟩
    · refine ⟨fun h => ?_, fun h => ?_⟩
      · exact endq rfl ⟨_, rfl⟩
      · exact endq rfl ⟨_, rfl⟩
  · refine ⟨fun h => ?_, fun h => ?_⟩
    · exact endq rfl ⟨_, rfl⟩
    · exact endq rfl ⟨_, rfl⟩
end Go.PI
/- WHETHER A CLAIM IS SMALL. -/
open Go.Proofs
namespace Go.PI
set_option maxRecDepth 20000
set_option maxHeartbeats 1000000
variable (S : FuncId → Option (List AV → Heap → Option (AV × Heap)))
theorem smallSurf_ct (hS : OldN S) {p f g : PV} {lo up den : Int} (hp : Is sInt p) (hf : Is sVecs f) (hg : Is sSlots g) : Ct (ctx.plus S) 56 [.agg [p, pn lo, pn up, pn den, f, g]] 3000 BoolP := by
  obtain ⟨n, cs, rfl, hn, -⟩ := hp.out
  obtain ⟨m, ds, rfl, hm, -⟩ := hf.out
  obtain ⟨l, es, rfl, hl, -⟩ := hg.out
  have hmx : maxLen = 9223372036854775807 := rfl
  refine ct_of (hS 56 (by decide)) fn56 ?_
  refine ⟨by omega, ?_⟩
  refine ⟨_, rfl, ?_⟩
  refine ⟨fun h => ?_, fun h1 => ?_⟩
  · exact endq rfl ⟨_, rfl⟩
  refine ⟨_, rfl, ?_⟩
  refine ⟨fun h => ?_, fun h2 => ?_⟩
  · exact endq rfl ⟨_, rfl⟩
  refine ⟨_, rfl, ?_⟩
  refine ⟨fun h => ?_, fun h3 => ?_⟩
  · exact endq rfl ⟨_, rfl⟩
  refine ⟨fun m' s => ∃ (i k : Nat) (T : List PV), s = ⟨T, [.live 38 [.lst n cs, pn lo, pn up, pn den, .lst m ds, .lst l es]], k⟩ ∧ Gt T 50 [(1, .optr 0 0), (3, pn i)] ∧ m' = m - i ∧ i ≤ m ∧ k ≤ 1 + 200 * i, ⟨_, ci ⟨0, 1, _, rfl, ⟨rfl, rfl, rfl, trivial⟩, rfl, Nat.zero_le _, by omega⟩⟩, ?_⟩
  rintro _ s ⟨i, k, T, rfl, hT, rfl, hi, hk⟩
  obtain ⟨J, rfl⟩ := gt_open hT
  clear hT
  have ei : pn ((i : Int) + 1) = pn ((i + 1 : Nat) : Int) := congrArg pn (by omega)
  refine ⟨_, rfl, ?_⟩
  refine ⟨fun hlt => ?_, fun hge => ?_⟩
  · obtain ⟨c, rest, hc, hd, hb⟩ := hf.at (.inr (by omega)) (show i < m by omega)
    obtain ⟨r, rfl, hr⟩ := Has.sl1 hc
    have e1 : sVecs.nc = 1 := rfl
    rw [e1] at hd hb
    have hix : (i : Int).toNat * 1 ≤ ds.length := by omega
    have hv : (ds.drop ((i : Int).toNat * 1))[0]? = some r := by rw [Int.toNat_natCast, hd]; rfl
    refine ⟨_, rfl, ?_⟩
    refine ⟨⟨⟨by omega, by omega⟩, hix⟩, ?_⟩
    refine ⟨_, hv, ?_⟩
    obtain ⟨n1, c1, rfl, -, -⟩ := hr.out
    refine callq rfl (smallVecs_ct S hS hr) (by omega) ?_
    rintro _ ⟨x, rfl⟩
    cases x
    · exact endq rfl ⟨_, rfl⟩
    refine ⟨⟨by omega, by omega⟩, ?_⟩
    exact ⟨_, by omega, ci ⟨i + 1, _, _, rfl, ⟨rfl, rfl, ei, trivial⟩, rfl, by omega, by omega⟩⟩
  refine ⟨fun m' s => ∃ (j : Nat) (T : List PV), s = ⟨T, [.live 38 [.lst n cs, pn lo, pn up, pn den, .lst m ds, .lst l es]], k⟩ ∧ Gt T 50 [(1, .optr 0 0), (4, pn j)] ∧ m' = l - j ∧ j ≤ l, ⟨_, ci ⟨0, _, rfl, ⟨rfl, rfl, rfl, trivial⟩, rfl, Nat.zero_le _⟩⟩, ?_⟩
  rintro _ s ⟨j, T, rfl, hT, rfl, hj⟩
  obtain ⟨J2, rfl⟩ := gt_open hT
  clear hT
  have ej : pn ((j : Int) + 1) = pn ((j + 1 : Nat) : Int) := congrArg pn (by omega)
  refine ⟨_, rfl, ?_⟩
  refine ⟨fun hlt => ?_, fun hge => ?_⟩
  · obtain ⟨c, rest, hc, hd, hb⟩ := hg.at (.inr (by omega)) (show j < l by omega)
    obtain ⟨r, rfl, hr⟩ := Has.sl1 hc
    have e1 : sSlots.nc = 1 := rfl
    rw [e1] at hd hb
    have hix : (j : Int).toNat * 1 ≤ es.length := by omega
    have hv : (es.drop ((j : Int).toNat * 1))[0]? = some r := by rw [Int.toNat_natCast, hd]; rfl
    obtain ⟨n1, c1, rfl, hn1, -⟩ := hr.out
    refine ⟨_, rfl, ?_⟩
    refine ⟨⟨⟨by omega, by omega⟩, hix⟩, ?_⟩
    refine ⟨_, hv, ?_⟩
    refine ⟨fun h => ?_, fun h => ?_⟩
    · exact endq rfl ⟨_, rfl⟩
    refine ⟨⟨by omega, by omega⟩, ?_⟩
    exact ⟨_, by omega, ci ⟨j + 1, _, rfl, ⟨rfl, rfl, ej, trivial⟩, rfl, by omega⟩⟩
  · exact endq rfl ⟨_, rfl⟩
end Go.PI
