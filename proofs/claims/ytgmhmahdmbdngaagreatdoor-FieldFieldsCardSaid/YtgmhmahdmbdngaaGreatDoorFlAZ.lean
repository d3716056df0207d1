/- Own work of the verifier: PvRChk PvSame PvSpr PvPart PvNarr PvFirst. -/
import Derived.Test.YtgmhmahdmbdngaaGreatDoorFlAY
import Derived.Test.YtgmhmahdmbdngaaGreatDoorFlAW
set_option linter.all false
set_option linter.deprecated false
open Go.Proofs
namespace Go.PI
open IM
theorem fn43 : ctx.fn 43 = some c43 := by kernel_rfl
set_option maxRecDepth 10000
set_option maxHeartbeats 4000000
variable (S : FuncId -> Option (List AV -> Heap -> Option (AV × Heap)))
structure OldG (S : FuncId -> Option (List AV -> Heap -> Option (AV × Heap))) : Prop where
 f : OldF S
 h43 : S 43 = none
 h131 : S 131 = none
 h132 : S 132 = none
 h195 : S 195 = none
theorem rwithin_ct (h : S 131 = none) {n a b : Int} : Ct (ctx.plus S) 131 [pn n, pn a, pn b] 0 fun r => ((a <= n /\ n <= b) /\ r = .bool true) ∨ (¬ (a <= n /\ n <= b) /\ r = .bool false) := by
 intro H W avs hw hr hl
 cases hr with
 | cons h1 hr => cases hr with
  | cons h2 hr => cases hr with
   | cons h3 hr =>
    cases hr
    cases h1
    cases h2
    cases h3
    refine (rwithin_run S h).mono ?_
    rintro _ _ ⟨rfl, rfl⟩
    by_cases hc : a <= n /\ n <= b
    ·rw [decide_eq_true hc]; exact ⟨_, .inl ⟨hc, rfl⟩, .bool _, KpH.refl _ _⟩
    ·rw [decide_eq_false hc]; exact ⟨_, .inr ⟨hc, rfl⟩, .bool _, KpH.refl _ _⟩
theorem redu_ct (h132 : S 132 = none) (h195 : S 195 = none) {p0 : Int} {cs : List Int} (hc : Cf (p0 :: cs)) (hl : 1 <= cs.length /\ cs.length <= 4) (hm : cs.length = 4 -> ∃ p1 p2 p3, cs = [p1, p2, p3, 1]) :
  Ct (ctx.plus S) 132 [pIs (p0 :: cs)] 0 fun r => ((cs.length ≠ 1 /\ HasR (p0 :: cs)) /\ r = .bool true) ∨ (¬ (cs.length ≠ 1 /\ HasR (p0 :: cs)) /\ r = .bool false) := by
 intro H W avs hw hr hn
 cases hr with
 | cons h1 hr =>
  cases hr
  refine (redu_run S h132 h195 (sl_rel h1).1 hc hl hm).mono ?_
  rintro _ H' ⟨⟨β, rfl, hβ⟩, rfl⟩
  refine ⟨.bool β, ?_, .bool _, KpH.refl _ _⟩
  cases β with
  | true => exact .inl ⟨hβ.1 rfl, rfl⟩
  | false => exact .inr ⟨fun h => (by have := hβ.2 h; cases this), rfl⟩
def CkR (P : List Int) (lo hi den : Int) : Int -> Prop := CkE (P.length < 2 ∨ 5 < P.length) (InR P lo hi den) (P.getD (P.length - 1) 0 ≠ 1 ∨ (P.length ≠ 2 /\ HasR P)) (hi < lo) (OneR P lo hi den)
theorem rcheck_ct (hS : OldG S) {P : List Int} {lo hi den : Int} (hl : P.length <= 8) : Ct (ctx.plus S) 43 [pF P lo hi den] 50000000000 fun r => ∃ e, CkR P lo hi den e /\ r = pn e := by
 refine ct_of hS.h43 fn43 ?_
 refine ⟨by omega, ?_⟩
 refine ⟨_, rfl, ?_⟩
 refine ⟨fun h1 => ?_, fun h1 => ?_⟩
 ·exact endq rfl ⟨_, .shape (.inl (by omega)), rfl⟩
 refine ⟨fun h2 => ?_, fun h2 => ?_⟩
 ·exact endq rfl ⟨_, .shape (.inr (by omega)), rfl⟩
 have hsh : ¬ (P.length < 2 ∨ 5 < P.length) := by omega
 refine ⟨fun m s => ∃ (i : Nat) (j2 j5 j6 j7 j8 j9 ja jb jc jd je jf jg jh ji jj jk jl jm jn jo jp jq jr js jt ju jv jw jx jy jz jA jB jC jD jE jF jG jH jI jJ jK jL jM jN jO jP jQ jR jS jT jU jV jW jX jY jZ : PV),
  s = ⟨[pF P lo hi den, .optr 0 0, j2, pn P.length, pn (i : Int), j5, j6, j7, j8, j9, ja, jb, jc, jd, je, jf, jg, jh, ji, jj, jk, jl, jm, jn, jo, jp, jq, jr, js, jt, ju, jv, jw, jx, jy, jz, jA, jB, jC, jD, jE, jF, jG, jH, jI, jJ, jK, jL, jM, jN, jO, jP, jQ, jR, jS, jT, jU, jV, jW, jX, jY, jZ], [.live 46 [pIs P, pn lo, pn hi, pn den]], 1⟩ /\ m = P.length - i /\ i <= P.length /\ (∀ j x, j < i -> P[j]? = some x -> -1000 <= x /\ x <= 1000), ⟨P.length, ?_⟩, ?_⟩
 ·exact ci ⟨0, _, _, _, _, _, _, _, _, _, _, _, _, _, _, _, _, _, _, _, _, _, _, _, _, _, _, _, _, _, _, _, _, _, _, _, _, _, _, _, _, _, _, _, _, _, _, _, _, _, _, _, _, _, _, _, _, _, _, rfl, rfl, by omega, fun j x h => by omega⟩
 ·rintro m s ⟨i, j2, j5, j6, j7, j8, j9, ja, jb, jc, jd, je, jf, jg, jh, ji, jj, jk, jl, jm, jn, jo, jp, jq, jr, js, jt, ju, jv, jw, jx, jy, jz, jA, jB, jC, jD, jE, jF, jG, jH, jI, jJ, jK, jL, jM, jN, jO, jP, jQ, jR, jS, jT, jU, jV, jW, jX, jY, jZ, rfl, hm, hi2, hok⟩
  refine ⟨fun hlt => ?_, fun hge => ?_⟩
  ·obtain ⟨x, hx⟩ : ∃ x, P[i]? = some x := ⟨P[i]'(by omega), List.getElem?_eq_getElem _⟩
   refine ⟨_, rfl, ?_⟩
   refine ⟨⟨⟨by omega, by omega⟩, len_map_le (by omega)⟩, ?_⟩
   refine ⟨_, ld (at_map hx) (by show _ * 1 = i; omega), ?_⟩
   refine callq rfl (rwithin_ct S hS.h131) (by omega) ?_
   rintro _ (⟨h, rfl⟩ | ⟨h, rfl⟩)
   ·refine ⟨⟨by omega, by omega⟩, ?_⟩
    refine ⟨P.length - (i + 1), by omega, ci ⟨i + 1, _, _, _, _, _, _, _, _, _, _, _, _, _, _, _, _, _, _, _, _, _, _, _, _, _, _, _, _, _, _, _, _, _, _, _, _, _, _, _, _, _, _, _, _, _, _, _, _, _, _, _, _, _, _, _, _, _, _, rfl, rfl, by omega, fun j y hj hy => ?_⟩⟩
    by_cases hji : j = i
    ·subst hji
     rw [hx] at hy
     cases hy
     exact h
    ·exact hok j y (by omega) hy
   ·exact endq rfl ⟨_, .range hsh (fun hh => h (hh.1 x (List.mem_of_getElem? hx))), rfl⟩
  ·have hcf : Cf P := fun c hc => by
    obtain ⟨j, hj⟩ := List.getElem?_of_mem hc
    exact hok j c (by have := (List.getElem?_eq_some_iff.1 hj).1; omega) hj
   refine ⟨_, rfl, ?_⟩
   refine callq rfl (rwithin_ct S hS.h131) (by omega) ?_
   rintro _ (⟨g1, rfl⟩ | ⟨g1, rfl⟩)
   ·refine ⟨_, rfl, ?_⟩
    refine callq rfl (rwithin_ct S hS.h131) (by omega) ?_
    rintro _ (⟨g2, rfl⟩ | ⟨g2, rfl⟩)
    ·refine ⟨_, rfl, ?_⟩
     refine callq rfl (rwithin_ct S hS.h131) (by omega) ?_
     rintro _ (⟨g3, rfl⟩ | ⟨g3, rfl⟩)
     ·have hin : InR P lo hi den := ⟨hcf, g1, g2, g3⟩
      clear hok hm hge hi2 g1 g2 g3
      obtain ⟨p0, cs, rfl⟩ : ∃ c0 cs, P = c0 :: cs := by
       cases P with
       | nil => simp at h1
       | cons c0 cs => exact ⟨c0, cs, rfl⟩
      have hlast := get_at (p := p0 :: cs) (i := (p0 :: cs).length - 1) (by simp)
      have hl2 : 1 <= cs.length /\ cs.length <= 4 := by simp at hsh; omega
      refine ⟨_, rfl, ?_⟩
      refine ⟨⟨by omega, by omega⟩, ?_⟩
      refine ⟨⟨⟨by omega, by omega⟩, len_map_le (by omega)⟩, ?_⟩
      refine ⟨_, ld (at_map hlast) (by show _ * 1 = _; omega), ?_⟩
      refine ⟨fun hne => ?_, fun heq => ?_⟩
      ·exact endq rfl ⟨_, .form hsh hin (.inl hne), rfl⟩
      have hm : cs.length = 4 -> ∃ p1 p2 p3, cs = [p1, p2, p3, 1] := fun h4 => by
       match cs, h4 with
       | [p1, p2, p3, p4], _ =>
        simp at heq
        exact ⟨p1, p2, p3, by rw [heq]⟩
      refine ⟨_, rfl, ?_⟩
      refine callq rfl (redu_ct S hS.h132 hS.h195 hin.1 hl2 hm) (by omega) ?_
      rintro _ (⟨hd, rfl⟩ | ⟨hd, rfl⟩)
      ·exact endq rfl ⟨_, .form hsh hin (.inr ⟨by simp; omega, hd.2⟩), rfl⟩
      have hfm : ¬ ((p0 :: cs).getD ((p0 :: cs).length - 1) 0 ≠ 1 ∨ ((p0 :: cs).length ≠ 2 /\ HasR (p0 :: cs))) := fun h => by
       rcases h with h | h
       ·exact h heq
       ·exact hd ⟨by have := h.1; simp at this; omega, h.2⟩
      refine ⟨_, rfl, ?_⟩
      refine ⟨_, rfl, ?_⟩
      refine ⟨fun ho => ?_, fun ho => ?_⟩
      ·exact endq rfl ⟨_, .order hsh hin hfm ho, rfl⟩
      refine ⟨pF (p0 :: cs) lo hi den, rfl, ?_⟩
      refine callq rfl (roots_ct S hS.f hin.1 (by omega) hin.2.2.1 hin.2.2.2 hin.2.1) (by omega) ?_
      rintro _ ⟨n, rfl, hn⟩
      refine ⟨fun hn1 => ?_, fun hn1 => ?_⟩
      ·exact endq rfl ⟨_, .none hsh hin hfm (by omega) (fun h => hn1 (hn.2 h)), rfl⟩
      ·exact endq rfl ⟨_, .ok hsh hin hfm (by omega) (hn.1 hn1), rfl⟩
     ·exact endq rfl ⟨_, .range hsh (fun hh => g3 hh.2.2.2), rfl⟩
    ·exact endq rfl ⟨_, .range hsh (fun hh => g2 hh.2.2.1), rfl⟩
   ·exact endq rfl ⟨_, .range hsh (fun hh => g1 hh.2.1), rfl⟩
theorem CkE.same {s i f f' o n n' : Prop} {e e' : Int} (hf : ¬ s -> i -> (f ↔ f')) (hn : ¬ s -> i -> ¬ f -> (n ↔ n')) (h : CkE s i f o n e) (h' : CkE s i f' o n' e') : e = e' := by
 cases h <;> cases h' <;> first | rfl | (exfalso; simp_all; done) | (exfalso; grind)
end Go.PI
namespace Go.PI
open IM
theorem getD_last_top {l : List Int} (h : l.getD (l.length - 1) 0 = 1) : Top l := by
 cases hl : l with
 | nil => exact .inl rfl
 | cons x xs =>
  have hne : (x :: xs) ≠ [] := by simp
  refine .inr ⟨(x :: xs).dropLast, (x :: xs).getLast hne, (List.dropLast_concat_getLast hne).symm, ?_⟩
  rw [List.getLast_eq_getElem]
  subst hl
  rw [List.getD_eq_getElem?_getD, List.getElem?_eq_getElem (by simp)] at h
  simp only [Option.getD_some] at h
  rw [h]; decide
theorem derL_last : ∀ (l : List Int) (k : Int), derL k l = [] ∨ (derL k l).getLast? = l.getLast?.map (fun c => (k + (l.length - 1 : Nat)) * c)
 | [], _ => .inl rfl
 | [c], k => .inr (by simp [derL])
 | c :: d :: cs, k => by
  refine .inr ?_
  rcases derL_last (d :: cs) (k + 1) with h | h
  ·simp [derL] at h
  ·have e : derL k (c :: d :: cs) = k * c :: derL (k + 1) (d :: cs) := rfl
   have e2 : derL (k + 1) (d :: cs) = (k + 1) * d :: derL (k + 1 + 1) cs := rfl
   rw [e, e2, List.getLast?_cons_cons, ← e2, h, List.getLast?_cons_cons]
   congr 1
   funext x
   have : (k + 1 + ((d :: cs).length - 1 : Nat) : Int) = k + ((c :: d :: cs).length - 1 : Nat) := by simp; omega
   rw [this]
theorem derL_top {c0 : Int} {cs : List Int} (h : (c0 :: cs).getD ((c0 :: cs).length - 1) 0 = 1) (hc : cs ≠ []) : Top (derL 1 cs) := by
 rcases derL_last cs 1 with e | e
 ·exact .inl e
 ·cases hd : derL 1 cs with
  | nil => exact .inl rfl
  | cons x xs =>
   have hne : (x :: xs) ≠ [] := by simp
   refine .inr ⟨(x :: xs).dropLast, (x :: xs).getLast hne, (List.dropLast_concat_getLast hne).symm, ?_⟩
   rw [hd, List.getLast?_eq_some_getLast hne, List.getLast?_eq_some_getLast hc] at e
   simp only [Option.map_some, Option.some.injEq] at e
   rw [e]
   have h1 : cs.getLast hc = 1 := by
    rw [List.getLast_eq_getElem]
    have hp : 0 < cs.length := List.length_pos_iff.2 hc
    rw [List.getD_eq_getElem?_getD, List.getElem?_eq_getElem (by simp)] at h
    simp only [Option.getD_some] at h
    rw [List.getElem_cons] at h
    split at h
    ·rename_i h0; simp at h0; contradiction
    ·exact h
   rw [h1]
   omega
theorem chk_same {P : List Int} {lo hi den e e' : Int} (h : CkP P lo hi den e) (h' : CkR P lo hi den e') : e = e' := by
 refine CkE.same (fun hs hin => ?_) (fun hs hin hf => ?_) h h'
 ·constructor
  ·rintro (h | h)
   ·exact .inl h
   ·exact .inr ⟨h.1, (has_iff (by rintro rfl; simp at hs) hin.1).1 h.2⟩
  ·rintro (h | h)
   ·exact .inl h
   ·exact .inr ⟨h.1, (has_iff (by rintro rfl; simp at hs) hin.1).2 h.2⟩
 ·have hl : P.getD (P.length - 1) 0 = 1 := by
   by_cases hl : P.getD (P.length - 1) 0 = 1
   ·exact hl
   ·exact absurd (.inl hl) hf
  constructor
  ·rintro (hh | ⟨h2, c0, cs, rfl, hh⟩)
   ·exact .inl hh
   ·refine .inr ⟨h2, c0, cs, rfl, ?_⟩
    have hc : cs ≠ [] := by rintro rfl; simp at hs
    have hd : derL 1 cs ≠ [] := fun hd => by have := derL_len cs 1; rw [hd] at this; cases cs with | nil => contradiction | cons _ _ => simp at this
    rw [← counts (getD_last_top hl) (derL_top hl hc) hd, ← counts (getD_last_top hl) (derL_top hl hc) hd]
    exact hh
  ·rintro (hh | ⟨h2, c0, cs, rfl, hh⟩)
   ·exact .inl hh
   ·refine .inr ⟨h2, c0, cs, rfl, ?_⟩
    have hc : cs ≠ [] := by rintro rfl; simp at hs
    have hd : derL 1 cs ≠ [] := fun hd => by have := derL_len cs 1; rw [hd] at this; cases cs with | nil => contradiction | cons _ _ => simp at this
    rw [counts (getD_last_top hl) (derL_top hl hc) hd, counts (getD_last_top hl) (derL_top hl hc) hd]
    exact hh
end Go.PI
open Go.Proofs
namespace Go.PI
open IM
set_option maxRecDepth 10000
set_option maxHeartbeats 4000000
theorem fn199 : ctx.fn 199 = some c199 := by kernel_rfl
theorem part3 {σ σ1 σ2 σ3 : List StB} {u v w p q r : PV} {i j l : Nat} {K : List (Nat × PV) -> List StB -> Prop} (h1 : Fz u σ p σ1) (h2 : Fz v σ1 q σ2) (h3 : Fz w σ2 r σ3) (hK : K [(i, p), (j, q), (l, r)] σ3) : PartK σ [(i, u), (j, v), (l, w)] K := ⟨h1 _ (h2 _ (h3 _ hK))⟩
variable (S : FuncId -> Option (List AV -> Heap -> Option (AV × Heap)))
theorem spread_ct (hS : OldI S) (h199 : S 199 = none) {a b x y : Int} {e g : Nat} (ha : B2 e a) (hb : B2 e b) (hx : B2 g x) (hy : B2 g y) (he : e <= 6500) (hg : g <= 6500) :
  Ct (ctx.plus S) 199 [pI a, pI b, pI x, pI y] 1000 fun r => ∃ u v, B2 (e + g) u /\ B2 (e + g) v /\ r = .tup [pI u, pI v] := by
 refine ct_of h199 fn199 ?_
 have la : (digits a).length <= 251 := (ha.mono (b := 6500) (by omega)).dig (by omega)
 have lb : (digits b).length <= 251 := (hb.mono (b := 6500) (by omega)).dig (by omega)
 have lx : (digits x).length <= 251 := (hx.mono (b := 6500) (by omega)).dig (by omega)
 have ly : (digits y).length <= 251 := (hy.mono (b := 6500) (by omega)).dig (by omega)
 have big : ∀ z, B2 (e + g) z -> (digits z).length <= 1000000 := fun z hz => by have := (hz.mono (b := 13000) (by omega)).dig (k := 500) (by omega); omega
 refine callq rfl (prod_ct S hS.o hS.h116 (X := a) (Y := x) (by omega) (by omega)) (by omega) ?_
 rintro _ rfl
 refine callq rfl (prod_ct S hS.o hS.h116 (X := a) (Y := y) (by omega) (by omega)) (by omega) ?_
 rintro _ rfl
 refine callq rfl (prod_ct S hS.o hS.h116 (X := b) (Y := x) (by omega) (by omega)) (by omega) ?_
 rintro _ rfl
 refine callq rfl (prod_ct S hS.o hS.h116 (X := b) (Y := y) (by omega) (by omega)) (by omega) ?_
 rintro _ rfl
 refine ⟨by omega, part3 fzL fzL fzL ⟨[pI (a * y), pI (b * x), pI (b * y)], rfl, ?_⟩⟩
 have el : ∀ i : Nat, i < 3 -> ∃ z, B2 (e + g) z /\ [pI (a * y), pI (b * x), pI (b * y)][i]? = some (pI z) := fun i hi => by
  match i, hi with
  | 0, _ => exact ⟨_, ha.mul hy, rfl⟩
  | 1, _ => exact ⟨_, hb.mul hx, rfl⟩
  | 2, _ => exact ⟨_, hb.mul hy, rfl⟩
 refine ⟨fun mm s => ∃ (i : Nat) (u v : Int) (q : Nat) (j4 j5 j6 j7 ja jb jc jd je jf jg jh ji jj jk jl jm jn jo js jt ju jv jw jx jy jz jA jB jC jD jE jF jG jH : PV),
  s = ⟨[pI a, pI b, pI x, pI y, j4, j5, j6, j7, pI u, pI v, ja, jb, jc, jd, je, jf, jg, jh, ji, jj, jk, jl, jm, jn, jo, .own 0 0 3 3 1, pn 3, pn (i : Int), js, jt, ju, jv, jw, jx, jy, jz, jA, jB, jC, jD, jE, jF, jG, jH], [.live 22 [pI (a * y), pI (b * x), pI (b * y)]], q⟩ /\ mm = 3 - i /\ i <= 3 /\ B2 (e + g) u /\ B2 (e + g) v /\ q = 81 + 40 * i, ⟨3, ?_⟩, ?_⟩
 ·exact ci ⟨0, a * x, a * x, _, _, _, _, _, _, _, _, _, _, _, _, _, _, _, _, _, _, _, _, _, _, _, _, _, _, _, _, _, _, _, _, _, _, _, _, rfl, rfl, by omega, ha.mul hx, ha.mul hx, rfl⟩
 ·rintro mm s ⟨i, u, v, q, j4, j5, j6, j7, ja, jb, jc, jd, je, jf, jg, jh, ji, jj, jk, jl, jm, jn, jo, js, jt, ju, jv, jw, jx, jy, jz, jA, jB, jC, jD, jE, jF, jG, jH, rfl, hm, hi, hu, hv, hq⟩
  refine ⟨fun hlt => ?_, fun hge => ?_⟩
  ·obtain ⟨z, hz, hget⟩ := el i (by omega)
   refine ⟨⟨by omega, by omega⟩, ?_⟩
   refine ⟨_, load_k rfl rfl rfl hget (by (show 0 + i * 1 = i); omega), ?_⟩
   refine callq rfl (cmp_ct S hS (X := z) (Y := u) (big _ hz) (big _ hu)) (by omega) ?_
   rintro _ rfl
   refine ⟨fun h1 => ?_, fun h1 => ?_⟩
   ·refine callq rfl (cmp_ct S hS (X := z) (Y := v) (big _ hz) (big _ hv)) (by omega) ?_
    rintro _ rfl
    refine ⟨fun h2 => ?_, fun h2 => ?_⟩
    ·refine ⟨⟨by omega, by omega⟩, ?_⟩
     exact ⟨3 - (i + 1), by omega, ci ⟨i + 1, z, z, _, _, _, _, _, _, _, _, _, _, _, _, _, _, _, _, _, _, _, _, _, _, _, _, _, _, _, _, _, _, _, _, _, _, _, _, rfl, rfl, by omega, hz, hz, by omega⟩⟩
    ·refine ⟨⟨by omega, by omega⟩, ?_⟩
     exact ⟨3 - (i + 1), by omega, ci ⟨i + 1, z, v, _, _, _, _, _, _, _, _, _, _, _, _, _, _, _, _, _, _, _, _, _, _, _, _, _, _, _, _, _, _, _, _, _, _, _, _, rfl, rfl, by omega, hz, hv, by omega⟩⟩
   ·refine callq rfl (cmp_ct S hS (X := z) (Y := v) (big _ hz) (big _ hv)) (by omega) ?_
    rintro _ rfl
    refine ⟨fun h2 => ?_, fun h2 => ?_⟩
    ·refine ⟨⟨by omega, by omega⟩, ?_⟩
     exact ⟨3 - (i + 1), by omega, ci ⟨i + 1, u, z, _, _, _, _, _, _, _, _, _, _, _, _, _, _, _, _, _, _, _, _, _, _, _, _, _, _, _, _, _, _, _, _, _, _, _, _, rfl, rfl, by omega, hu, hz, by omega⟩⟩
    ·refine ⟨⟨by omega, by omega⟩, ?_⟩
     exact ⟨3 - (i + 1), by omega, ci ⟨i + 1, u, v, _, _, _, _, _, _, _, _, _, _, _, _, _, _, _, _, _, _, _, _, _, _, _, _, _, _, _, _, _, _, _, _, _, _, _, _, rfl, rfl, by omega, hu, hv, by omega⟩⟩
  ·exact endsq rfl ⟨u, v, hu, hv, rfl⟩
theorem fn237 : ctx.fn 237 = some c237 := by kernel_rfl
theorem fz_own {i n c e : Nat} {σ : List StB} {ty : TypeId} {cs cs' : List PV} (h : contOf σ i = some (ty, cs)) (hl : n * e <= cs.length) (hc : n <= c) (ht : cs.take (n * e) = cs') : Fz (.own i 0 n c e) σ (.lst n cs') (σ.set i (.frz ty cs)) :=
 fun K hK => ⟨ty, cs, cs', h, by omega, by simpa using ht, hK⟩
abbrev rCells (P : List Int) (lo hi den deg : Int) (L : List Int) (st : List PV) : List PV := pIs P :: pn lo :: pn hi :: pn den :: pn deg :: pR L :: st
structure OldE (S : FuncId -> Option (List AV -> Heap -> Option (AV × Heap))) : Prop where
 c : OldC S
 h135 : S 135 = none
 h136 : S 136 = none
 h159 : S 159 = none
 h198 : S 198 = none
 h199 : S 199 = none
 h237 : S 237 = none
theorem part_cb (hS : OldE S) {P L : List Int} {lo hi den deg : Int} {st : List PV} {a w d : Int} {h g : Nat} (hg : 22 <= g) (hh : 1 <= h) (hgh : g + h <= 1000) (ha : B2 g a) (hw : 0 <= w /\ w <= 2097152) (hd : 1 <= d) (hdg : B2 g d)
  (hL : B2s 12 L) (hl : L.length <= 8) (hr : ∀ x y, 1 <= y -> (vS L x y).1 ≠ 0) :
  Cb (ctx.plus S) 237 [.bptr (rCells P lo hi den deg L st), .agg [pI a, pI w, pI d, pn h]] 100000 fun r => ∃ a' β, B2 (g + h + 1) a' /\ (h = 1 -> β = true) /\ r = .tup [.agg [pI a', pI w, pI (d * 2 ^ h), pn h], .bool β] := by
 refine cb_of hS.h237 fn237 ?_
 refine ⟨by omega, by omega, by omega, _, rfl, ?_⟩
 obtain ⟨C, hC⟩ : ∃ C : Int, (2:Int) ^ h = C := ⟨_, rfl⟩
 have bC : B2 h C := by rw [← hC]; unfold B2; have := two_pos h; omega
 have hC1 : 1 <= C := by rw [← hC]; have := two_pos h; omega
 have bw : B2 21 w := by unfold B2; omega
 have baw : B2 (g + 1) (a + 1 * w) := by rw [Int.one_mul]; exact ha.add (bw.mono (by omega))
 have big : ∀ {e : Nat} {x : Int}, B2 e x -> e <= 13000 -> (digits x).length <= 501 := fun h he => (h.mono he).dig (by omega)
 refine ⟨_, rfl, ?_⟩
 refine cal2 (fz_own rfl (by decide) (by decide) rfl) fzI (power_ct S hS.c.i hS.h159 (x := 2) (g := 1) (n := h) (by unfold B2; decide) (by omega) (by omega) (by omega)) (by omega) ?_
 rintro _ rfl
 rw [hC]
 have vA := vS_B2 ha hdg L hL
 have vB := vS_B2 baw (hdg.mono (Nat.le_succ g)) L hL
 obtain ⟨A, hA⟩ : ∃ A, (vS L a d).1 = A := ⟨_, rfl⟩
 obtain ⟨B, hB⟩ : ∃ B, (vS L (a + 1 * w) d).1 = B := ⟨_, rfl⟩
 have hA0 : A ≠ 0 := hA ▸ hr a d hd
 refine ⟨by kernel_rfl, ?_⟩
 refine ⟨(show 5 <= st.length + 6 by omega), _, rfl, rfl, ?_⟩
 refine ⟨_, rfl, rfl, ?_⟩
 refine ⟨_, rfl, rfl, ?_⟩
 refine callq rfl (valueB_ct S hS.c.i hS.c.h242 ha hdg hL (by omega) hl) (by omega) ?_
 rintro _ rfl
 rw [hA]
 refine ⟨by kernel_rfl, ?_⟩
 refine ⟨(show 5 <= st.length + 6 by omega), _, rfl, rfl, ?_⟩
 refine ⟨_, rfl, rfl, ?_⟩
 refine ⟨_, rfl, rfl, ?_⟩
 refine callq rfl (plus_ct S hS.c.i.o hS.c.i.h114 (X := a) (f := 1) (Y := w) (by have := big ha; omega) (by have := big bw; omega) (by omega)) (by omega) ?_
 rintro _ rfl
 refine ⟨_, rfl, rfl, ?_⟩
 refine callq rfl (valueB_ct S hS.c.i hS.c.h242 (b := d) baw (hdg.mono (Nat.le_succ g)) hL (by omega) hl) (by omega) ?_
 rintro _ rfl
 rw [hB]
 have bA : B2 12900 A := hA ▸ vA.1.mono (by have := Nat.mul_le_mul_left (g + 1) hl; omega)
 have bB : B2 12900 B := hB ▸ vB.1.mono (by have := Nat.mul_le_mul_left (g + 1 + 1) hl; omega)
 have lA := big bA (by omega)
 have lB := big bB (by omega)
 have laA := big bA.abs (by omega)
 have laB := big bB.abs (by omega)
 have lC := big bC (by omega)
 refine callq rfl (sign_ct S hS.c.i.o.h125 (X := A) (by omega)) (by omega) ?_
 rintro _ rfl
 refine callq rfl (size_ct S hS.c.i.h186 hS.c.i.o.h125 hS.c.i.h127 (X := A) (by omega)) (by omega) ?_
 rintro _ rfl
 refine callq rfl (prod_ct S hS.c.i.o hS.c.i.h116 (X := C) (Y := A.natAbs) (by omega) (by omega)) (by omega) ?_
 rintro _ rfl
 refine callq rfl (size_ct S hS.c.i.h186 hS.c.i.o.h125 hS.c.i.h127 (X := A) (by omega)) (by omega) ?_
 rintro _ rfl
 refine callq rfl (size_ct S hS.c.i.h186 hS.c.i.o.h125 hS.c.i.h127 (X := B) (by omega)) (by omega) ?_
 rintro _ rfl
 refine callq rfl (plus_ct S hS.c.i.o hS.c.i.h114 (X := A.natAbs) (f := 1) (Y := B.natAbs) (by omega) (by omega) (by omega)) (by omega) ?_
 rintro _ rfl
 have bs : B2 12901 (A.natAbs + 1 * B.natAbs) := by rw [Int.one_mul]; exact bA.abs.add bB.abs
 have bm : B2 25900 (C * A.natAbs) := (bC.mul bA.abs).mono (by omega)
 have hm0 : 0 <= C * (A.natAbs : Int) := Int.mul_nonneg (by omega) (by omega)
 have hs0 : 0 < (A.natAbs : Int) + 1 * B.natAbs := by omega
 have lm : (digits (C * (A.natAbs : Int))).length <= 900000 := by have := bm.dig (k := 1000) (by omega); omega
 have ls : (digits ((A.natAbs : Int) + 1 * B.natAbs)).length <= 900000 := by have := big bs (by omega); omega
 refine callq rfl (quot_ct S hS.c.i lm ls hm0 hs0) (by omega) ?_
 rintro _ rfl
 obtain ⟨q, hq⟩ : ∃ q, C * (A.natAbs : Int) / ((A.natAbs : Int) + 1 * B.natAbs) = q := ⟨_, rfl⟩
 obtain ⟨rm, hrm⟩ : ∃ r, C * (A.natAbs : Int) % ((A.natAbs : Int) + 1 * B.natAbs) = r := ⟨_, rfl⟩
 have hq0 : 0 <= q := hq ▸ Int.ediv_nonneg hm0 (by omega)
 have hqC : q <= C := by
  rw [← hq]
  refine Int.ediv_le_of_le_mul hs0 ?_
  exact Int.mul_le_mul_of_nonneg_left (by omega) (by omega)
 rw [hq, hrm]
 have lq := big (show B2 h q by unfold B2; rw [hC]; omega) (by omega)
 have bqw : B2 (h + 21) (q * w) := (show B2 h q by unfold B2; rw [hC]; omega).mul bw
 have bac : B2 (g + h) (a * C) := ha.mul bC
 have bdc : B2 (g + h) (d * C) := hdg.mul bC
 have hdC : 1 <= d * C := by have := Int.mul_le_mul hd hC1 (by omega) (by omega : (0:Int) <= d); omega
 obtain ⟨a1, ha1⟩ : ∃ x, a * C + 1 * (q * w) = x := ⟨_, rfl⟩
 obtain ⟨d1, hd1⟩ : ∃ x, d * C = x := ⟨_, rfl⟩
 have fin : ∀ f : Int, -1 <= f /\ f <= 1 -> B2 (g + h + 1) (a1 + f * w) := fun f hf => by
  have hf' : f = -1 ∨ f = 0 ∨ f = 1 := by omega
  have e1 := two_mono (show h + 22 <= g + h by omega)
  have e2 := two_mono (show 22 <= h + 21 by omega)
  have e3 : (2:Int) ^ (h + 22) = 2 * 2 ^ (h + 21) := by rw [show h + 22 = (h + 21) + 1 from rfl, Int.pow_succ]; omega
  have e4 : (2:Int) ^ 22 = 4194304 := by decide
  have e5 : (2:Int) ^ (g + h + 1) = 2 * 2 ^ (g + h) := by rw [Int.pow_succ]; omega
  unfold B2 at bqw bac ⊢
  rcases hf' with rfl | rfl | rfl <;> omega
 have ba1 : B2 (g + h + 1) a1 := by have := fin 0 (by omega); rwa [Int.zero_mul, Int.add_zero] at this
 have lw := big bw (by omega)
 have la1 := big ba1 (by omega)
 have la := big ha (by omega)
 have ld0 := big hdg (by omega)
 have lac := big bac (by omega)
 have lqw := big bqw (by omega)
 refine ⟨_, rfl, ?_⟩
 refine callq rfl (prod_ct S hS.c.i.o hS.c.i.h116 (X := d) (Y := C) (by omega) (by omega)) (by omega) ?_
 rintro _ rfl
 rw [hd1]
 refine ⟨_, _, rfl, ⟨rfl, Nat.le_of_ble_eq_true rfl, rfl⟩, _, rfl, [.live 142 [pI a, pI w, pI d1, pn h], .live 142 [.lst 0 [], .lst 0 [], .lst 0 [], pn 0], .frz 3 [pn 2]], rfl, ?_⟩
 refine ⟨by kernel_rfl, ?_⟩
 refine ⟨_, rfl, rfl, ?_⟩
 refine callq rfl (prod_ct S hS.c.i.o hS.c.i.h116 (X := a) (Y := C) (by omega) (by omega)) (by omega) ?_
 rintro _ rfl
 refine ⟨_, rfl, rfl, ?_⟩
 refine callq rfl (prod_ct S hS.c.i.o hS.c.i.h116 (X := q) (Y := w) (by omega) (by omega)) (by omega) ?_
 rintro _ rfl
 refine callq rfl (plus_ct S hS.c.i.o hS.c.i.h114 (X := a * C) (f := 1) (Y := q * w) (by omega) (by omega) (by omega)) (by omega) ?_
 rintro _ rfl
 rw [ha1]
 refine ⟨_, _, rfl, ⟨rfl, Nat.le_of_ble_eq_true rfl, rfl⟩, _, rfl, [.live 142 [pI a1, pI w, pI d1, pn h], .live 142 [.lst 0 [], .lst 0 [], .lst 0 [], pn 0], .frz 3 [pn 2]], rfl, ?_⟩
 refine ⟨_, rfl, ?_⟩
 refine ⟨_, rfl, ?_⟩
 refine callq rfl (plus_ct S hS.c.i.o hS.c.i.h114 (X := a1) (f := 1) (Y := w) (by omega) (by omega) (by omega)) (by omega) ?_
 rintro _ rfl
 rw [hd1] at bdc hdC
 have vb1 := valueB_ct S hS.c.i hS.c.h242 (a := a1) (b := d1) ba1 (bdc.mono (Nat.le_succ _)) hL (by omega) hl
 have ba2 := fin 1 (by omega)
 have vb2 := valueB_ct S hS.c.i hS.c.h242 (a := a1 + 1 * w) (b := d1) ba2 (bdc.mono (Nat.le_succ _)) hL (by omega) hl
 have bv : ∀ x, B2 (g + h + 1) x -> (digits (vS L x d1).1).length <= 501 := fun x hx => big (vS_B2 hx (bdc.mono (Nat.le_succ _)) L hL).1 (by have := Nat.mul_le_mul_left (g + h + 1 + 1) hl; omega)
 refine ⟨by kernel_rfl, ?_⟩
 refine ⟨(show 5 <= st.length + 6 by omega), _, rfl, rfl, ?_⟩
 refine ⟨_, rfl, rfl, ?_⟩
 refine ⟨_, rfl, rfl, ?_⟩
 refine callq rfl vb1 (by omega) ?_
 rintro _ rfl
 refine callq rfl (sign_ct S hS.c.i.o.h125 (X := (vS L a1 d1).1) (by have := bv a1 ba1; omega)) (by omega) ?_
 rintro _ rfl
 refine ⟨fun h1 => ?_, fun h1 => ?_⟩
 ·refine ⟨_, rfl, ?_⟩
  refine ⟨_, rfl, ?_⟩
  refine callq rfl (plus_ct S hS.c.i.o hS.c.i.h114 (X := a1) (f := -1) (Y := w) (by omega) (by omega) (by omega)) (by omega) ?_
  rintro _ rfl
  refine ⟨_, _, rfl, ⟨rfl, Nat.le_of_ble_eq_true rfl, rfl⟩, _, rfl, [.live 142 [pI (a1 + -1 * w), pI w, pI d1, pn h], .live 142 [.lst 0 [], .lst 0 [], .lst 0 [], pn 0], .frz 3 [pn 2]], rfl, ?_⟩
  refine ⟨by kernel_rfl, ?_⟩
  refine ⟨_, rfl, rfl, ?_⟩
  refine ⟨_, rfl, rfl, ?_⟩
  refine ⟨fun hh => ?_, fun hh => ?_⟩
  ·skip
   refine ⟨_, _, rfl, ⟨rfl, Nat.le_of_ble_eq_true rfl, rfl⟩, _, rfl, [.live 142 [pI (a1 + -1 * w), pI w, pI d1, pn h], .live 142 [pI (a1 + -1 * w), pI w, pI d1, pn h], .frz 3 [pn 2]], rfl, ?_⟩
   refine ⟨_, rfl, ?_⟩
   exact endsq rfl ⟨a1 + -1 * w, true, fin (-1) (by omega), fun _ => rfl, rfl⟩
  ·skip
   refine ⟨_, _, rfl, ⟨rfl, Nat.le_of_ble_eq_true rfl, rfl⟩, _, rfl, [.live 142 [pI (a1 + -1 * w), pI w, pI d1, pn h], .live 142 [pI (a1 + -1 * w), pI w, pI d1, pn h], .frz 3 [pn 2]], rfl, ?_⟩
   refine ⟨_, rfl, ?_⟩
   exact endsq rfl ⟨a1 + -1 * w, false, fin (-1) (by omega), fun h2 => absurd (show (h : Int) = 1 by omega) hh, rfl⟩
 ·refine ⟨by kernel_rfl, ?_⟩
  refine ⟨(show 5 <= st.length + 6 by omega), _, rfl, rfl, ?_⟩
  refine ⟨_, rfl, rfl, ?_⟩
  refine callq rfl vb2 (by omega) ?_
  rintro _ rfl
  refine callq rfl (sign_ct S hS.c.i.o.h125 (X := (vS L (a1 + 1 * w) d1).1) (by have := bv (a1 + 1 * w) ba2; omega)) (by omega) ?_
  rintro _ rfl
  refine ⟨fun h2 => ?_, fun h2 => ?_⟩
  ·skip
   refine ⟨_, _, rfl, ⟨rfl, Nat.le_of_ble_eq_true rfl, rfl⟩, _, rfl, [.live 142 [pI (a1 + 1 * w), pI w, pI d1, pn h], .live 142 [.lst 0 [], .lst 0 [], .lst 0 [], pn 0], .frz 3 [pn 2]], rfl, ?_⟩
   refine ⟨by kernel_rfl, ?_⟩
   refine ⟨_, rfl, rfl, ?_⟩
   refine ⟨_, rfl, rfl, ?_⟩
   refine ⟨fun hh => ?_, fun hh => ?_⟩
   ·skip
    refine ⟨_, _, rfl, ⟨rfl, Nat.le_of_ble_eq_true rfl, rfl⟩, _, rfl, [.live 142 [pI (a1 + 1 * w), pI w, pI d1, pn h], .live 142 [pI (a1 + 1 * w), pI w, pI d1, pn h], .frz 3 [pn 2]], rfl, ?_⟩
    refine ⟨_, rfl, ?_⟩
    exact endsq rfl ⟨a1 + 1 * w, true, fin (1) (by omega), fun _ => rfl, rfl⟩
   ·skip
    refine ⟨_, _, rfl, ⟨rfl, Nat.le_of_ble_eq_true rfl, rfl⟩, _, rfl, [.live 142 [pI (a1 + 1 * w), pI w, pI d1, pn h], .live 142 [pI (a1 + 1 * w), pI w, pI d1, pn h], .frz 3 [pn 2]], rfl, ?_⟩
    refine ⟨_, rfl, ?_⟩
    exact endsq rfl ⟨a1 + 1 * w, false, fin (1) (by omega), fun h2 => absurd (show (h : Int) = 1 by omega) hh, rfl⟩
  ·refine ⟨_, rfl, ?_⟩
   refine ⟨_, _, rfl, ⟨rfl, Nat.le_of_ble_eq_true rfl, rfl⟩, _, rfl, [.live 142 [pI a1, pI w, pI d1, pn h], .live 142 [pI a1, pI w, pI d1, pn h], .frz 3 [pn 2]], rfl, ?_⟩
   refine ⟨_, rfl, ?_⟩
   exact endsq rfl ⟨a1, true, ba1, fun _ => rfl, rfl⟩
theorem fn198 : ctx.fn 198 = some c198 := by kernel_rfl
theorem load_agg {S : FuncId -> Option (List AV -> Heap -> Option (AV × Heap))} {σ : List StB} {j o : Nat} {t t' : TypeId} {i : TI} {cs : List PV} {v : PV} (hi : (ctx.plus S).ty t = some i) (hc : contOf σ j = some (t', cs)) (hv : partP i cs o = some v) : ploadE (ctx.plus S) σ t (.optr j o) = some v := by
 unfold ploadE
 rw [hi]
 simp only [hc]
 exact hv
theorem contOf_last {σ : List StB} {t : TypeId} {cs : List PV} : contOf (σ ++ [.live t cs]) σ.length = some (t, cs) := by
 unfold contOf
 simp [StB.cont]
abbrev iCells (a w d h : Int) : List PV := [pI a, pI w, pI d, pn h]
theorem narrowed_cb (hS : OldE S) {P L : List Int} {lo hi den deg : Int} {st : List PV} {a w d : Int} {h g : Nat} (hg : 22 <= g) (hh : 1 <= h) (hgh : g + h <= 1000) (ha : B2 g a) (hw : 0 <= w /\ w <= 2097152) (hd : 1 <= d) (hdg : B2 g d)
  (hL : B2s 12 L) (hl : L.length <= 8) (hr : ∀ x y, 1 <= y -> (vS L x y).1 ≠ 0) :
  Cb (ctx.plus S) 198 [.bptr (rCells P lo hi den deg L st), .agg (iCells a w d h)] (100020 * h + 100020) fun r => ∃ (a' : Int) (h' : Nat), 1 <= h' /\ h' <= h /\ B2 (g + h' + 1) a' /\ r = .agg (iCells a' w (d * 2 ^ h') (2 * (h' : Int))) := by
 refine cb_of hS.h198 fn198 ?_
 refine ⟨by omega, by omega, ?_⟩
 refine ⟨fun mm s => ∃ (n : Nat) (J : List StB) (q : Nat) (j2 j5 j6 j7 j8 j9 ja jb jc jd je jf jg jh ji jj jk jl jm : PV),
  s = ⟨[.bptr (rCells P lo hi den deg L st), .agg (iCells a w d h), j2, .optr 0 0, .optr 1 0, j5, j6, j7, j8, j9, ja, jb, jc, jd, je, jf, jg, jh, ji, jj, jk, jl, jm], .live 142 (iCells a w d n) :: .live 142 [.lst 0 [], .lst 0 [], .lst 0 [], pn 0] :: J, q⟩ /\ mm = n /\ 1 <= n /\ n <= h /\ q + 100020 * n <= 2 + 100020 * h, ⟨h, ?_⟩, ?_⟩
 ·exact ci ⟨h, [], _, _, _, _, _, _, _, _, _, _, _, _, _, _, _, _, _, _, _, _, rfl, rfl, hh, Nat.le_refl _, by omega⟩
 ·rintro mm s ⟨n, J, q, j2, j5, j6, j7, j8, j9, ja, jb, jc, jd, je, jf, jg, jh, ji, jj, jk, jl, jm, rfl, rfl, hn1, hnh, hq⟩
  refine ⟨_, rfl, ?_⟩
  refine calb lend_b rfl (by simp) (part_cb S hS hg hn1 (by omega) ha hw hd hdg hL hl hr) (by omega) ?_
  rintro _ ⟨a', β, ba', hβ, rfl⟩
  obtain ⟨σ0, hσ⟩ : ∃ σ : List StB, (.live 142 (iCells a w d mm) :: .live 142 [.lst 0 [], .lst 0 [], .lst 0 [], pn 0] :: J) = σ := ⟨_, rfl⟩
  rw [hσ]
  refine ⟨by omega, ?_⟩
  have hlen : σ0.length = J.length + 2 := by rw [← hσ]; rfl
  refine ⟨142, [.lst 0 [], .lst 0 [], .lst 0 [], pn 0], by (show (σ0 ++ [_])[σ0.length]? = _); simp, ⟨rfl, Nat.le_of_ble_eq_true rfl, rfl⟩, iCells a' w (d * 2 ^ mm) mm, rfl, σ0 ++ [.live 142 (iCells a' w (d * 2 ^ mm) mm)], by (show (σ0 ++ [_]).set σ0.length _ = _); simp, ?_⟩
  have c0 : ∀ x : StB, contOf (σ0 ++ [x]) 0 = some (142, iCells a w d mm) := fun x => by rw [← hσ]; rfl
  cases β with
  | true =>
   refine ⟨_, load_k (q := 3) rfl rfl (c0 _) rfl rfl, ?_⟩
   refine ⟨⟨by omega, by omega⟩, ?_⟩
   refine ⟨142, iCells a' w (d * 2 ^ mm) mm, by (show (σ0 ++ [_])[σ0.length]? = _); simp, ⟨rfl, Nat.le_of_ble_eq_true rfl, rfl⟩, iCells a' w (d * 2 ^ mm) (2 * (mm : Int)), rfl, σ0 ++ [.live 142 (iCells a' w (d * 2 ^ mm) (2 * (mm : Int)))], by (show (σ0 ++ [_]).set σ0.length _ = _); simp, ?_⟩
   refine ⟨_, load_agg rfl contOf_last rfl, ?_⟩
   refine ⟨142, [.lst 0 [], .lst 0 [], .lst 0 [], pn 0], by (show (σ0 ++ [_])[1]? = _); rw [← hσ]; rfl, ⟨rfl, Nat.le_of_ble_eq_true rfl, rfl⟩, iCells a' w (d * 2 ^ mm) (2 * (mm : Int)), rfl, .live 142 (iCells a w d mm) :: .live 142 (iCells a' w (d * 2 ^ mm) (2 * (mm : Int))) :: (J ++ [.live 142 (iCells a' w (d * 2 ^ mm) (2 * (mm : Int)))]), by (show (σ0 ++ [_]).set 1 _ = _); rw [← hσ]; rfl, ?_⟩
   refine ⟨_, rfl, ?_⟩
   exact endq rfl ⟨a', mm, hn1, hnh, ba', rfl⟩
  | false =>
   have hm1 : mm ≠ 1 := fun e => by have := hβ e; cases this
   have ed : ((mm : Int).tdiv 2) = ((mm / 2 : Nat) : Int) := by rw [Int.tdiv_eq_ediv_of_nonneg (by omega)]; omega
   refine ⟨_, load_k (q := 3) rfl rfl (c0 _) rfl rfl, ?_⟩
   refine ⟨⟨by omega, by rw [ed]; unfold In64; omega⟩, ?_⟩
   refine ⟨142, iCells a w d mm, by (show (σ0 ++ [_])[0]? = _); rw [← hσ]; rfl, ⟨rfl, Nat.le_of_ble_eq_true rfl, rfl⟩, iCells a w d ((mm / 2 : Nat) : Int), by rw [ed]; rfl, .live 142 (iCells a w d ((mm / 2 : Nat) : Int)) :: .live 142 [.lst 0 [], .lst 0 [], .lst 0 [], pn 0] :: (J ++ [.live 142 (iCells a' w (d * 2 ^ mm) mm)]), by (show (σ0 ++ [_]).set 0 _ = _); rw [← hσ]; rfl, ?_⟩
   exact ⟨mm / 2, by omega, ci ⟨mm / 2, _, _, _, _, _, _, _, _, _, _, _, _, _, _, _, _, _, _, _, _, _, rfl, rfl, by omega, by omega, by omega⟩⟩
theorem fn135 : ctx.fn 135 = some c135 := by kernel_rfl
theorem part4 {σ σ1 σ2 σ3 σ4 : List StB} {u v w x p q r t : PV} {i j l m : Nat} {K : List (Nat × PV) -> List StB -> Prop} (h1 : Fz u σ p σ1) (h2 : Fz v σ1 q σ2) (h3 : Fz w σ2 r σ3) (h4 : Fz x σ3 t σ4) (hK : K [(i, p), (j, q), (l, r), (m, t)] σ4) : PartK σ [(i, u), (j, v), (l, w), (m, x)] K := ⟨h1 _ (h2 _ (h3 _ (h4 _ hK)))⟩
theorem dig2_54 {d : Int} (h : (digits d).length < 3) (hd : 0 <= d) : d < 2 ^ 54 := by
 have h1 := val_digits d
 have h2 := (Dig.val (xs := digits d) (nrm_pos (nrm_digits d) (by rw [val_digits]; exact hd))).2
 have h3 := pw_mono (show (digits d).length <= 2 by omega)
 have h4 : pw 2 = 10000000000000000 := by decide
 have h5 : (2:Int) ^ 54 = 18014398509481984 := by decide
 omega
theorem first_cb (hS : OldE S) {P L : List Int} {lo hi den deg : Int} {st : List PV} (hlo : -1000000 <= lo /\ lo <= 1000000) (hhi : -1000000 <= hi /\ hi <= 1000000) (hle : lo <= hi) (hden : 1 <= den /\ den <= 1000000)
  (hL : B2s 12 L) (hl : L.length <= 8) (hr : ∀ x y, 1 <= y -> (vS L x y).1 ≠ 0) :
  Cb (ctx.plus S) 135 [.bptr (rCells P lo hi den deg L st)] 5000000000 fun r => ∃ (a w d h : Int), B2 400 a /\ B2 400 w /\ 1 <= d /\ B2 400 d /\ r = .agg (iCells a w d h) := by
 refine cb_of hS.h135 fn135 ?_
 refine ⟨by omega, ?_⟩
 refine ⟨(show 0 <= st.length + 6 by omega), _, rfl, ?_⟩
 refine ⟨by omega, ?_⟩
 refine ⟨_, _, rfl, ⟨rfl, Nat.le_of_ble_eq_true rfl, rfl⟩, _, rfl, [.live 142 [.lst 0 [], .lst 0 [], .lst 0 [], pn 0], .live 46 [pIs P, pn lo, pn hi, pn den]], rfl, ?_⟩
 refine ⟨by kernel_rfl, ?_⟩
 refine ⟨_, rfl, rfl, ?_⟩
 refine callq rfl (of_ct S hS.c.i.o hS.c.i.h26 (n := lo) (by unfold In64; omega)) (by omega) ?_
 rintro _ rfl
 refine ⟨_, rfl, rfl, ?_⟩
 refine ⟨_, rfl, rfl, ?_⟩
 refine ⟨⟨by omega, by omega⟩, ?_⟩
 refine callq rfl (of_ct S hS.c.i.o hS.c.i.h26 (n := hi - lo) (by unfold In64; omega)) (by omega) ?_
 rintro _ rfl
 refine ⟨_, rfl, rfl, ?_⟩
 refine callq rfl (of_ct S hS.c.i.o hS.c.i.h26 (n := den) (by unfold In64; omega)) (by omega) ?_
 rintro _ rfl
 refine part4 fzL fzL fzL fzI ⟨iCells lo (hi - lo) den 1, rfl, ?_⟩
 refine ⟨by omega, ?_⟩
 refine ⟨_, _, rfl, ⟨rfl, Nat.le_of_ble_eq_true rfl, rfl⟩, _, rfl, [.live 142 [.lst 0 [], .lst 0 [], .lst 0 [], pn 0], .live 46 [pIs P, pn lo, pn hi, pn den], .live 142 (iCells lo (hi - lo) den 1)], rfl, ?_⟩
 have e20 : (2:Int) ^ 20 = 1048576 := by decide
 have e21 : (2:Int) ^ 21 = 2097152 := by decide
 have e22 : (2:Int) ^ 22 = 4194304 := by decide
 have bw : B2 400 (hi - lo) := (show B2 21 (hi - lo) by unfold B2; omega).mono (by omega)
 refine ⟨fun mm s => ∃ (a d : Int) (n x q : Nat) (j1 j5 j6 j7 j8 j9 ja jb jc jd je jf jg jh ji jj jk jl jm jn jo jp jq jr js jt : PV),
  s = ⟨[.bptr (rCells P lo hi den deg L st), j1, .optr 0 0, .optr 1 0, .optr 2 0, j5, j6, j7, j8, j9, ja, jb, jc, jd, je, jf, jg, jh, ji, jj, jk, jl, jm, jn, jo, jp, jq, jr, js, jt], [.live 142 [.lst 0 [], .lst 0 [], .lst 0 [], pn 0], .live 46 [pIs P, pn lo, pn hi, pn den], .live 142 (iCells a (hi - lo) d n)], q⟩ /\ mm = 200 - x /\ x <= 180 /\ 1 <= n /\ n <= 2 * x + 1 /\ 2 ^ x <= d /\ B2 (20 + x) d /\ B2 (22 + 2 * x) a /\ q <= 100 + 20000000 * x, ⟨200, ?_⟩, ?_⟩
 ·exact ci ⟨lo, den, 1, 0, _, _, _, _, _, _, _, _, _, _, _, _, _, _, _, _, _, _, _, _, _, _, _, _, _, _, _, rfl, rfl, by omega, by omega, by omega, by simpa using hden.1, by unfold B2; omega, by unfold B2; omega, by omega⟩
 ·rintro mm s ⟨a, d, n, x, q, j1, j5, j6, j7, j8, j9, ja, jb, jc, jd, je, jf, jg, jh, ji, jj, jk, jl, jm, jn, jo, jp, jq, jr, js, jt, rfl, hm, hx, hn1, hnx, hd2, bd, ba, hq⟩
  have hd1 : 1 <= d := by have := two_pos x; omega
  refine ⟨_, rfl, ?_⟩
  refine ⟨fun hlt => ?_, fun hge => ?_⟩
  ·have hd54 := dig2_54 (d := d) (by omega) (by omega)
   have hx54 : x < 54 := by
    rcases Nat.lt_or_ge x 54 with h | h
    ·exact h
    ·have := two_mono h; omega
   refine ⟨_, rfl, ?_⟩
   refine calb lend_b rfl (by simp) (narrowed_cb S hS (g := 22 + 2 * x) (h := n) (by omega) hn1 (by omega) ba (by omega) hd1 (bd.mono (by omega)) hL hl hr) (by omega) ?_
   rintro _ ⟨a', h', h1, h2, ba', rfl⟩
   refine ⟨_, _, rfl, ⟨rfl, Nat.le_of_ble_eq_true rfl, rfl⟩, _, rfl, [.live 142 [.lst 0 [], .lst 0 [], .lst 0 [], pn 0], .live 46 [pIs P, pn lo, pn hi, pn den], .live 142 (iCells a' (hi - lo) (d * 2 ^ h') ((2 * h' : Nat) : Int))], rfl, ?_⟩
   have bh : B2 h' ((2:Int) ^ h') := by have := two_pos h'; unfold B2; omega
   refine ⟨200 - (x + h'), by omega, ci ⟨a', d * 2 ^ h', 2 * h', x + h', _, _, _, _, _, _, _, _, _, _, _, _, _, _, _, _, _, _, _, _, _, _, _, _, _, _, _, rfl, rfl, by omega, by omega, by omega, ?_, (bd.mul bh).mono (by omega), ba'.mono (by omega), ?_⟩⟩
   ·rw [Int.pow_add]
    exact Int.mul_le_mul_of_nonneg_right hd2 (by have := two_pos h'; omega)
   ·omega
  ·refine ⟨_, rfl, ?_⟩
   refine ⟨_, _, rfl, ⟨rfl, Nat.le_of_ble_eq_true rfl, rfl⟩, _, rfl, _, rfl, ?_⟩
   refine ⟨_, rfl, ?_⟩
   exact endq rfl ⟨a, hi - lo, d, n, ba.mono (by omega), bw, hd1, bd.mono (by omega), rfl⟩
end Go.PI
