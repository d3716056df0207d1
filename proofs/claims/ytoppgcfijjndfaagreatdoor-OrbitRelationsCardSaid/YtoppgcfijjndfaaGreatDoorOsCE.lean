/- Own work of the verifier: OrRm. -/
import Derived.Test.YtoppgcfijjndfaaGreatDoorOsCD
set_option linter.all false
set_option exponentiation.threshold 3000
set_option linter.deprecated false
/- WORDS WITH THE SAME MATRIX ACT ALIKE: the law. -/
open Go.Proofs
namespace Go.PI
open IM
set_option maxRecDepth 10000
set_option maxHeartbeats 4000000
variable (S : FuncId → Option (List AV → Heap → Option (AV × Heap)))
theorem wrap_u8 {x : Nat} (h : x < 256) : IntKind.wrap .i64 (x : Int) = x := wrap64 (by unfold In64; omega)
theorem tmod_nat {x m : Nat} : ((x : Int)).tmod ((m : Int) + 1) = ((x % (m + 1) : Nat) : Int) := by
  rw [Int.tmod_eq_emod_of_nonneg (by omega)]
  rfl
theorem u8_rem {y : Nat} : intBin .rem .u8 (y : Int) 4 = some (.int .u8 ((y % 4 : Nat) : Int)) := by
  have : ((y : Int)).tmod 4 = ((y % 4 : Nat) : Int) := by
    rw [Int.tmod_eq_emod_of_nonneg (by omega)]
    omega
  simp [intBin, this]
theorem chkW_wl {s : ByteArray} (h : s.size ≤ 200) (ha : ∀ b ∈ wl s, IsLet b) : chkW s = 0 := chkW0 (by omega) ha
theorem p4_eq {n : Nat} {o p : O4} (h : Eq4 n o p) : PL n o.f = PL n p.f ∧ PL n o.g = PL n p.g := ⟨PL_eq h.f, PL_eq h.g⟩
def relS (q : Nat) : ByteArray := if q = 0 then ⟨#[83, 83, 83, 83]⟩ else if q = 1 then ⟨#[83, 84, 83, 84, 83, 84, 115, 115]⟩ else if q = 2 then ⟨#[83, 84, 83, 84, 83, 84, 83, 84, 83, 84, 83, 84]⟩ else ⟨#[83, 83, 84, 115, 115, 116]⟩
theorem relS_wl {q : Nat} (h : q < 4) : (wl (relS q) = rel1 ∨ wl (relS q) = rel2 ∨ wl (relS q) = rel3 ∨ wl (relS q) = rel4) ∧ (relS q).size ≤ 12 := by
  have hq : q = 0 ∨ q = 1 ∨ q = 2 ∨ q = 3 := by omega
  rcases hq with rfl | rfl | rfl | rfl
  · exact ⟨.inl rfl, by decide⟩
  · exact ⟨.inr (.inl rfl), by decide⟩
  · exact ⟨.inr (.inr (.inl rfl)), by decide⟩
  · exact ⟨.inr (.inr (.inr rfl)), by decide⟩
theorem rel_lets {w : List Nat} (h : w = rel1 ∨ w = rel2 ∨ w = rel3 ∨ w = rel4) : ∀ c ∈ w, IsLet c := by
  unfold IsLet
  rcases h with rfl | rfl | rfl | rfl <;> decide
theorem fn13 : ctx.fn 13 = some c13 := by kernel_rfl
theorem relLaw_ct (hS : OldO S) (hA : Ct (ctx.plus S) 15 [] 0 fun r => r = .bool true) {r u : List Int} {a b : ByteArray} {x y : Nat} (hx : x < 256) :
    Ct (ctx.plus S) 13 [pO r u, .agg [.str a, .str b], .agg [.int .u8 x, .int .u8 y]] 100000000 fun v => v = .bool true := by
  refine ct_of (hS 13 (by decide)) fn13 ?_
  refine ⟨by omega, by omega, by omega, ?_⟩
  refine callq rfl hA (by omega) ?_
  rintro _ rfl
  refine ⟨by kernel_rfl, ?_⟩
  refine ⟨⟨by omega, by omega⟩, ?_⟩
  refine ⟨_, rfl, rfl, ?_⟩
  refine ⟨⟨by omega, by omega⟩, ?_⟩
  refine ⟨_, rfl, rfl, ?_⟩
  refine ⟨_, rfl, ?_⟩
  refine callq rfl (fewK_ct S hS (k := 12)) (by omega) ?_
  rintro _ (⟨hf, rfl⟩ | ⟨hf, rfl⟩)
  case inr => exact endq rfl rfl
  refine ⟨_, rfl, ?_⟩
  by_cases h0 : chkO r u = 0
  case neg =>
    refine callq rfl (checkOne_bad S hS (by omega) (by omega) h0) (by omega) ?_
    rintro _ rfl
    exact ⟨fun _ => endq rfl rfl, fun h => absurd h h0⟩
  obtain ⟨n, f, f', g, g', hO⟩ := chkO_ok h0
  by_cases hc : Conn n f g
  case neg =>
    refine callq rfl (checkOne_ok S hS hO) (by omega) ?_
    rintro _ rfl
    unfold cc
    rw [if_neg hc]
    exact ⟨fun _ => endq rfl rfl, fun h => absurd h (by decide)⟩
  have hp := hO.pos
  have hn := hO.le
  have hok : (o4 f f' g g').Ok n := ⟨hO.pr, hO.pu⟩
  obtain ⟨-, -, rfl, rfl, -, -⟩ := hO
  have hcc : Conn n (o4 f f' g g').f (o4 f f' g g').g := hc
  change Conn n (o4 f f' g g').f (o4 f f' g g').g at hc
  generalize ho : o4 f f' g g' = o at *
  have ef : PL n f = PL n o.f := by rw [← ho]; rfl
  have eg : PL n g = PL n o.g := by rw [← ho]; rfl
  rw [ef, eg]
  refine callq rfl (one_ok S hS hp hn hok hc) (by omega) ?_
  rintro _ rfl
  refine ⟨fun h => absurd rfl h, fun _ => ?_⟩
  refine ⟨fun _ => endq rfl rfl, fun ha => ?_⟩
  refine ⟨fun _ => endq rfl rfl, fun hb => ?_⟩
  refine ⟨_, add_str (by omega), ?_⟩
  have hab : (a ++ b).size = a.size + b.size := size_wl (by rw [wl_app, List.length_append, wl_len, wl_len])
  refine callq rfl (rcheckWord_ct S hS (by omega)) (by omega) ?_
  rintro _ rfl
  refine ⟨fun _ => endq rfl rfl, fun hw => ?_⟩
  have hw : chkW (a ++ b) = 0 := hw
  obtain ⟨-, hl⟩ := chkW_ok hw
  have hla : ∀ c ∈ wl a, IsLet c := fun c hc => hl c (by rw [wl_app]; exact List.mem_append.2 (.inl hc))
  have hlb : ∀ c ∈ wl b, IsLet c := fun c hc => hl c (by rw [wl_app]; exact List.mem_append.2 (.inr hc))
  have ha60 : a.size ≤ 60 := by omega
  have hb60 : b.size ≤ 60 := by omega
  refine ⟨⟨by omega, by omega⟩, ?_⟩
  refine ⟨_, rfl, ?_⟩
  refine ⟨⟨by omega, by omega⟩, ?_⟩
  refine ⟨by omega, ?_⟩
  rw [wrap_u8 hx, tmod_nat]
  obtain ⟨k, hk⟩ : ∃ k, k = x % (a.size + 1) := ⟨_, rfl⟩
  have hka : k ≤ a.size := by have := Nat.mod_lt x (show a.size + 1 > 0 by omega); omega
  rw [← hk]
  refine partc rfl ⟨_, rfl, ?_⟩
  refine ⟨⟨by omega, by omega⟩, ?_⟩
  refine ⟨_, rfl, ?_⟩
  refine ⟨rfl, _, u8_rem, ?_⟩
  obtain ⟨q, hq⟩ : ∃ q, q = y % 4 := ⟨_, rfl⟩
  have hq4 : q < 4 := by omega
  rw [← hq]
  clear hq
  have hqq : q = 0 ∨ q = 1 ∨ q = 2 ∨ q = 3 := by omega
  refine ⟨⟨by omega, by omega⟩, .str (relS q), by rcases hqq with rfl | rfl | rfl | rfl <;> rfl, ?_⟩
  obtain ⟨hrel, hrs⟩ := relS_wl hq4
  generalize relS q = rl at *
  refine ⟨by kernel_rfl, ?_⟩
  refine ⟨_, rfl, rfl, ?_⟩
  refine ⟨⟨by omega, by omega⟩, ?_⟩
  have e1 : (a.extract 0 (k : Int).toNat).size ≤ 60 := by
    have := wl_len (s := a.extract 0 (k : Int).toNat)
    rw [wl_sub, List.length_drop, List.length_take, wl_len] at this
    omega
  refine ⟨_, add_str (by omega), ?_⟩
  refine ⟨⟨by omega, by omega⟩, ?_⟩
  have e2 : (a.extract (k : Int).toNat a.size).size ≤ 60 := by
    have := wl_len (s := a.extract (k : Int).toNat a.size)
    rw [wl_sub, List.length_drop, List.length_take, wl_len] at this
    omega
  have e3 : (a.extract 0 (k : Int).toNat ++ rl).size ≤ 72 := by
    have := wl_len (s := a.extract 0 (k : Int).toNat ++ rl)
    rw [wl_app, List.length_append, wl_len, wl_len] at this
    omega
  refine ⟨_, add_str (by omega), ?_⟩
  have hw1 : wl (a.extract 0 (k : Int).toNat ++ rl ++ a.extract (k : Int).toNat a.size) = (wl a).take k ++ wl rl ++ (wl a).drop k := by
    rw [wl_app, wl_app, wl_sub, wl_sub, List.drop_zero, Int.toNat_natCast, List.take_of_length_le (l := wl a) (i := a.size) (by rw [wl_len]; omega)]
  have e4 : (a.extract 0 (k : Int).toNat ++ rl ++ a.extract (k : Int).toNat a.size).size ≤ 200 := by
    have := wl_len (s := a.extract 0 (k : Int).toNat ++ rl ++ a.extract (k : Int).toNat a.size)
    rw [wl_app, List.length_append, wl_len, wl_len] at this
    omega
  generalize a.extract 0 (k : Int).toNat ++ rl ++ a.extract (k : Int).toNat a.size = w1 at *
  have hl1 : ∀ c ∈ wl w1, IsLet c := fun c hc => by
    rw [hw1] at hc
    rcases List.mem_append.1 hc with hc | hc
    · rcases List.mem_append.1 hc with hc | hc
      · exact hla c (List.mem_of_mem_take hc)
      · exact rel_lets hrel c hc
    · exact hla c (List.mem_of_mem_drop hc)
  have hcw1 := chkW_wl e4 hl1
  have hcwa := chkW_wl (by omega) hla
  have hcwb := chkW_wl (by omega) hlb
  have ok1 := hok.act (wl w1)
  have oka := hok.act (wl a)
  have cn1 := O4.conn_act hok hp hc (wl w1)
  have cna := O4.conn_act hok hp hc (wl a)
  obtain ⟨e, hiso⟩ := act_rel hok ((wl a).take k) ((wl a).drop k) hrel
  rw [List.take_append_drop, ← hw1] at hiso
  have hlab : lab n (o.act (wl w1)) = lab n (o.act (wl a)) := by
    obtain ⟨q1, q2⟩ := hiso.to.label oka.pr oka.pu hp cna
    unfold lab
    rw [q1, q2]
  refine callq rfl (pact_ct S hS hp hn hok hcw1) (by omega) ?_
  rintro _ rfl
  refine ⟨by omega, ?_⟩
  refine ⟨_, _, push_get, ⟨rfl, Nat.le_refl 2, rfl⟩, _, rfl, _, rfl, ?_⟩
  refine ⟨_, rfl, ?_⟩
  refine callq rfl (pact_ct S hS hp hn hok hcwa) (by omega) ?_
  rintro _ rfl
  refine ⟨by omega, ?_⟩
  refine ⟨_, _, push_get, ⟨rfl, Nat.le_refl 2, rfl⟩, _, rfl, _, rfl, ?_⟩
  refine ⟨by kernel_rfl, ?_⟩
  refine ⟨fun h => absurd rfl h, fun _ => ?_⟩
  refine ⟨fun h => absurd rfl h, fun _ => ?_⟩
  refine ⟨_, rfl, rfl, ?_⟩
  refine ⟨_, rfl, rfl, ?_⟩
  refine ⟨fun h => absurd (by rw [PL_len, PL_len]) h, fun _ => ?_⟩
  refine ⟨_, rfl, rfl, ?_⟩
  refine callq rfl (one_ok S hS hp hn ok1 cn1) (by omega) ?_
  rintro _ rfl
  refine ⟨fun h => absurd rfl h, fun _ => ?_⟩
  refine ⟨_, rfl, rfl, ?_⟩
  refine callq rfl (one_ok S hS hp hn oka cna) (by omega) ?_
  rintro _ rfl
  refine ⟨fun h => absurd rfl h, fun _ => ?_⟩
  refine ⟨_, rfl, rfl, ?_⟩
  refine callq rfl (rlab_ct S hS hp hn ok1 cn1) (by omega) ?_
  rintro _ rfl
  refine ⟨_, rfl, rfl, ?_⟩
  refine callq rfl (rlab_ct S hS hp hn oka cna) (by omega) ?_
  rintro _ rfl
  rw [hlab]
  refine callq rfl (sameO_ct S hS (by rw [Rs_len]; omega) (by rw [Us_len]; omega) (by rw [Rs_len]; omega) (by rw [Us_len]; omega)) (by omega) ?_
  rintro _ rfl
  rw [decide_eq_true ⟨rfl, rfl⟩]
  refine ⟨_, rfl, ?_⟩
  refine callq rfl (pact_ct S hS hp hn oka hcwb) (by omega) ?_
  rintro _ rfl
  refine ⟨by omega, ?_⟩
  refine ⟨_, _, push_get, ⟨rfl, Nat.le_refl 2, rfl⟩, _, rfl, _, rfl, ?_⟩
  refine ⟨_, rfl, ?_⟩
  refine ⟨_, add_str (by omega), ?_⟩
  have hba : wl (b ++ a) = wl b ++ wl a := wl_app
  have hbas : (b ++ a).size ≤ 200 := by
    have := wl_len (s := b ++ a)
    rw [wl_app, List.length_append, wl_len, wl_len] at this
    omega
  have hcba := chkW_wl hbas fun c hc => by
    rw [hba] at hc
    rcases List.mem_append.1 hc with hc | hc
    · exact hlb c hc
    · exact hla c hc
  refine callq rfl (pact_ct S hS hp hn hok hcba) (by omega) ?_
  rintro _ rfl
  rw [hba, O4.act_app]
  refine ⟨by omega, ?_⟩
  refine ⟨_, _, push_get, ⟨rfl, Nat.le_refl 2, rfl⟩, _, rfl, _, rfl, ?_⟩
  refine ⟨by kernel_rfl, ?_⟩
  refine ⟨_, rfl, rfl, ?_⟩
  refine callq rfl (rback_ct S hS (by omega) hla) (by omega) ?_
  rintro _ ⟨t, rfl, ht⟩
  have hts : t.size ≤ 200 := by
    have := wl_len (s := t)
    rw [ht] at this
    unfold backW at this
    rw [List.length_reverse, List.length_map, wl_len] at this
    omega
  have hct := chkW_wl hts fun c hc => by
    rw [ht] at hc
    unfold backW at hc
    rw [List.mem_reverse, List.mem_map] at hc
    obtain ⟨d, hd, rfl⟩ := hc
    rcases hla d hd with rfl | rfl | rfl | rfl
    · exact .inr (.inl rfl)
    · exact .inl rfl
    · exact .inr (.inr (.inr rfl))
    · exact .inr (.inr (.inl rfl))
  refine callq rfl (pact_ct S hS hp hn oka hct) (by omega) ?_
  rintro _ rfl
  have hbk := p4_eq (act_back hok (wl a) hla)
  rw [ht]
  refine ⟨by omega, ?_⟩
  refine ⟨_, _, push_get, ⟨rfl, Nat.le_refl 2, rfl⟩, _, rfl, _, rfl, ?_⟩
  refine ⟨fun _ => ?_, fun h => absurd rfl h⟩
  refine ⟨fun _ => ?_, fun h => absurd rfl h⟩
  refine ⟨_, rfl, ?_⟩
  refine ⟨_, rfl, ?_⟩
  refine callq rfl (sameO_ct S hS (by rw [PL_len]; omega) (by rw [PL_len]; omega) (by rw [PL_len]; omega) (by rw [PL_len]; omega)) (by omega) ?_
  rintro _ rfl
  rw [decide_eq_true ⟨rfl, rfl⟩]
  refine ⟨fun _ => ?_, fun h => absurd rfl h⟩
  refine ⟨_, rfl, ?_⟩
  refine ⟨_, rfl, ?_⟩
  refine callq rfl (sameO_ct S hS (by rw [PL_len]; omega) (by rw [PL_len]; omega) (by rw [PL_len]; omega) (by rw [PL_len]; omega)) (by omega) ?_
  rintro _ rfl
  rw [decide_eq_true hbk]
  exact endq rfl rfl
end Go.PI
