/- Own work of the verifier: OzB OzC OzD. -/
import Derived.Test.YtefajaiioljjoaaOuAY
set_option linter.all false
set_option exponentiation.threshold 3000
set_option linter.deprecated false
/- ONE NUMBER, repeated. -/
open Go.Proofs
namespace Go.PI
open IM
set_option maxRecDepth 20000
set_option maxHeartbeats 4000000
variable (S : FuncId → Option (List AV → Heap → Option (AV × Heap)))
theorem fn154 : ctx.fn 154 = some c154 := by kernel_rfl
theorem fn140 : ctx.fn 140 = some c140 := by kernel_rfl
abbrev pu (n : Int) : PV := .int .u64 n
theorem mul64_ct (hS : OldO S) {n : Nat} (hn : n ≤ 20) : Ct (ctx.plus S) 154 [pu 1, pu n] 0 fun r => r = .tup [pu 0, pu n] := by
  refine ct_of (hS 154 (by decide)) fn154 ?_
  refine ⟨rfl, _, rfl, ?_⟩
  refine ⟨_, rfl, ?_⟩
  refine ⟨rfl, _, rfl, ?_⟩
  refine ⟨_, rfl, ?_⟩
  refine ⟨rfl, _, rfl, ?_⟩
  refine ⟨rfl, _, rfl, ?_⟩
  refine ⟨_, rfl, ?_⟩
  refine ⟨rfl, _, rfl, ?_⟩
  refine ⟨rfl, _, rfl, ?_⟩
  refine ⟨_, rfl, ?_⟩
  refine ⟨rfl, _, rfl, ?_⟩
  refine ⟨rfl, _, rfl, ?_⟩
  refine ⟨rfl, _, rfl, ?_⟩
  refine ⟨rfl, _, rfl, ?_⟩
  refine ⟨_, rfl, ?_⟩
  refine ⟨rfl, _, rfl, ?_⟩
  refine ⟨rfl, _, rfl, ?_⟩
  refine endsq rfl ?_
  rcases (show n = 0 ∨ n = 1 ∨ n = 2 ∨ n = 3 ∨ n = 4 ∨ n = 5 ∨ n = 6 ∨ n = 7 ∨ n = 8 ∨ n = 9 ∨ n = 10 ∨ n = 11 ∨ n = 12 ∨ n = 13 ∨ n = 14 ∨ n = 15 ∨ n = 16 ∨ n = 17 ∨ n = 18 ∨ n = 19 ∨ n = 20 by omega) with rfl | rfl | rfl | rfl | rfl | rfl | rfl | rfl | rfl | rfl | rfl | rfl | rfl | rfl | rfl | rfl | rfl | rfl | rfl | rfl | rfl <;> rfl
theorem mul_ct (hS : OldO S) {n : Nat} (hn : n ≤ 20) : Ct (ctx.plus S) 140 [.int .u64 (1 : Nat), .int .u64 n] 0 fun r => r = .tup [.int .u64 (0 : Nat), .int .u64 n] := by
  refine ct_of (hS 140 (by decide)) fn140 ?_
  refine callq rfl (mul64_ct S hS hn) (by omega) ?_
  rintro _ rfl
  exact endsq rfl rfl
def rep2 (n m : Nat) (a : Int) : List Int := List.replicate m a ++ List.replicate (n - m) 0
theorem rep2_len {n m : Nat} {a : Int} (h : m ≤ n) : (rep2 n m a).length = n := by simp [rep2]; omega
theorem rep2_put {n m k : Nat} {a : Int} (h : m + k ≤ n) : pspl ((rep2 n m a).map pn) m ((List.replicate k a).map pn) = (rep2 n (m + k) a).map pn := by
  unfold pspl rep2
  rw [← List.map_take, ← List.map_drop, List.length_map, List.length_replicate, ← List.map_append, ← List.map_append]
  congr 1
  rw [List.take_left' (by simp), List.drop_append, List.length_replicate, List.drop_of_length_le (by simp), List.nil_append, List.drop_replicate, List.replicate_append_replicate, show n - m - (m + k - m) = n - (m + k) by omega]
theorem fn123 : ctx.fn 123 = some c123 := by kernel_rfl
theorem repeatI_cf (hS : OldO S) {a : Int} {n : Nat} (h0 : 0 < n) (hn : n ≤ 20) : Cfr (ctx.plus S) 123 [pIs [a], pn n] 2 fun ty m cp e cs => ty = 3 ∧ m = n ∧ cp = n ∧ e = 1 ∧ cs = (List.replicate n a).map pn := by
  refine cf_of (hS 123 (by decide)) fn123 ?_
  refine ⟨fun h => absurd h (by omega), fun _ => ?_⟩
  have hw : ∀ m : Nat, m ≤ 2000 → IntKind.u64.wrap (m : Int) = m := fun m hm => by
    show (m : Int) % 18446744073709551616 = m
    omega
  have hM2 : Ct (ctx.plus S) 140 [.int .u64 (IntKind.u64.wrap ([a].length : Nat)), .int .u64 (IntKind.u64.wrap (n : Nat))] 0 fun r => r = .tup [.int .u64 (0 : Nat), .int .u64 n] := by
    rw [hw n (by omega), hw [a].length (by show 1 ≤ 2000; omega)]
    exact mul_ct S hS hn
  refine callq rfl hM2 (by omega) ?_
  rintro _ rfl
  have hwi : IntKind.i64.wrap (n : Int) = n := wrap64 (by unfold In64; omega)
  refine ⟨rfl, .bool false, rfl, ?_⟩
  refine ⟨rfl, .bool false, by show some (AV.bool (decide ((n : Int) > 9223372036854775807))) = _; rw [decide_eq_false (by omega)], ?_⟩
  have mk : (1 ≤ (n : Int)) := by omega
  refine ⟨by omega, ⟨by rw [hwi]; omega, by rw [hwi]; omega, by rw [hwi]; omega⟩, _, int_zero, ?_⟩
  rw [hwi]
  have hrep : (List.replicate (n : Int).toNat (0 : Int)).length = n := by simp
  have e0 : List.replicate (n : Int).toNat (0 : Int) = rep2 n 0 a := by simp [rep2]
  have hmin : min 1 (n : Int).toNat = 1 := by omega
  refine ⟨rfl, _, _, _, rfl, ⟨by rw [List.length_map, hrep]; show 0 + min 1 (n : Int).toNat * 1 ≤ n; omega, by show min 1 (n : Int).toNat * 1 ≤ 1; omega, ?_⟩, (show pspl ((List.replicate (n : Int).toNat (0 : Int)).map pn) 0 (((pn a) :: []).take (min 1 (n : Int).toNat * 1)) = (rep2 n 1 a).map pn by rw [e0, hmin]; exact rep2_put (m := 0) (k := 1) (by omega)), ?_⟩
  · show pones (((pn a) :: []).take (min 1 (n : Int).toNat * 1)) = true
    rw [hmin]; rfl
  refine ⟨fun q st => ∃ (m : Nat) (T : List PV), st = ⟨T, [.live 3 ((rep2 n m a).map pn)], 1⟩ ∧ Gt T 48 [(7, .own 0 0 n n 1), (8, pn m)] ∧ q = n - m ∧ 1 ≤ m ∧ m ≤ n, ⟨_, ci ⟨1, _, rfl, ⟨rfl, by show PV.own 0 0 (n : Int).toNat (n : Int).toNat 1 = .own 0 0 n n 1; rw [Int.toNat_natCast], by show pn (min 1 (n : Int).toNat : Nat) = pn (1 : Nat); rw [hmin], trivial⟩, rfl, Nat.le_refl _, by omega⟩⟩, ?_⟩
  rintro _ st ⟨m, T, rfl, hT, rfl, hm, hmn⟩
  obtain ⟨J, rfl⟩ := gt_open hT
  clear hT
  refine ⟨fun hlt => ?_, fun hge => ?_⟩
  · refine ⟨by kernel_rfl, ?_⟩
    refine ⟨Nat.le_refl _, ⟨by omega, by omega⟩, m, by rw [if_neg (show n ≠ (m : Int).toNat by rw [Int.toNat_natCast]; omega)]; show 0 + m * 1 = m; omega, ?_⟩
    refine ⟨Nat.le_refl _, ⟨by omega, by omega⟩, 0, by rw [if_neg (by omega)]; rfl, ?_⟩
    have hrl := rep2_len (a := a) hmn
    obtain ⟨k, hk⟩ : ∃ k, k = min m (n - m) := ⟨_, rfl⟩
    have hml : ((rep2 n m a).map pn).length = n := by rw [List.length_map, hrl]
    refine ⟨_, _, (List.replicate m a).map pn, rfl, by rw [hml]; show 0 + m * 1 ≤ n; omega, ?_, ?_⟩
    · show (((rep2 n m a).map pn).drop 0).take (m * 1) = _
      rw [List.drop_zero, Nat.mul_one, ← List.map_take]
      unfold rep2
      rw [List.take_left' (by simp)]
    have htk : ((List.replicate m a).map pn).take (min m (n - m) * 1) = (List.replicate k a).map pn := by
      rw [Nat.mul_one, ← hk, ← List.map_take, List.take_replicate, Nat.min_eq_left (by omega)]
    refine ⟨_, _, (rep2 n (m + k) a).map pn, rfl, ⟨by rw [hml]; show m + min m (n - m) * 1 ≤ n; omega, by show min m (n - m) * 1 ≤ _; rw [List.length_map, List.length_replicate]; omega, by show pones (((List.replicate m a).map pn).take (min m (n - m) * 1)) = true; rw [htk]; exact ones_pn⟩, by show pspl _ m (((List.replicate m a).map pn).take (min m (n - m) * 1)) = _; rw [htk]; exact rep2_put (by omega), ?_⟩
    refine ⟨⟨by omega, by omega⟩, ?_⟩
    refine ⟨n - (m + k), by omega, ci ⟨m + k, _, rfl, ⟨rfl, rfl, by show pn ((m : Int) + (min m (n - m) : Nat)) = pn ((m + k : Nat) : Int); rw [← hk]; congr 1, trivial⟩, rfl, by omega, by omega⟩⟩
  · have hmn2 : m = n := by omega
    rw [hmn2]
    refine ⟨⟨_, _, _, _, _, _, rfl, rfl, rfl, rfl, rfl, ⟨rfl, by simp [rep2]⟩⟩⟩
end Go.PI
/- A MAP OF SQUARES found by a queue, of the program. -/
open Go.Proofs
namespace Go.PI
open IM
set_option maxRecDepth 10000
set_option maxHeartbeats 4000000
variable (S : FuncId → Option (List AV → Heap → Option (AV × Heap)))
theorem push_get' {σ : List StB} {b : StB} {j : Nat} (h : j = σ.length) : (σ ++ [b])[j]? = some b := by subst h; simp
def blkQ : PV → Option Nat
  | .own j _ _ _ _ => some j
  | .ownu j _ _ => some j
  | .ownq j _ _ _ => some j
  | _ => none
def Qu (v : PV) (σ : List StB) (Q : List Int) : Prop :=
  ∃ j o cs, σ[j]? = some (.live 3 cs) ∧ o + Q.length ≤ cs.length ∧ (cs.drop o).take Q.length = Q.map pn ∧ (v = .own j o Q.length Q.length 1 ∨ (v = .ownu j Q.length 1 ∧ o = 0) ∨ v = .ownq j o Q.length 1)
theorem Qu.keep {v : PV} {σ σ' : List StB} {Q : List Int} (h : Qu v σ Q) (k : ∀ j b, blkQ v = some j → σ[j]? = some b → σ'[j]? = some b) : Qu v σ' Q := by
  obtain ⟨j, o, cs, h1, h2, h3, h4⟩ := h
  refine ⟨j, o, cs, k j _ ?_ h1, h2, h3, h4⟩
  rcases h4 with rfl | ⟨rfl, -⟩ | rfl <;> rfl
theorem appQ {c k : Nat} {v : PV} {Q : List Int} {z : Int} {i m : Nat} {ty : TypeId} {σ : List StB} {K : PV → List StB → Nat → Prop} (hg : Qu v σ Q) (hx : contOf σ i = some (ty, [pn z])) (hl : Q.length ≤ 1000000) (hk : k < c)
    (hK : ∀ v' σ', Qu v' σ' (Q ++ [z]) → (∀ j b, blkQ v ≠ some j → σ[j]? = some b → σ'[j]? = some b) → blkQ v' = some σ.length → K v' σ' (k + 1)) : AppK (ctx.plus S) c k σ [22, 22] v (.own i 0 1 1 m) K := by
  refine ⟨?_⟩
  have hti : (ctx.plus S).ty 22 = some t22 := rfl
  have he : (ctx.plus S).ty 3 = some t3 := rfl
  have hd : decide (srcOk t22.desc = true ∧ t3.bytes ≤ 2 ^ 10) = true := rfl
  have htd : t22.desc = .slice 3 := rfl
  have hs : t3.size = 1 := rfl
  unfold pappK
  have e22 : t22 = { desc := .slice 3, size := t22.size, bytes := t22.bytes, zero := t22.zero } := rfl
  rw [e22] at hti hd
  simp only [hti, he]
  simp only [hd]
  refine ⟨ty, [pn z], [pn z], hx, by rw [hs]; simp, by rw [hs]; rfl, ⟨by decide, by simp [pones]; rfl⟩, ?_⟩
  obtain ⟨j, o, cs, h1, h2, h3, h4⟩ := hg
  have hnew : ∀ {σ' : List StB}, σ'.length = σ.length → Qu (.ownu σ.length (Q.length + 1) 1) (σ' ++ [.live 3 (Q.map pn ++ [pn z])]) (Q ++ [z]) := fun {σ'} h =>
    ⟨σ.length, 0, Q.map pn ++ [pn z], by rw [← h]; simp, by simp, by rw [List.drop_zero, List.take_of_length_le (by simp)]; simp, .inr (.inl ⟨by simp, rfl⟩)⟩
  have hold : ∀ {b : StB} {j : Nat} {x : StB}, σ[j]? = some x → (σ ++ [b])[j]? = some x := fun h => by rw [List.getElem?_append_left (List.getElem?_eq_some_iff.1 h).1]; exact h
  have hset : ∀ {b : StB} (j' : Nat) (x : StB), j ≠ j' → σ[j']? = some x → (σ.set j .dead ++ [b])[j']? = some x := fun {b} j' x hne hb => by
    rw [List.getElem?_append_left (by rw [List.length_set]; exact (List.getElem?_eq_some_iff.1 hb).1), List.getElem?_set_ne hne]
    exact hb
  rcases h4 with rfl | ⟨rfl, rfl⟩ | rfl
  · refine ⟨by omega, (fun h => by omega), fun _ => ⟨hk, 3, cs, Q.map pn ++ [pn z], contOf_live h1, by rw [hs]; omega, by rw [hs, Nat.mul_one, h3], ?_⟩⟩
    rw [hs]
    exact hK _ _ (hnew rfl) (fun j b _ hb => hold hb) rfl
  · refine ⟨⟨by omega, hs.symm, hk⟩, cs, Q.map pn ++ [pn z], h1, by rw [hs]; omega, by rw [hs, Nat.mul_one, ← h3, List.drop_zero], ?_⟩
    exact hK _ _ (hnew (by simp)) (fun j' b hj hb => hset j' b (fun e => hj (by rw [← e]; rfl)) hb) rfl
  · refine ⟨⟨⟨by omega, hs.symm, hk⟩, rfl⟩, cs, Q.map pn ++ [pn z], h1, by rw [hs]; omega, by rw [hs, Nat.mul_one, h3], ?_⟩
    exact hK _ _ (hnew (by simp)) (fun j' b hj hb => hset j' b (fun e => hj (by rw [← e]; rfl)) hb) rfl
theorem Qu.tail {j o : Nat} {σ : List StB} {Q : List Int} {a : Int} {cs : List PV} {v : PV} (h1 : σ[j]? = some (.live 3 cs)) (h2 : o + (a :: Q).length ≤ cs.length) (h3 : (cs.drop o).take (a :: Q).length = (a :: Q).map pn) (hv : v = .own j (if (a :: Q).length = 1 then o else o + 1) Q.length Q.length 1 ∨ v = .ownq j (o + 1) Q.length 1) : Qu v σ Q := by
  simp only [List.length_cons] at h2 h3 hv
  have h3' : (cs.drop (o + 1)).take Q.length = Q.map pn := by
    have := congrArg (List.drop 1) h3
    rw [List.drop_take, List.drop_drop] at this
    simpa using this
  rcases hv with hv | hv
  · by_cases e : Q.length + 1 = 1
    · rw [if_pos e] at hv
      have hq : Q = [] := List.length_eq_zero_iff.1 (by omega)
      subst hq
      exact ⟨j, o, cs, h1, by omega, by simp, .inl hv⟩
    · rw [if_neg e] at hv
      exact ⟨j, o + 1, cs, h1, by omega, h3', .inl hv⟩
  · exact ⟨j, o + 1, cs, h1, by omega, h3', .inr (.inr hv)⟩
theorem cal2f {dr : Bool} {C : Ctx} {c k d : Nat} {σ σ1 σ2 : List StB} {g : FuncId} {K : PV → List StB → Nat → Prop} {v w p q : PV} {Q : TypeId → Nat → Nat → Nat → List PV → Prop} (h1 : Fz v σ p σ1) (h2 : Fz w σ1 q σ2) (h : Cfr C g [p, q] d Q) (hk : k + d ≤ c) (hK : ∀ ty n cp e cs, Q ty n cp e cs → K (.own σ2.length 0 n cp e) (σ2 ++ [.live ty cs]) (k + d)) : ArgK dr C c k σ g [v, w] K :=
  ⟨.inl (h1 _ (h2 _ ⟨⟨d, hk, .inr (.inl ⟨Q, h, hK⟩)⟩⟩))⟩
theorem fz_ints1 {i : Nat} {a : Int} {ty : TypeId} {σ : List StB} (h : contOf σ i = some (ty, [pn a])) : Fz (.own i 0 1 1 1) σ (pIs [a]) (σ.set i (.frz ty [pn a])) := fz_own h (Nat.le_refl _) (Nat.le_refl _) rfl
theorem fn119 : ctx.fn 119 = some c119 := by kernel_rfl
theorem mapTo_ct (hS : OldO S) {r u r2 u2 : List Int} {n m s : Nat} {f f' g g' F F' G G' : Nat → Nat} (ho : IsO r u n f f' g g') (ho2 : IsO r2 u2 m F F' G G') (hcn : Conn n f g) (hs : s < m) (hn20 : n ≤ 20) :
    Ct (ctx.plus S) 119 [pO r u, pO r2 u2, pn s] 1000 fun v => (∃ h, MapAt n m s f g F G h ∧ v = .tup [pIs (PL n h), .bool true]) ∨ ((∀ h, ¬ MapAt n m s f g F G h) ∧ v = .tup [.lst 0 [], .bool false]) := by
  have hn := ho.le
  have hm := ho2.le
  have h0 := ho.pos
  have hrl := ho.l1.1
  subst hrl
  refine ct_of (hS 119 (by decide)) fn119 ?_
  refine ⟨by omega, by omega, ?_⟩
  refine ⟨by omega, partc rfl ⟨_, rfl, ?_⟩⟩
  refine ⟨_, rfl, ?_⟩
  refine cal2f (fz_ints1 rfl) fzI (repeatI_cf S hS (a := -1) (n := r.length) h0 hn20) (by omega) ?_
  rintro ty _ cp e cs ⟨rfl, rfl, rfl, rfl, rfl⟩
  have hrl : (List.replicate r.length (-1 : Int)).length = r.length := by simp
  refine ⟨⟨by omega, by omega⟩, ?_⟩
  refine ⟨_, _, rfl, ⟨rfl, by rw [List.length_map, hrl]; show 0 + 0 * 1 + 1 ≤ _; omega, rfl⟩, _, int_put (j := 0) (by rfl) (by omega), _, rfl, ?_⟩
  refine ⟨by omega, partc rfl ⟨_, rfl, ?_⟩⟩
  have hB0 : BM r.length s f g F G ((List.replicate r.length (-1 : Int)).set 0 (s : Int)) [0] := BM.start h0
  refine ⟨fun q s' => ∃ (D Q : List Int) (v : PV) (σ : List StB) (b : Nat) (T : List PV), s' = ⟨T, σ, b⟩ ∧ Gt T 69 [(3, .optr 0 0), (4, .optr 1 0), (8, .own 3 0 r.length r.length 1), (9, v)] ∧ q = D.count (-1) + Q.length ∧ b + 10 * (D.count (-1) + Q.length) ≤ 20 + 10 * r.length ∧ Hid (BM r.length s f g F G D Q ∧ (σ[0]? = some (.live 24 [pIs r, pIs u]) ∧ σ[1]? = some (.live 24 [pIs r2, pIs u2]) ∧ σ[3]? = some (.live 3 (D.map pn))) ∧ Qu v σ Q ∧ (∀ q, q < 4 → blkQ v ≠ some q)), ⟨_, ci ⟨_, [0], _, _, _, _, rfl, ⟨rfl, rfl, rfl, rfl, rfl, trivial⟩, rfl, by have := hB0.ql; simp only [List.length_cons, List.length_nil] at this ⊢; omega, ⟨hB0, ⟨rfl, rfl, rfl⟩, ⟨4, 0, [pn 0], rfl, Nat.le_refl 1, rfl, .inl rfl⟩, fun q hq => ?_⟩⟩⟩, ?_⟩
  · show some 4 ≠ some q
    intro e; have := Option.some.inj e; omega
  rintro _ s' ⟨D, Q, v, σ, b, T, rfl, hT, rfl, hb, hh⟩
  obtain ⟨J, rfl⟩ := gt_open hT
  clear hT
  obtain ⟨hB, ⟨s0, s1, s3⟩, hQ, v0⟩ := hh.h
  clear hh hB0
  have l3 : 3 < σ.length := (List.getElem?_eq_some_iff.1 s3).1
  have hql := hB.ql
  obtain ⟨j, o, cs, h1, h2, h3, h4⟩ := hQ
  rcases h4 with rfl | ⟨rfl, rfl⟩ | rfl
  all_goals
    refine ⟨fun hlt => ?_, fun hge => ?_⟩
    · obtain ⟨a, Q', rfl⟩ : ∃ a Q', Q = a :: Q' := by
        cases Q with
        | nil => exact absurd hlt (by decide)
        | cons a Q' => exact ⟨a, Q', rfl⟩
      have hv0 : cs[_]? = some (pn a) := (by
        have := congrArg (fun l => l[0]?) h3
        simpa [List.getElem?_take, List.getElem?_drop] using this)
      obtain ⟨w, rfl, d, hwd⟩ := hB.q a (by simp)
      have hw : w < r.length := by have := (List.getElem?_eq_some_iff.1 hwd).1; rw [hB.len] at this; exact this
      have hjw : Jr f g F G s w d := by
        rcases hB.bd w _ hwd with hb | ⟨z, hz, hj⟩
        · omega
        · rw [show d = z by omega]; exact hj
      have hd : d < m := (jr_lt ho.pr ho.pu ho2.pr ho2.pu h0 hs hjw).2
      refine ⟨⟨by omega, by simp only [List.length_cons]; omega⟩, ?_⟩
      refine ⟨_, load_k rfl rfl (contOf_live h1) hv0 rfl, ?_⟩
      refine ⟨by kernel_rfl, ?_⟩
      refine ⟨_, load_c (contOf_live s1) rfl rfl, rfl, ?_⟩
      refine ⟨⟨by omega, by omega⟩, ?_⟩
      refine ⟨_, load_k rfl rfl (contOf_live s3) (at_map hwd) (by show 0 + w * 1 = w; omega), rfl, ?_⟩
      refine callq rfl (neighbours_ct S hS ho2 hd) (by omega) ?_
      rintro _ rfl
      refine ⟨by omega, ?_⟩
      refine ⟨_, _, push_get, ⟨rfl, Nat.le_of_ble_eq_true rfl, rfl⟩, _, rfl, _, push_set, ?_⟩
      refine ⟨_, load_c (contOf_live (push_old s0)) rfl rfl, ?_⟩
      refine callq rfl (neighbours_ct S hS ho hw) (by omega) ?_
      rintro _ rfl
      obtain ⟨c0, hc0e⟩ : ∃ c0, c0 = D.count (-1) + ((w : Int) :: Q').length := ⟨_, rfl⟩
      obtain ⟨L, hLe⟩ : ∃ L, L = σ.length := ⟨_, rfl⟩
      have hjl := (List.getElem?_eq_some_iff.1 h1).1
      refine ⟨fun q s' => ∃ (k : Nat) (D Q : List Int) (v : PV) (σ : List StB) (b : Nat) (T : List PV), s' = ⟨T, σ, b⟩ ∧ Gt T 69 [(3, .optr 0 0), (4, .optr 1 0), (8, .own 3 0 r.length r.length 1), (9, v), (10, pn w), (11, .optr L 0), (39, .agg [pn (f w), pn (g w)]), (40, pn k)] ∧ q = 2 - k ∧ k ≤ 2 ∧ b + 10 * (D.count (-1) + Q.length) ≤ 15 + 10 * r.length + 2 * k ∧ D.count (-1) + ((w : Int) :: Q).length ≤ c0 ∧ Hid (BM r.length s f g F G D ((w : Int) :: Q) ∧ (σ[0]? = some (.live 24 [pIs r, pIs u]) ∧ σ[1]? = some (.live 24 [pIs r2, pIs u2]) ∧ σ[3]? = some (.live 3 (D.map pn)) ∧ σ[L]? = some (.live 107 [pn (F d), pn (G d)])) ∧ Qu v σ ((w : Int) :: Q) ∧ (∀ q, q < 4 ∨ q = L → blkQ v ≠ some q) ∧ D[w]? = some (d : Int) ∧ (1 ≤ k → D[f w]? = some (F d : Int)) ∧ (2 ≤ k → D[g w]? = some (G d : Int))), ⟨_, ci ⟨0, D, Q', _, _, _, _, rfl, ⟨rfl, rfl, rfl, rfl, rfl, rfl, by rw [hLe]; rfl, rfl, rfl, trivial⟩, rfl, Nat.zero_le _, by simp only [List.length_cons] at hb ⊢; omega, Nat.le_of_eq hc0e.symm, ⟨hB, ⟨push_old s0, push_old s1, push_old s3, by rw [hLe]; exact push_get⟩, ⟨j, _, cs, push_old h1, h2, h3, by first | exact .inl rfl | exact .inr (.inl ⟨rfl, rfl⟩) | exact .inr (.inr rfl)⟩, fun q hq e => ?_, hwd, fun h => by omega, fun h => by omega⟩⟩⟩, ?_⟩
      · rcases hq with hq | hq
        · exact v0 q hq e
        · have e : some j = some q := e
          have := Option.some.inj e; omega
      have hL4 : 3 < L := by omega
      clear h1 h2 h3 v0 hv0 hlt s0 s1 s3 hB hwd hb hql l3
      rintro _ s' ⟨k, D, Q, v, σ, b, T, rfl, hT, rfl, hk, hb, hm2, hh⟩
      obtain ⟨J, rfl⟩ := gt_open hT
      clear hT
      obtain ⟨hB, ⟨s0, s1, s3, sL⟩, hQ, v0, hwd, hc1, hc2⟩ := hh.h
      clear hh
      refine ⟨fun hlt => ?_, fun hge => ?_⟩
      · obtain ⟨cb, z, y, hz1, hy1, hzc, hyc, hz, hj⟩ : ∃ (cb : Bool) (z y : Nat), partP t3 [pn (f w), pn (g w)] ((k : Int).toNat * 1) = some (pn z) ∧ [pn (F d), pn (G d)][k]? = some (pn y) ∧ (z = if cb then f w else g w) ∧ (y = if cb then F d else G d) ∧ (cb = true ↔ k = 0) ∧ Jr f g F G s z y := by
          rcases (show k = 0 ∨ k = 1 by omega) with rfl | rfl
          · exact ⟨true, f w, F d, rfl, rfl, rfl, rfl, by simp, .f hjw⟩
          · exact ⟨false, g w, G d, rfl, rfl, rfl, rfl, by simp, .g hjw⟩
        have hzn : z < r.length := (jr_lt ho.pr ho.pu ho2.pr ho2.pu h0 hs hj).1
        obtain ⟨e, he⟩ : ∃ e, D[z]? = some e := ⟨_, List.getElem?_eq_getElem (by rw [hB.len]; exact hzn)⟩
        refine ⟨⟨by omega, by omega⟩, _, hz1, ?_⟩
        refine ⟨⟨by omega, by omega⟩, ?_⟩
        refine ⟨_, load_k rfl rfl (contOf_live s3) (at_map he) (by show 0 + z * 1 = z; omega), ?_⟩
        have hql := hB.ql
        have l3 : 3 < σ.length := (List.getElem?_eq_some_iff.1 s3).1
        have lL : L < σ.length := (List.getElem?_eq_some_iff.1 sL).1
        refine ⟨fun h => ?_, fun h => ?_⟩
        · subst h
          refine ⟨⟨by omega, by omega⟩, ?_⟩
          refine ⟨_, load_k rfl rfl (contOf_live sL) hy1 (by show 0 + k * 1 = k; omega), ?_⟩
          refine ⟨⟨by omega, by omega⟩, ?_⟩
          refine ⟨_, _, s3, ⟨rfl, by rw [List.length_map, hB.len]; show 0 + z * 1 + 1 ≤ _; omega, rfl⟩, _, int_put (j := z) (by show 0 + z * 1 = z; omega) (by rw [hB.len]; exact hzn), _, rfl, ?_⟩
          refine ⟨by simp only [List.length_cons] at hql; omega, partc rfl ⟨_, rfl, ?_⟩⟩
          have hcs := cnt_set he (a := (y : Int)) (by omega)
          have hold : ∀ (j : Nat) (b : StB), j ≠ 3 → σ[j]? = some b → (σ.set 3 (StB.live 3 ((D.set z (y : Int)).map pn)) ++ [StB.live 3 [pn z]])[j]? = some b := fun j b hj hb => by
            rw [List.getElem?_append_left (by rw [List.length_set]; exact (List.getElem?_eq_some_iff.1 hb).1), List.getElem?_set_ne (Ne.symm hj)]
            exact hb
          have hnew : (σ.set 3 (StB.live 3 ((D.set z (y : Int)).map pn)) ++ [StB.live 3 [pn z]])[3]? = some (.live 3 ((D.set z (y : Int)).map pn)) := by
            rw [List.getElem?_append_left (by rw [List.length_set]; exact l3), List.getElem?_set_self l3]
          have hQ1 := hQ.keep fun j b hj hb => hold j b (fun e => v0 3 (.inl (by omega)) (by rw [hj, e])) hb
          refine appQ S hQ1 (contOf_live (push_get' rfl)) (by omega) (by simp only [List.length_cons] at hql; omega) ?_
          intro v' σ' g1 g2 g3
          have hl' : (σ.set 3 (StB.live 3 ((D.set z (y : Int)).map pn)) ++ [StB.live 3 [pn z]]).length = σ.length + 1 := by simp
          have g3 : blkQ v' = some (σ.length + 1) := by rw [g3]; simp
          have k3 := g2 3 _ (v0 3 (.inl (by omega))) hnew
          have kL := g2 L _ (v0 L (.inr rfl)) (hold L _ (by omega) sL)
          have hzz : (D.set z (y : Int))[z]? = some (y : Int) := List.getElem?_set_self (by rw [hB.len]; exact hzn)
          refine ⟨by kernel_rfl, ?_⟩
          refine ⟨⟨by omega, by omega⟩, ?_⟩
          refine ⟨_, load_k rfl rfl (contOf_live k3) (at_map hzz) (by show 0 + z * 1 = z; omega), rfl, ?_⟩
          refine ⟨⟨by omega, by omega⟩, ?_⟩
          refine ⟨_, load_k rfl rfl (contOf_live kL) hy1 (by show 0 + k * 1 = k; omega), rfl, ?_⟩
          refine ⟨fun h => absurd rfl h, fun _ => ?_⟩
          refine ⟨⟨by omega, by omega⟩, ?_⟩
          refine ⟨_, by omega, ci ⟨k + 1, D.set z (y : Int), Q ++ [(z : Int)], v', σ', _, _, rfl, ⟨rfl, rfl, rfl, rfl, rfl, rfl, rfl, rfl, rfl, trivial⟩, rfl, by omega, by simp only [List.length_append, List.length_cons, List.length_nil]; omega, by simp only [List.length_cons, List.length_append, List.length_nil] at hm2 ⊢; omega, ⟨hB.put he hj, ⟨g2 0 _ (v0 0 (.inl (by omega))) (hold 0 _ (by omega) s0), g2 1 _ (v0 1 (.inl (by omega))) (hold 1 _ (by omega) s1), k3, kL⟩, g1, fun q hq e => ?_, bm_get he hwd, fun h1 => ?_, fun h1 => ?_⟩⟩⟩
          · rw [g3] at e; have := Option.some.inj e; omega
          · by_cases hk0 : k = 0
            · have hcb := hz.2 hk0
              rw [hcb] at hzc hyc
              have hzc : z = f w := hzc
              have hyc : y = F d := hyc
              rw [← hzc, ← hyc]; exact hzz
            · exact bm_get he (hc1 (by omega))
          · have hk1 : k = 1 := by omega
            have hcb : cb = false := by cases cb with | false => rfl | true => exact absurd (hz.1 rfl) (by omega)
            rw [hcb] at hzc hyc
            have hzc : z = g w := hzc
            have hyc : y = G d := hyc
            rw [← hzc, ← hyc]; exact hzz
        · obtain ⟨e, rfl⟩ : ∃ e' : Nat, e = e' := by
            rcases hB.bd z e he with hb | ⟨z', hz', -⟩
            · exact absurd hb h
            · exact ⟨z', hz'⟩
          refine ⟨by kernel_rfl, ?_⟩
          refine ⟨⟨by omega, by omega⟩, ?_⟩
          refine ⟨_, load_k rfl rfl (contOf_live s3) (at_map he) (by show 0 + z * 1 = z; omega), rfl, ?_⟩
          refine ⟨⟨by omega, by omega⟩, ?_⟩
          refine ⟨_, load_k rfl rfl (contOf_live sL) hy1 (by show 0 + k * 1 = k; omega), rfl, ?_⟩
          refine ⟨fun hne => ?_, fun heq => ?_⟩
          · exact ⟨⟨[], .inr ⟨hB.bad ho.pr ho.pu h0 hwd hzc he (by rw [← hyc]; omega), rfl⟩⟩⟩
          · have heq : e = y := by omega
            refine ⟨⟨by omega, by omega⟩, ?_⟩
            refine ⟨_, by omega, ci ⟨k + 1, D, Q, v, σ, _, _, rfl, ⟨rfl, rfl, rfl, rfl, rfl, rfl, rfl, rfl, rfl, trivial⟩, rfl, by omega, by omega, hm2, ⟨hB, ⟨s0, s1, s3, sL⟩, hQ, v0, hwd, fun h1 => ?_, fun h1 => ?_⟩⟩⟩
            · by_cases hk0 : k = 0
              · have hcb := hz.2 hk0
                rw [hcb] at hzc hyc
                have hzc : z = f w := hzc
                have hyc : y = F d := hyc
                rw [← hzc, ← hyc, ← heq]; exact he
              · exact hc1 (by omega)
            · have hk1 : k = 1 := by omega
              have hcb : cb = false := by cases cb with | false => rfl | true => exact absurd (hz.1 rfl) (by omega)
              rw [hcb] at hzc hyc
              have hzc : z = g w := hzc
              have hyc : y = G d := hyc
              rw [← hzc, ← hyc, ← heq]; exact he
      · have hk2 : k = 2 := by omega
        subst hk2
        have hB' := hB.pop hwd (hc1 (by omega)) (hc2 (by omega))
        obtain ⟨j, o, cs, h1, h2, h3, h4⟩ := hQ
        rcases h4 with rfl | ⟨rfl, rfl⟩ | rfl
        · refine ⟨Nat.le_refl _, ⟨by omega, by simp only [List.length_cons]; omega⟩, _, rfl, ?_⟩
          refine ⟨_, by simp only [List.length_cons] at hm2 hc0e ⊢; omega, ci ⟨D, Q, _, σ, b, _, rfl, ⟨rfl, rfl, rfl, rfl, rfl, trivial⟩, rfl, by omega, ⟨hB', ⟨s0, s1, s3⟩, Qu.tail h1 h2 h3 (.inl ?_), fun q hq => v0 q (.inl hq)⟩⟩⟩
          simp only [List.length_cons]
          rfl
        · refine ⟨rfl, ⟨by omega, by simp only [List.length_cons]; omega⟩, ?_⟩
          refine ⟨_, by simp only [List.length_cons] at hm2 hc0e ⊢; omega, ci ⟨D, Q, _, σ, b, _, rfl, ⟨rfl, rfl, rfl, rfl, rfl, trivial⟩, rfl, by omega, ⟨hB', ⟨s0, s1, s3⟩, Qu.tail h1 h2 h3 (.inr ?_), fun q hq => v0 q (.inl hq)⟩⟩⟩
          simp only [List.length_cons]
          rfl
        · refine ⟨rfl, ⟨by omega, by simp only [List.length_cons]; omega⟩, ?_⟩
          refine ⟨_, by simp only [List.length_cons] at hm2 hc0e ⊢; omega, ci ⟨D, Q, _, σ, b, _, rfl, ⟨rfl, rfl, rfl, rfl, rfl, trivial⟩, rfl, by omega, ⟨hB', ⟨s0, s1, s3⟩, Qu.tail h1 h2 h3 (.inr ?_), fun q hq => v0 q (.inl hq)⟩⟩⟩
          simp only [List.length_cons]
          rfl
    · have hqn : Q = [] := List.length_eq_zero_iff.1 (by omega)
      subst hqn
      obtain ⟨h, hM, hD⟩ := hB.fin ho.pr ho.pu ho2.pr ho2.pu h0 hs hcn
      refine ⟨⟨[], fz_ints (xs := D) (contOf_live s3) hB.len (fun p' σ' => frzAsK σ' [.bool true] fun rs _ => (∃ h, MapAt r.length m s f g F G h ∧ PV.tup (p' :: rs) = .tup [pIs (PL r.length h), .bool true]) ∨ ((∀ h, ¬ MapAt r.length m s f g F G h) ∧ PV.tup (p' :: rs) = .tup [.lst 0 [], .bool false])) (.inl ⟨h, hM, by rw [hD]⟩)⟩⟩
end Go.PI
/- A MAP OF SQUARES found in rounds, of the reference. -/
open Go.Proofs
namespace Go.PI
open IM
set_option maxRecDepth 10000
set_option maxHeartbeats 4000000
variable (S : FuncId → Option (List AV → Heap → Option (AV × Heap)))
def kn (D : List Int) : List Bool := D.map fun d => decide (0 ≤ d)
theorem kn_len {D : List Int} : (kn D).length = D.length := by unfold kn; rw [List.length_map]
theorem kn_get {D : List Int} {y : Nat} : (kn D)[y]? = some true ↔ ∃ d : Int, D[y]? = some d ∧ 0 ≤ d := by
  unfold kn
  rw [List.getElem?_map]
  cases D[y]? with
  | none => simp
  | some d => simp
theorem kn_set {D : List Int} {y z : Nat} : kn (D.set y (z : Int)) = (kn D).set y true := by
  unfold kn
  rw [List.map_set]
  simp
structure RM (n s i j : Nat) (f g F G : Nat → Nat) (D : List Int) : Prop where
  fl : FlI n f g 0 i j (kn D)
  bd : ∀ (w : Nat) (d : Int), D[w]? = some d → d = -1 ∨ ∃ z : Nat, d = z ∧ Jr f g F G s w z
section
variable {n m s i j : Nat} {f f' g g' F F' G G' : Nat → Nat} {D : List Int}
theorem RM.mark (h : RM n s i j f g F G D) {d : Nat} (hd : D[j]? = some (d : Int)) (hf : f j < n) (hg : g j < n) : RM n s i (j + 1) f g F G ((D.set (f j) (F d : Int)).set (g j) (G d : Int)) := by
  have hj : Jr f g F G s j d := by
    rcases h.bd j _ hd with hb | ⟨z, hz, hj⟩
    · omega
    · rw [show d = z by omega]; exact hj
  refine ⟨?_, fun w x hw => ?_⟩
  · rw [kn_set, kn_set]
    exact fl_mark h.fl (kn_get.2 ⟨d, hd, by omega⟩) hf hg
  · by_cases e : g j = w
    · rw [e, List.getElem?_set_self (by rw [← e, List.length_set]; have := h.fl.len; rw [kn_len] at this; omega)] at hw
      exact .inr ⟨G d, (Option.some.inj hw).symm, by rw [← e]; exact .g hj⟩
    · rw [List.getElem?_set_ne e] at hw
      by_cases e2 : f j = w
      · rw [e2, List.getElem?_set_self (by rw [← e2]; have := h.fl.len; rw [kn_len] at this; omega)] at hw
        exact .inr ⟨F d, (Option.some.inj hw).symm, by rw [← e2]; exact .f hj⟩
      · rw [List.getElem?_set_ne e2] at hw
        exact h.bd w x hw
theorem RM.skip (h : RM n s i j f g F G D) {d : Int} (hd : D[j]? = some d) (hn : ¬ 0 ≤ d) : RM n s i (j + 1) f g F G D := by
  refine ⟨fl_skip h.fl ?_, h.bd⟩
  unfold kn
  rw [List.getElem?_map, hd]
  simp; omega
theorem RM.next (pf : IsP n f f') (pg : IsP n g g') (h0 : 0 < n) (h : RM n s i n f g F G D) : RM n s (i + 1) 0 f g F G D := ⟨fl_next pf pg h0 h.fl, h.bd⟩
theorem RM.start (h0 : 0 < n) : RM n s 0 0 f g F G ((List.replicate n (-1 : Int)).set 0 (s : Int)) := by
  refine ⟨?_, fun w d hw => ?_⟩
  · rw [kn_set]
    have : kn (List.replicate n (-1)) = List.replicate n false := by unfold kn; rw [List.map_replicate]; rfl
    rw [this]
    exact fl_zero h0
  · by_cases e : 0 = w
    · subst e
      rw [List.getElem?_set_self (by simpa using h0)] at hw
      exact .inr ⟨s, (Option.some.inj hw).symm, .base⟩
    · rw [List.getElem?_set_ne e, List.getElem?_replicate] at hw
      split at hw
      · exact .inl (Option.some.inj hw).symm
      · cases hw
theorem RM.fin (pf : IsP n f f') (pg : IsP n g g') (pF : IsP m F F') (pG : IsP m G G') (h0 : 0 < n) (hs : s < m) (hcn : Conn n f g) (h : RM n s n j f g F G D) : ∃ k : Nat → Nat, D = PL n k ∧ (∀ y, y < n → k y < m) ∧ ∀ y, y < n → Jr f g F G s y (k y) := by
  have hl := h.fl.len
  rw [kn_len] at hl
  have hk : ∀ y, y < n → D[y]? = some (((D.getD y 0).toNat : Nat) : Int) ∧ Jr f g F G s y (D.getD y 0).toNat := fun y hy => by
    obtain ⟨d, hd, hd0⟩ := kn_get.1 ((fl_done pf pg h0 h.fl y).2 (hcn y hy))
    rw [List.getD_eq_getElem?_getD, hd]
    show some d = some ((d.toNat : Nat) : Int) ∧ _
    refine ⟨by rw [show ((d.toNat : Nat) : Int) = d by omega], ?_⟩
    rcases h.bd y d hd with hb | ⟨z, hz, hj⟩
    · omega
    · show Jr f g F G s y d.toNat
      rw [show d.toNat = z by omega]; exact hj
  refine ⟨fun y => (D.getD y 0).toNat, ?_, fun y hy => (jr_lt pf pg pF pG h0 hs (hk y hy).2).2, fun y hy => (hk y hy).2⟩
  apply List.ext_getElem?
  intro y
  by_cases hy : y < n
  · rw [(hk y hy).1, PL_get hy]
  · rw [List.getElem?_eq_none (by omega), List.getElem?_eq_none (by rw [PL_len]; omega)]
theorem rm_map (pf : IsP n f f') (pg : IsP n g g') (pF : IsP m F F') (pG : IsP m G G') (h0 : 0 < n) (hs : s < m) {k : Nat → Nat} (hl : ∀ y, y < n → k y < m) (hj : ∀ y, y < n → Jr f g F G s y (k y)) : (Keeps n k f g F G → MapAt n m s f g F G k) ∧ (¬ Keeps n k f g F G → ∀ h, ¬ MapAt n m s f g F G h) := by
  refine ⟨fun hK => ⟨jr_back pf pg pF pG h0 hs hl hK (hj 0 h0) rfl, hl, hK⟩, fun hK h hM => hK fun x hx => ?_⟩
  have e : ∀ y, y < n → k y = h y := fun y hy => (jr_map pf pg h0 hM (hj y hy)).2
  have := hM.c x hx
  rw [e x hx, e _ (pf.lt x hx), e _ (pg.lt x hx)]
  exact this
end
theorem rep2_set {n k : Nat} {a : Int} (h : k < n) : (rep2 n k a).set k a = rep2 n (k + 1) a := by
  apply List.ext_getElem?
  intro i
  unfold rep2
  by_cases e : k = i
  · subst e
    rw [List.getElem?_set_self (by simp; omega), List.getElem?_append_left (by simp), List.getElem?_replicate, if_pos (by omega)]
  · rw [List.getElem?_set_ne e]
    by_cases hi : i < k
    · rw [List.getElem?_append_left (by simpa using hi), List.getElem?_append_left (by simp; omega), List.getElem?_replicate, List.getElem?_replicate, if_pos hi, if_pos (by omega)]
    · rw [List.getElem?_append_right (by simp; omega), List.getElem?_append_right (by simp; omega)]
      simp only [List.length_replicate, List.getElem?_replicate]
      by_cases h2 : i < n
      · rw [if_pos (by omega), if_pos (by omega)]
      · rw [if_neg (by omega), if_neg (by omega)]
theorem fzO {p : PV} {σ : List StB} (h : cloA p = true) : Fz p σ p σ := fun _ hK => frzAK_clo h hK
theorem fn78 : ctx.fn 78 = some c78 := by kernel_rfl
theorem rmapTo_ct (hS : OldO S) {r u r2 u2 : List Int} {n m s : Nat} {f f' g g' F F' G G' : Nat → Nat} (ho : IsO r u n f f' g g') (ho2 : IsO r2 u2 m F F' G G') (hcn : Conn n f g) (hs : s < m) :
    Ct (ctx.plus S) 78 [pO r u, pO r2 u2, pn s] 10000 fun v => (∃ h, MapAt n m s f g F G h ∧ v = .tup [pIs (PL n h), .bool true]) ∨ ((∀ h, ¬ MapAt n m s f g F G h) ∧ ∃ D, v = .tup [pIs D, .bool false]) := by
  have hn := ho.le
  have hm := ho2.le
  have h0 := ho.pos
  have hrl := ho.l1.1
  subst hrl
  have gr : ∀ i, i < r.length → r[i]? = some (f i : Int) := fun i hi => by rw [ho.hr, PL_get hi]
  have gu : ∀ i, i < r.length → u[i]? = some (g i : Int) := fun i hi => by rw [ho.hu, PL_get hi]
  have gr2 : ∀ i, i < m → r2[i]? = some (F i : Int) := fun i hi => by rw [ho2.hr, PL_get hi]
  have gu2 : ∀ i, i < m → u2[i]? = some (G i : Int) := fun i hi => by rw [ho2.hu, PL_get hi]
  have hul := ho.l1.2
  have hl2 := ho2.l1
  refine ct_of (hS 78 (by decide)) fn78 ?_
  refine ⟨by omega, by omega, ?_⟩
  refine ⟨_, rfl, ?_⟩
  refine callq rfl (size_ct S hS) (by omega) ?_
  rintro _ rfl
  refine ⟨by omega, ⟨by omega, by omega, by omega⟩, _, int_zero, ?_⟩
  refine ⟨fun q st => ∃ (k b : Nat) (T : List PV), st = ⟨T, [.live 24 [pIs r, pIs u], .live 24 [pIs r2, pIs u2], .live 3 ((rep2 r.length k (-1)).map pn)], b⟩ ∧ Gt T 79 [(2, pn s), (3, .optr 0 0), (4, .optr 1 0), (8, .own 2 0 r.length r.length 1), (9, pn k)] ∧ q = r.length - k ∧ k ≤ r.length ∧ b ≤ 10 + k, ⟨_, ci ⟨0, _, _, by rw [show rep2 r.length 0 (-1) = List.replicate r.length (0 : Int) by simp [rep2]]; rfl, ⟨rfl, rfl, rfl, rfl, rfl, rfl, trivial⟩, rfl, Nat.zero_le _, by omega⟩⟩, ?_⟩
  rintro _ st ⟨k, b, T, rfl, hT, rfl, hk, hb⟩
  obtain ⟨J, rfl⟩ := gt_open hT
  clear hT
  refine ⟨_, rfl, ?_⟩
  refine callq rfl (size_ct S hS) (by omega) ?_
  rintro _ rfl
  have hrk := rep2_len (a := -1) hk
  refine ⟨fun hlt => ?_, fun hge => ?_⟩
  · refine ⟨⟨by omega, by omega⟩, ?_⟩
    refine ⟨_, _, rfl, ⟨rfl, by rw [List.length_map, hrk]; show 0 + k * 1 + 1 ≤ _; omega, rfl⟩, _, int_put (j := k) (by show 0 + k * 1 = k; omega) (by omega), _, rfl, ?_⟩
    refine ⟨⟨by omega, by omega⟩, ?_⟩
    exact ⟨_, by omega, ci ⟨k + 1, _, _, by rw [rep2_set (by omega)]; rfl, ⟨rfl, rfl, rfl, rfl, rfl, rfl, trivial⟩, rfl, by omega, by omega⟩⟩
  have hkn : k = r.length := by omega
  subst hkn
  have erep : rep2 r.length r.length (-1) = List.replicate r.length (-1 : Int) := by simp [rep2]
  rw [erep]
  rw [erep] at hrk
  refine ⟨⟨by omega, by omega⟩, ?_⟩
  refine ⟨_, _, rfl, ⟨rfl, by rw [List.length_map, hrk]; show 0 + 0 * 1 + 1 ≤ _; omega, rfl⟩, _, int_put (j := 0) (by rfl) (by omega), _, rfl, ?_⟩
  have hR0 : RM r.length s 0 0 f g F G ((List.replicate r.length (-1 : Int)).set 0 (s : Int)) := RM.start h0
  refine ⟨fun q st => ∃ (i b : Nat) (D : List Int) (T : List PV), st = ⟨T, [.live 24 [pIs r, pIs u], .live 24 [pIs r2, pIs u2], .live 3 (D.map pn)], b⟩ ∧ Gt T 79 [(3, .optr 0 0), (4, .optr 1 0), (8, .own 2 0 r.length r.length 1), (10, pn i)] ∧ q = r.length - i ∧ i ≤ r.length ∧ b ≤ 100 + 62 * i ∧ Hid (RM r.length s i 0 f g F G D), ⟨_, ci ⟨0, _, _, _, rfl, ⟨rfl, rfl, rfl, rfl, rfl, trivial⟩, rfl, Nat.zero_le _, by omega, ⟨hR0⟩⟩⟩, ?_⟩
  clear hR0 hrk erep
  rintro _ st ⟨i, b, D, T, rfl, hT, rfl, hi, hb, hR⟩
  obtain ⟨J, rfl⟩ := gt_open hT
  clear hT
  refine ⟨_, rfl, ?_⟩
  refine callq rfl (size_ct S hS) (by omega) ?_
  rintro _ rfl
  refine ⟨fun hlt => ?_, fun hge => ?_⟩
  · refine ⟨fun q st => ∃ (j b' : Nat) (D : List Int) (T : List PV), st = ⟨T, [.live 24 [pIs r, pIs u], .live 24 [pIs r2, pIs u2], .live 3 (D.map pn)], b'⟩ ∧ Gt T 79 [(3, .optr 0 0), (4, .optr 1 0), (8, .own 2 0 r.length r.length 1), (10, pn i), (11, pn j)] ∧ q = r.length - j ∧ j ≤ r.length ∧ b' ≤ 101 + 62 * i + j ∧ Hid (RM r.length s i j f g F G D), ⟨_, ci ⟨0, _, _, _, rfl, ⟨rfl, rfl, rfl, rfl, rfl, rfl, trivial⟩, rfl, Nat.zero_le _, by omega, hR⟩⟩, ?_⟩
    clear hR D
    rintro _ st ⟨j, b', D, T, rfl, hT, rfl, hj, hb', hR⟩
    obtain ⟨J, rfl⟩ := gt_open hT
    clear hT
    have hDl := hR.h.fl.len
    rw [kn_len] at hDl
    refine ⟨_, rfl, ?_⟩
    refine callq rfl (size_ct S hS) (by omega) ?_
    rintro _ rfl
    refine ⟨fun hlt2 => ?_, fun hge2 => ?_⟩
    · have hjn : j < r.length := by omega
      have c1 := ho.pr.lt j hjn
      have c2 := ho.pu.lt j hjn
      obtain ⟨d, hd⟩ : ∃ d, D[j]? = some d := ⟨D[j]'(by omega), List.getElem?_eq_getElem _⟩
      refine ⟨⟨by omega, by omega⟩, ?_⟩
      refine ⟨_, load_k rfl rfl rfl (at_map hd) (by show 0 + _ * 1 = j; omega), ?_⟩
      refine ⟨fun h => ?_, fun h => ?_⟩
      · obtain ⟨d, rfl⟩ : ∃ d' : Nat, d = d' := ⟨d.toNat, by omega⟩
        have hdm : d < m := by
          rcases hR.h.bd j _ hd with hb | ⟨z, hz, hJ⟩
          · omega
          · have := (jr_lt ho.pr ho.pu ho2.pr ho2.pu h0 hs hJ).2; omega
        refine ⟨by kernel_rfl, ?_⟩
        refine ⟨_, rfl, rfl, ?_⟩
        refine ⟨⟨⟨by omega, by omega⟩, len_map_le (by omega)⟩, ?_⟩
        refine ⟨_, ld (at_map (gr j hjn)) (by show _ * 1 = j; omega), rfl, ?_⟩
        refine ⟨_, rfl, rfl, ?_⟩
        refine ⟨⟨⟨by omega, by omega⟩, len_map_le (by omega)⟩, ?_⟩
        refine ⟨_, ld (at_map (gu j hjn)) (by show _ * 1 = j; omega), rfl, ?_⟩
        refine ⟨_, rfl, rfl, ?_⟩
        refine ⟨⟨by omega, by omega⟩, ?_⟩
        refine ⟨_, load_k rfl rfl rfl (at_map hd) (by show 0 + _ * 1 = j; omega), rfl, ?_⟩
        refine ⟨⟨⟨by omega, by omega⟩, len_map_le (by omega)⟩, ?_⟩
        refine ⟨_, ld (at_map (gr2 d hdm)) (by show _ * 1 = d; omega), rfl, ?_⟩
        refine ⟨_, rfl, rfl, ?_⟩
        refine ⟨⟨by omega, by omega⟩, ?_⟩
        refine ⟨_, load_k rfl rfl rfl (at_map hd) (by show 0 + _ * 1 = j; omega), rfl, ?_⟩
        refine ⟨⟨⟨by omega, by omega⟩, len_map_le (by omega)⟩, ?_⟩
        refine ⟨_, ld (at_map (gu2 d hdm)) (by show _ * 1 = d; omega), rfl, ?_⟩
        refine ⟨⟨by omega, by omega⟩, ?_⟩
        refine ⟨_, _, rfl, ⟨rfl, by rw [List.length_map]; show 0 + f j * 1 + 1 ≤ _; omega, rfl⟩, _, int_put (j := f j) (by show 0 + f j * 1 = f j; omega) (by omega), _, rfl, ?_⟩
        refine ⟨⟨by omega, by omega⟩, ?_⟩
        refine ⟨_, _, rfl, ⟨rfl, by rw [List.length_map, List.length_set]; show 0 + g j * 1 + 1 ≤ _; omega, rfl⟩, _, int_put (j := g j) (by show 0 + g j * 1 = g j; omega) (by rw [List.length_set]; omega), _, rfl, ?_⟩
        refine ⟨⟨by omega, by omega⟩, ?_⟩
        exact ⟨_, by omega, ci ⟨j + 1, _, _, _, rfl, ⟨rfl, rfl, rfl, rfl, rfl, rfl, trivial⟩, rfl, by omega, by omega, ⟨hR.h.mark hd c1 c2⟩⟩⟩
      · refine ⟨⟨by omega, by omega⟩, ?_⟩
        exact ⟨_, by omega, ci ⟨j + 1, _, D, _, rfl, ⟨rfl, rfl, rfl, rfl, rfl, rfl, trivial⟩, rfl, by omega, by omega, ⟨hR.h.skip hd (by omega)⟩⟩⟩
    · have hjn : j = r.length := by omega
      subst hjn
      refine ⟨⟨by omega, by omega⟩, ?_⟩
      exact ⟨_, by omega, ci ⟨i + 1, _, D, _, rfl, ⟨rfl, rfl, rfl, rfl, rfl, trivial⟩, rfl, by omega, by omega, ⟨hR.h.next ho.pr ho.pu h0⟩⟩⟩
  · have hin : i = r.length := by omega
    subst hin
    obtain ⟨k, hk1, hk2, hk3⟩ := hR.h.fin ho.pr ho.pu ho2.pr ho2.pu h0 hs hcn
    have hm2 := rm_map ho.pr ho.pu ho2.pr ho2.pu h0 hs hk2 hk3
    have hDl : D.length = r.length := by rw [hk1, PL_len]
    refine ⟨_, rfl, ?_⟩
    refine ⟨_, rfl, ?_⟩
    refine cal3 (fzO rfl) (fzO rfl) (fz_ints (xs := D) rfl hDl) (isMap_ct S hS ho ho2 ⟨hk1, hk2⟩) (by omega) ?_
    rintro _ (⟨hK, rfl⟩ | ⟨hK, rfl⟩)
    · refine ⟨⟨[], fz_ints (xs := D) rfl hDl (fun p' σ' => frzAsK σ' [.bool true] fun rs _ => (∃ h, MapAt r.length m s f g F G h ∧ PV.tup (p' :: rs) = .tup [pIs (PL r.length h), .bool true]) ∨ ((∀ h, ¬ MapAt r.length m s f g F G h) ∧ ∃ D, PV.tup (p' :: rs) = .tup [pIs D, .bool false])) (.inl ⟨k, hm2.1 hK, by rw [hk1]⟩)⟩⟩
    · refine ⟨⟨[], fz_ints (xs := D) rfl hDl (fun p' σ' => frzAsK σ' [.bool false] fun rs _ => (∃ h, MapAt r.length m s f g F G h ∧ PV.tup (p' :: rs) = .tup [pIs (PL r.length h), .bool true]) ∨ ((∀ h, ¬ MapAt r.length m s f g F G h) ∧ ∃ D, PV.tup (p' :: rs) = .tup [pIs D, .bool false])) (.inr ⟨hm2.2 hK, D, rfl⟩)⟩⟩
end Go.PI
