/- Own work of the verifier: CiInts CiRng CiCarry CiTrim CiSettle CiNormal CiFresh CiPlus CiProd. -/
import Derived.Test.YtdflpkkgjppmgaaGreatChAP
import Derived.Test.YtdflpkkgjppmgaaGreatChAX
set_option linter.all false
set_option exponentiation.threshold 3000
set_option linter.deprecated false
/- SLICES OF INTEGERS IN THE HEAP OF OUR OWN: what knows the types. -/
open Go.Proofs
namespace Go.PI
open IM
section
variable {C : Ctx} (hT : C.ty = tget)
include hT
theorem ty3 : C.ty 3 = some t3 := by rw [hT]; rfl
theorem ty22 : C.ty 22 = some t22 := by rw [hT]; rfl
theorem len_sl {ρ : Operand → Option AV} {x : Operand} {H : Heap} {v : AV} {xs : List Int} (hx : ρ x = some v) (h : Sl H v xs) :
    pureE C ρ (.call { callee := .builtin .len, args := #[x], argTypes := #[22] }) = some (iv xs.length) := by
  simp only [pureE, opds, hx, builtinP, ty22 hT, t22]
  unfold Sl at h
  split at h
  · subst h; rfl
  · subst h; rfl
  · simp [h.1]
  · simp [h.2.1]
  · exact h.elim
theorem idx_sl {ρ : Operand → Option AV} {x i : Operand} {H : Heap} {v : AV} {xs : List Int} {n : Int} {k : Nat} (hx : ρ x = some v) (hi : ρ i = some (iv n)) (h : Sl H v xs) (hk : n = k) (hl : k < xs.length) :
    pureE C ρ (.indexAddr 22 x i) = some (addr v k) := by
  subst hk
  have h0 : (0 : Int) ≤ (k : Int) ∧ (k : Int) < (xs.length : Int) := by omega
  simp only [pureE, hx, hi, ty22 hT, t22]
  unfold Sl at h
  split at h
  · subst h; simp at hl
  · subst h; simp at hl
  · obtain ⟨rfl, -⟩ := h
    simp [ty3 hT, t3, h0, hl, addr]
  · obtain ⟨rfl, rfl, -⟩ := h
    simp [ty3 hT, t3, h0, hl, addr]
  · exact h.elim
theorem load_sl {H : Heap} {v : AV} {xs : List Int} {k : Nat} {x : Int} (h : Sl H v xs) (hx : xs[k]? = some x) : loadE C 3 (addr v k) H = some (iv x) := by
  have hl : k < xs.length := (List.getElem?_eq_some_iff.1 hx).1
  have key : ∀ (cs : List AV) (o : Nat), (cs.drop o).take xs.length = ints xs → cs[o + k]? = some (iv x) := fun cs o e => by
    have h2 := ints_get hx
    rw [← e, List.getElem?_take, if_pos hl, List.getElem?_drop] at h2
    exact h2
  unfold Sl at h
  split at h
  · subst h; simp at hl
  · subst h; simp at hl
  · obtain ⟨rfl, rw, ty, cs, h2, h3, h4⟩ := h
    simp only [loadE, addr, ty3 hT, h2, partE, t3]
    exact key cs _ h4
  · obtain ⟨-, rfl, rw, ty, cs, h2, h3, h4⟩ := h
    simp only [loadE, addr, ty3 hT, h2, partE, t3]
    exact key cs _ h4
  · exact h.elim
end
def Ow (H : Heap) (v : AV) (b : Nat) (zs : List Int) (l : Nat) : Prop :=
  H.get b = .cells true 3 (ints zs) ∧ l ≤ zs.length ∧ ((∃ c, v = .sl b 0 l c ∧ l ≤ c ∧ c ≤ zs.length) ∨ v = .slu b 0 l 1)
theorem Ow.sl {H : Heap} {v : AV} {b : Nat} {zs : List Int} {l : Nat} (h : Ow H v b zs l) : Sl H v (zs.take l) := by
  obtain ⟨h1, h2, ⟨c, rfl, h3, h4⟩ | rfl⟩ := h
  · exact ⟨by simp; omega, true, _, _, h1, by rw [ints_length]; omega, by rw [List.drop_zero, ints_take]⟩
  · exact ⟨rfl, by simp; omega, true, _, _, h1, by rw [ints_length]; omega, by rw [List.drop_zero, ints_take]⟩
theorem Ow.lt {H : Heap} {v : AV} {b : Nat} {zs : List Int} {l : Nat} (h : Ow H v b zs l) : b < H.n := Heap.lt_of_get (by rw [h.1]; simp)
theorem Ow.keep {H H' : Heap} {v : AV} {b : Nat} {zs zs' : List Int} {l : Nat} (h : Ow H v b zs l) (hb : H'.get b = .cells true 3 (ints zs')) (hl : zs'.length = zs.length) : Ow H' v b zs' l := by
  obtain ⟨h1, h2, ⟨c, rfl, h3, h4⟩ | rfl⟩ := h
  · exact ⟨hb, by omega, .inl ⟨c, rfl, h3, by omega⟩⟩
  · exact ⟨hb, by omega, .inr rfl⟩
theorem splice_one {cs : List AV} {o : Nat} {v : AV} (h : o < cs.length) : splice cs o [v] = cs.set o v := by
  unfold splice
  rw [List.set_eq_take_append_cons_drop, if_pos h]
  simp
theorem store_ow {C : Ctx} (hT : C.ty = tget) {H : Heap} {v : AV} {b : Nat} {zs : List Int} {l k : Nat} {x : Int} (h : Ow H v b zs l) (hk : k < l) :
    storeE C 3 (addr v k) (iv x) H = some (H.set b (.cells true 3 (ints (zs.set k x)))) := by
  obtain ⟨h1, h2, h3⟩ := h
  have ha : addr v k = .ptr b k := by
    rcases h3 with ⟨c, rfl, -, -⟩ | rfl <;> simp [addr]
  rw [ha]
  simp only [storeE, ty3 hT, t3, h1, AV.cells, List.length_singleton, ints_length]
  rw [if_pos ⟨trivial, by omega, rfl⟩, splice_one (by rw [ints_length]; omega), ints_set]
end Go.PI
/- LOOPS OVER FUNCTIONS, BY OBLIGATIONS; OPEN REGIONS WITH SEVERAL STORES AT THE END. -/
open Go.Proofs
namespace Go.PI
open IM
set_option maxRecDepth 10000
set_option maxHeartbeats 1000000
variable (S : FuncId → Option (List AV → Heap → Option (AV × Heap)))
end Go.PI
open Go.Proofs
namespace Go.PI
open IM
theorem fn155 : ctx.fn 155 = some c155 := by kernel_rfl
theorem carryL_snoc (xs : List Int) (e : Int) : ∀ o, carryL o (xs ++ [e]) = carryL o xs ++ [(e.tmod 100000000 + carryO o xs).tmod 100000000] ∧ carryO o (xs ++ [e]) = e.tdiv 100000000 + (e.tmod 100000000 + carryO o xs).tdiv 100000000 := by
  induction xs with
  | nil => intro o; simp [carryL, carryO]
  | cons x xs ih => intro o; simp only [List.cons_append, carryL, carryO, ih]; simp
set_option maxRecDepth 10000
set_option maxHeartbeats 1000000
theorem carry_run (S : FuncId → Option (List AV → Heap → Option (AV × Heap))) (hS : S 155 = none) {H : Heap} {v : AV} {b : Nat} {zs : List Int} {l : Nat} (hn : H.n < lim) (hlb : l ≤ 1073741824) (h : Ow H v b zs l) (hr : ∀ x ∈ zs.take l, In64 x) :
    Cl (ctx.plus S) 155 [v] H fun r H' => r = iv (carryO 0 (zs.take l)) ∧ Upd H b (.cells true 3 (ints (carryL 0 (zs.take l) ++ zs.drop l))) H' := by
  refine cl_of hS fn155 ?_
  have hT : (ctx.plus S).ty = tget := rfl
  have hlen : (zs.take l).length = l := by have := h.2.1; simp; omega
  refine ⟨_, len_sl hT (v := v) rfl h.sl, ?_⟩
  rw [hlen]
  refine ⟨fun m s => ∃ (i : Nat) (n o : Int) (H' : Heap) (j1 j2 j4 j5 j6 j10 j11 j12 j13 j14 j15 j16 j17 j18 j19 j20 j21 j22 j23 j24 j25 j26 j27 j28 j29 : AV),
    s = ⟨[v, j1, j2, iv o, j4, j5, j6, v, iv l, iv n, j10, j11, j12, j13, j14, j15, j16, j17, j18, j19, j20, j21, j22, j23, j24, j25, j26, j27, j28, j29], H', []⟩ ∧ m = l - i ∧ n = i ∧ o = carryO 0 (zs.take i) ∧ i ≤ l ∧
    Upd H b (.cells true 3 (ints (carryL 0 (zs.take i) ++ zs.drop i))) H', ⟨l, ?_⟩, ?_⟩
  · exact ⟨0, 0, 0, H, _, _, _, _, _, _, _, _, _, _, _, _, _, _, _, _, _, _, _, _, _, _, _, _, _, rfl, rfl, rfl, rfl, Nat.zero_le _, Upd.refl (by simpa [carryL] using h.1)⟩
  · rintro m s ⟨i, n, o, H', j1, j2, j4, j5, j6, j10, j11, j12, j13, j14, j15, j16, j17, j18, j19, j20, j21, j22, j23, j24, j25, j26, j27, j28, j29, rfl, rfl, rfl, ho, hi, hU⟩
    have hlz := h.2.1
    refine ⟨fun hlt => ?_, fun hge => ?_⟩
    · have hi' : i < l := by omega
      obtain ⟨e, he⟩ : ∃ e, zs[i]? = some e := ⟨zs[i]'(by omega), List.getElem?_eq_getElem _⟩
      have heB := hr e (List.mem_of_getElem? (i := i) (by rw [List.getElem?_take, if_pos hi']; exact he))
      have hO := carryO_small (zs.take i) (fun x hx => hr x (by rw [show zs.take i = (zs.take l).take i by rw [List.take_take, Nat.min_eq_left hi]] at hx; exact List.mem_of_mem_take hx)) 0 (by unfold OvB; omega)
      have hO' := ovB_next heB hO
      obtain ⟨s1, s2⟩ := carryL_snoc (zs.take i) e 0
      rw [← ho] at hO hO' s1 s2
      have hcl : (carryL 0 (zs.take i)).length = i := by rw [carry_length]; simp; omega
      have hOw : Ow H' v b (carryL 0 (zs.take i) ++ zs.drop i) l := h.keep hU.at_ (by simp [hcl]; omega)
      have hget : ((carryL 0 (zs.take i) ++ zs.drop i).take l)[i]? = some e := by
        rw [List.getElem?_take, if_pos hi', List.getElem?_append_right (by omega), hcl]
        simpa using he
      have hsl := hOw.sl
      have hlen' : ((carryL 0 (zs.take i) ++ zs.drop i).take l).length = l := by simp [hcl]; omega
      unfold OvB at hO hO'
      have t1 := tq e
      have t2 := tq (e.tmod 100000000 + o)
      refine ⟨_, idx_sl hT (v := v) (n := i) rfl rfl hsl rfl (by omega), ?_⟩
      refine ⟨_, load_sl hT hsl hget, ?_⟩
      refine ⟨by decide, ?_⟩
      refine ⟨⟨by omega, by omega⟩, ?_⟩
      refine ⟨by decide, ?_⟩
      refine ⟨_, idx_sl hT (v := v) (n := i) rfl rfl hsl rfl (by omega), ?_⟩
      refine ⟨_, store_ow hT hOw hi', ?_⟩
      refine ⟨⟨by decide, ⟨by omega, by omega⟩⟩, ?_⟩
      refine ⟨⟨by decide, ⟨by omega, by omega⟩⟩, ?_⟩
      refine ⟨⟨by omega, by omega⟩, ?_⟩
      refine ⟨⟨by omega, by omega⟩, ?_⟩
      refine ⟨l - (i + 1), by omega, i + 1, _, _, _, _, _, _, _, _, _, _, _, _, _, _, _, _, _, _, _, _, _, _, _, _, _, _, _, _, rfl, rfl, rfl, ?_, hi', ?_⟩
      · rw [take_snoc he, s2]
      · rw [take_snoc he, s1]
        have hset : (carryL 0 (zs.take i) ++ zs.drop i).set i ((e.tmod 100000000 + o).tmod 100000000) = carryL 0 (zs.take i) ++ [(e.tmod 100000000 + o).tmod 100000000] ++ zs.drop (i + 1) := by
          rw [List.set_append_right _ _ (by omega), hcl, Nat.sub_self, drop_of_get he]
          simp
        rw [← hset]
        exact hU.trans (upd_set hOw.lt (by rw [hU.n]; exact hn))
    · have : i = l := by omega
      subst this
      subst ho
      exact ⟨rfl, hU⟩
end Go.PI
open Go.Proofs
namespace Go.PI
open IM
theorem fn156 : ctx.fn 156 = some c156 := by kernel_rfl
theorem fn183 : ctx.fn 183 = some c183 := by kernel_rfl
theorem fn157 : ctx.fn 157 = some c157 := by kernel_rfl
theorem trim_is {xs : List Int} {n : Nat} (hn : n ≤ xs.length) (hz : ∀ j, n ≤ j → j < xs.length → xs[j]? = some 0) (ht : n = 0 ∨ ∃ x, xs[n - 1]? = some x ∧ x ≠ 0) : trimL xs = xs.take n := by
  have h1 : xs = xs.take n ++ List.replicate (xs.length - n) 0 := by
    apply List.ext_getElem?
    intro j
    by_cases hj : j < n
    · rw [List.getElem?_append_left (by simp; omega), List.getElem?_take, if_pos hj]
    · rw [List.getElem?_append_right (by simp; omega)]
      by_cases hl : j < xs.length
      · rw [hz j (by omega) hl, List.getElem?_replicate, List.length_take, if_pos (by omega)]
      · rw [List.getElem?_eq_none (by omega), List.getElem?_eq_none (by simp; omega)]
  conv => lhs; rw [h1, trim_zeros]
  apply trim_of_top
  rcases ht with rfl | ⟨x, hx, hx0⟩
  · exact .inl (by simp)
  · by_cases h0 : n = 0
    · subst h0; exact .inl (by simp)
    · exact .inr ⟨xs.take (n - 1), x, by rw [← take_snoc hx]; congr 1; omega, hx0⟩
theorem Ow.cut {H : Heap} {v : AV} {b : Nat} {zs : List Int} {l : Nat} (h : Ow H v b zs l) {C : Ctx} (hT : C.ty = tget) {ρ : Operand → Option AV} {x y : Operand} {k : Nat} (hx : ρ x = some v) (hy : ρ y = some (iv k)) (hk : k ≤ l) :
    ∃ r, pureE C ρ (.slice 22 x none (some y) none) = some r ∧ Ow H r b zs k := by
  obtain ⟨h1, h2, ⟨c, rfl, h3, h4⟩ | rfl⟩ := h
  · refine ⟨.sl b 0 k c, ?_, h1, by omega, .inl ⟨c, rfl, by omega, h4⟩⟩
    have : (0 : Int) ≤ (k : Int) ∧ (k : Int) ≤ (c : Int) := by omega
    simp only [pureE, hx, hy, ty22 hT, t22, ty3 hT, bound, this]
    simp [t3]
  · have : (0 : Int) ≤ (k : Int) ∧ (k : Int) ≤ (l : Int) := by omega
    refine ⟨.slu b 0 k 1, ?_, h1, by omega, .inr rfl⟩
    simp only [pureE, hx, hy, ty22 hT, t22, ty3 hT, bound, this]
    by_cases hl : 0 < l
    · simp [t3, hl]
    · simp [t3, hl]
set_option maxRecDepth 10000
set_option maxHeartbeats 1000000
variable (S : FuncId → Option (List AV → Heap → Option (AV × Heap)))
theorem trim_run (hS : S 156 = none) {H : Heap} {v : AV} {b : Nat} {zs : List Int} {l : Nat} (hlb : l ≤ 1073741824) (h : Ow H v b zs l) :
    Cl (ctx.plus S) 156 [v] H fun r H' => H = H' ∧ Ow H r b zs (trimL (zs.take l)).length := by
  refine cl_of hS fn156 ?_
  have hT : (ctx.plus S).ty = tget := rfl
  have hlz := h.2.1
  have hlen : (zs.take l).length = l := by simp; omega
  refine ⟨_, len_sl hT (v := v) rfl h.sl, ?_⟩
  rw [hlen]
  refine ⟨fun m s => ∃ (i : Nat) (n : Int) (j1 j2 j4 j5 j6 j7 j8 j9 j10 j11 j12 j13 j14 j15 j16 j17 j18 j19 j20 : AV),
    s = ⟨[v, j1, j2, iv n, j4, j5, j6, j7, j8, j9, j10, j11, j12, j13, j14, j15, j16, j17, j18, j19, j20], H, []⟩ ∧ m = i ∧ n = i ∧ i ≤ l ∧ (∀ j, i ≤ j → j < l → zs[j]? = some 0), ⟨l, ?_⟩, ?_⟩
  · exact ⟨l, l, _, _, _, _, _, _, _, _, _, _, _, _, _, _, _, _, _, _, _, rfl, rfl, rfl, Nat.le_refl _, fun j h1 h2 => by omega⟩
  · rintro m s ⟨i, n, j1, j2, j4, j5, j6, j7, j8, j9, j10, j11, j12, j13, j14, j15, j16, j17, j18, j19, j20, rfl, hm, rfl, hi, hz⟩
    have fin : (i = 0 ∨ ∃ x, zs[i - 1]? = some x ∧ x ≠ 0) → (trimL (zs.take l)).length = i := fun ht => by
      rw [trim_is (n := i) (by omega) (fun j h1 h2 => by rw [List.getElem?_take, if_pos (by omega)]; exact hz j h1 (by omega))]
      · simp; omega
      · rcases ht with h0 | ⟨x, hx, hx0⟩
        · exact .inl h0
        · by_cases h0 : i = 0
          · exact .inl h0
          · exact .inr ⟨x, by rw [List.getElem?_take, if_pos (by omega)]; exact hx, hx0⟩
    refine ⟨fun hgt => ?_, fun hle => ?_⟩
    · obtain ⟨e, he⟩ : ∃ e, zs[i - 1]? = some e := ⟨zs[i - 1]'(by omega), List.getElem?_eq_getElem _⟩
      refine ⟨⟨by omega, by omega⟩, ?_⟩
      refine ⟨_, idx_sl hT (v := v) (n := (i : Int) - 1) (k := i - 1) rfl rfl h.sl (by omega) (by omega), ?_⟩
      refine ⟨_, load_sl hT h.sl (x := e) (by rw [List.getElem?_take, if_pos (by omega)]; exact he), ?_⟩
      refine ⟨fun h0 => ?_, fun h0 => ?_⟩
      · refine ⟨⟨by omega, by omega⟩, ?_⟩
        refine ⟨i - 1, by omega, i - 1, _, _, _, _, _, _, _, _, _, _, _, _, _, _, _, _, _, _, _, _, rfl, rfl, by omega, by omega, fun j h1 h2 => ?_⟩
        by_cases hj : j = i - 1
        · subst hj; rw [he, h0]
        · exact hz j (by omega) h2
      · obtain ⟨r, hr1, hr2⟩ := h.cut hT (ρ := fun o => match o with | .tmp 18 => some v | _ => some (iv i)) (x := .tmp 18) (y := .tmp 19) (k := i) rfl rfl hi
        refine ⟨r, hr1, ?_⟩
        refine ⟨rfl, ?_⟩
        rw [fin (.inr ⟨e, he, h0⟩)]
        exact hr2
    · obtain ⟨r, hr1, hr2⟩ := h.cut hT (ρ := fun o => match o with | .tmp 18 => some v | _ => some (iv i)) (x := .tmp 18) (y := .tmp 19) (k := i) rfl rfl hi
      refine ⟨r, hr1, ?_⟩
      refine ⟨rfl, ?_⟩
      rw [fin (.inl (by omega))]
      exact hr2
def sgnL (xs : List Int) : Int :=
  match xs.getLast? with
  | some t => if t < 0 then -1 else 1
  | none => 0
theorem sign_run (hS : S 183 = none) {H : Heap} {v : AV} {xs : List Int} (hlb : xs.length ≤ 1073741824) (h : Sl H v xs) :
    Cl (ctx.plus S) 183 [v] H fun r H' => r = iv (sgnL xs) ∧ H = H' := by
  refine cl_of hS fn183 ?_
  have hT : (ctx.plus S).ty = tget := rfl
  refine ⟨_, len_sl hT (v := v) rfl h, ?_⟩
  refine ⟨fun h0 => ?_, fun h0 => ?_⟩
  · have : xs = [] := List.eq_nil_of_length_eq_zero (by omega)
    subst this
    exact ⟨rfl, rfl⟩
  · obtain ⟨e, he⟩ : ∃ e, xs[xs.length - 1]? = some e := ⟨xs[xs.length - 1]'(by omega), List.getElem?_eq_getElem _⟩
    have hs : sgnL xs = if e < 0 then -1 else 1 := by
      unfold sgnL
      rw [List.getLast?_eq_getElem?, he]
    refine ⟨_, len_sl hT (v := v) rfl h, ?_⟩
    refine ⟨⟨by omega, by omega⟩, ?_⟩
    refine ⟨_, idx_sl hT (v := v) (n := (xs.length : Int) - 1) (k := xs.length - 1) rfl rfl h (by omega) (by omega), ?_⟩
    refine ⟨_, load_sl hT h he, ?_⟩
    refine ⟨fun hn => ?_, fun hn => ?_⟩
    · exact ⟨by rw [hs, if_pos hn], rfl⟩
    · exact ⟨by rw [hs, if_neg (by omega)], rfl⟩
end Go.PI
open Go.Proofs
namespace Go.PI
open IM
theorem fn119 : ctx.fn 119 = some c119 := by kernel_rfl
def Sml (xs : List Int) : Prop := ∀ x ∈ xs, -100000000 < x ∧ x < 100000000
set_option maxRecDepth 10000
set_option maxHeartbeats 1000000
variable (S : FuncId → Option (List AV → Heap → Option (AV × Heap)))
theorem sgn_cases (xs : List Int) : (xs = [] ∧ sgnL xs = 0) ∨ sgnL xs = 1 ∨ sgnL xs = -1 := by
  unfold sgnL
  cases h : xs.getLast? with
  | none => exact .inl ⟨by simpa using h, rfl⟩
  | some t => by_cases ht : t < 0 <;> simp [ht]
theorem borrow_run (hS : S 157 = none) (hS1 : S 183 = none) {H : Heap} {v : AV} {b : Nat} {zs : List Int} {l : Nat} (hn : H.n < lim) (hlb : l ≤ 1073741824) (h : Ow H v b zs l) (hs : Sml (zs.take l)) :
    Cl (ctx.plus S) 157 [v] H fun _ H' => Upd H b (.cells true 3 (ints (borrowB (sgnL (zs.take l)) 0 (zs.take l) ++ zs.drop l))) H' := by
  refine cl_of hS fn157 ?_
  have hT : (ctx.plus S).ty = tget := rfl
  have hlz := h.2.1
  have hlen : (zs.take l).length = l := by simp; omega
  refine (sign_run S hS1 (v := v) (by omega) h.sl).mono ?_
  rintro _ _ ⟨rfl, rfl⟩
  refine ⟨_, len_sl hT (v := v) rfl h.sl, ?_⟩
  rw [hlen]
  refine ⟨⟨by omega, by omega⟩, ?_⟩
  have hu := sgn_cases (zs.take l)
  generalize sgnL (zs.take l) = u at hu ⊢
  refine ⟨fun m s => ∃ (i : Nat) (n : Int) (H' : Heap) (j1 j3 j4 j5 j7 j10 j11 j12 j13 j14 j15 j16 j17 j18 j19 j20 j21 j22 j23 j24 j25 j26 j27 j28 j29 j30 j31 j32 j33 j34 j35 : AV),
    s = ⟨[v, j1, iv u, j3, j4, j5, v, j7, iv ((l : Int) - 1), iv n, j10, j11, j12, j13, j14, j15, j16, j17, j18, j19, j20, j21, j22, j23, j24, j25, j26, j27, j28, j29, j30, j31, j32, j33, j34, j35], H', []⟩ ∧ m = l - i ∧ n = i ∧
      (l = 0 ∧ i = 0 ∧ H' = H ∨ ∃ (B : List Int) (d x : Int) (rest : List Int), B.length = i ∧ i + 1 + rest.length = l ∧ (d = 0 ∨ d = u) ∧ (u = 1 ∨ u = -1) ∧ -100000000 < x ∧ x < 100000000 ∧ Sml rest ∧
        borrowB u 0 (zs.take l) = B ++ borrowB u d (x :: rest) ∧ Upd H b (.cells true 3 (ints (B ++ (x - d) :: rest ++ zs.drop l))) H'), ⟨l, ?_⟩, ?_⟩
  · refine ⟨0, 0, H, _, _, _, _, _, _, _, _, _, _, _, _, _, _, _, _, _, _, _, _, _, _, _, _, _, _, _, _, _, _, _, rfl, rfl, rfl, ?_⟩
    rcases hu with ⟨h1, -⟩ | hu
    · rw [h1] at hlen; simp at hlen; exact .inl ⟨hlen.symm, rfl, rfl⟩
    · cases hz : zs.take l with
      | nil => rw [hz] at hlen; simp at hlen; exact .inl ⟨hlen.symm, rfl, rfl⟩
      | cons x rest =>
        rw [hz] at hs hlen
        have hx := hs x (by simp)
        refine .inr ⟨[], 0, x, rest, rfl, by simp at hlen; omega, .inl rfl, hu, hx.1, hx.2, fun y hy => hs y (by simp [hy]), rfl, Upd.refl ?_⟩
        rw [h.1, Int.sub_zero, List.nil_append, ← hz, List.take_append_drop]
  · rintro m s ⟨i, n, H', j1, j3, j4, j5, j7, j10, j11, j12, j13, j14, j15, j16, j17, j18, j19, j20, j21, j22, j23, j24, j25, j26, j27, j28, j29, j30, j31, j32, j33, j34, j35, rfl, hm, rfl, hI⟩
    refine ⟨fun hlt => ?_, fun hge => ?_⟩
    · rcases hI with ⟨rfl, rfl, -⟩ | ⟨B, d, x, rest, hB, hl, hd, hu1, hx1, hx2, hsr, hbr, hU⟩
      · exact absurd hlt (by omega)
      cases rest with
      | nil => exact absurd hlt (by simp at hl; omega)
      | cons y ys =>
      have hy := hsr y (by simp)
      have hOw : Ow H' v b (B ++ (x - d) :: y :: ys ++ zs.drop l) l := h.keep hU.at_ (by simp at hl ⊢; omega)
      have htk : (B ++ (x - d) :: y :: ys ++ zs.drop l).take l = B ++ (x - d) :: y :: ys := by
        rw [List.take_append_of_le_length (by simp at hl ⊢; omega), List.take_of_length_le (by simp at hl ⊢; omega)]
      have hsl := hOw.sl
      rw [htk] at hsl
      have hg : (B ++ (x - d) :: y :: ys)[i]? = some (x - d) := by rw [List.getElem?_append_right (by omega), hB, Nat.sub_self]; rfl
      have hil : i < (B ++ (x - d) :: y :: ys).length := by simp at hl ⊢; omega
      have hil2 : i + 1 < l := by simp at hl; omega
      have hn' : H'.n < lim := by rw [hU.n]; exact hn
      refine ⟨_, idx_sl hT (v := v) (n := i) rfl rfl hsl rfl hil, ?_⟩
      refine ⟨_, load_sl hT hsl hg, ?_⟩
      refine ⟨⟨by rcases hu1 with rfl | rfl <;> rcases hd with rfl | rfl <;> omega, by rcases hu1 with rfl | rfl <;> rcases hd with rfl | rfl <;> omega⟩, ?_⟩
      refine ⟨fun hneg => ?_, fun hpos => ?_⟩
      · refine ⟨_, idx_sl hT (v := v) (n := i) rfl rfl hsl rfl hil, ?_⟩
        refine ⟨_, load_sl hT hsl hg, ?_⟩
        refine ⟨⟨by rcases hu1 with rfl | rfl <;> omega, by rcases hu1 with rfl | rfl <;> omega⟩, ?_⟩
        refine ⟨⟨by rcases hu1 with rfl | rfl <;> rcases hd with rfl | rfl <;> omega, by rcases hu1 with rfl | rfl <;> rcases hd with rfl | rfl <;> omega⟩, ?_⟩
        refine ⟨_, idx_sl hT (v := v) (n := i) rfl rfl hsl rfl hil, ?_⟩
        refine ⟨_, store_ow hT hOw (by omega), ?_⟩
        have hset : (B ++ (x - d) :: y :: ys ++ zs.drop l).set i (x - d + u * 100000000) = B ++ (x - d + u * 100000000) :: y :: ys ++ zs.drop l := by
          rw [List.append_assoc, List.set_append_right _ _ (by omega), hB, Nat.sub_self]; simp
        rw [hset]
        have hU2 : Upd H b (.cells true 3 (ints (B ++ (x - d + u * 100000000) :: y :: ys ++ zs.drop l))) (H'.set b (.cells true 3 (ints (B ++ (x - d + u * 100000000) :: y :: ys ++ zs.drop l)))) := hU.trans (upd_set hOw.lt hn')
        generalize H'.set b _ = H2 at hU2
        have hOw2 : Ow H2 v b (B ++ (x - d + u * 100000000) :: y :: ys ++ zs.drop l) l := h.keep hU2.at_ (by simp at hl ⊢; omega)
        have htk2 : (B ++ (x - d + u * 100000000) :: y :: ys ++ zs.drop l).take l = B ++ (x - d + u * 100000000) :: y :: ys := by
          rw [List.take_append_of_le_length (by simp at hl ⊢; omega), List.take_of_length_le (by simp at hl ⊢; omega)]
        have hsl2 := hOw2.sl
        rw [htk2] at hsl2
        have hg2 : (B ++ (x - d + u * 100000000) :: y :: ys)[i + 1]? = some y := by rw [List.getElem?_append_right (by omega), hB, Nat.add_sub_cancel_left]; rfl
        have hil3 : i + 1 < (B ++ (x - d + u * 100000000) :: y :: ys).length := by simp at hl ⊢; omega
        refine ⟨⟨by omega, by omega⟩, ?_⟩
        refine ⟨_, idx_sl hT (v := v) (n := (i : Int) + 1) (k := i + 1) rfl rfl hsl2 rfl hil3, ?_⟩
        refine ⟨_, load_sl hT hsl2 hg2, ?_⟩
        refine ⟨⟨by rcases hu1 with rfl | rfl <;> omega, by rcases hu1 with rfl | rfl <;> omega⟩, ?_⟩
        refine ⟨_, idx_sl hT (v := v) (n := (i : Int) + 1) (k := i + 1) rfl rfl hsl2 rfl hil3, ?_⟩
        refine ⟨_, store_ow hT hOw2 hil2, ?_⟩
        refine ⟨⟨by omega, by omega⟩, ?_⟩
        refine ⟨l - (i + 1), by omega, i + 1, _, _, _, _, _, _, _, _, _, _, _, _, _, _, _, _, _, _, _, _, _, _, _, _, _, _, _, _, _, _, _, _, _, rfl, rfl, rfl, .inr ⟨B ++ [x - d + u * 100000000], u, y, ys, by simp [hB], by simp at hl; omega, .inr rfl, hu1, hy.1, hy.2, fun z hz => hsr z (by simp [hz]), ?_, ?_⟩⟩
        · rw [hbr]
          conv => lhs; unfold borrowB
          rw [if_pos hneg]; simp
        · have hset2 : (B ++ (x - d + u * 100000000) :: y :: ys ++ zs.drop l).set (i + 1) (y - u) = B ++ [x - d + u * 100000000] ++ (y - u) :: ys ++ zs.drop l := by
            rw [List.append_assoc, List.set_append_right _ _ (by omega), hB, Nat.add_sub_cancel_left]; simp
          rw [← hset2]
          exact hU2.trans (upd_set hOw2.lt (by rw [hU2.n]; exact hn))
      · refine ⟨⟨by omega, by omega⟩, ?_⟩
        refine ⟨l - (i + 1), by omega, i + 1, _, _, _, _, _, _, _, _, _, _, _, _, _, _, _, _, _, _, _, _, _, _, _, _, _, _, _, _, _, _, _, _, _, rfl, rfl, rfl, .inr ⟨B ++ [x - d], 0, y, ys, by simp [hB], by simp at hl; omega, .inl rfl, hu1, hy.1, hy.2, fun z hz => hsr z (by simp [hz]), ?_, ?_⟩⟩
        · rw [hbr]
          conv => lhs; unfold borrowB
          rw [if_neg (by omega)]; simp
        · rw [Int.sub_zero, List.append_assoc B [x - d]]
          exact hU
    · rcases hI with ⟨h0, -, hHH⟩ | ⟨B, d, x, rest, hB, hl, hd, hu1, hx1, hx2, hsr, hbr, hU⟩
      · subst h0 hHH
        have hfin : Upd H' b (.cells true 3 (ints (borrowB u 0 (zs.take 0) ++ zs.drop 0))) H' := Upd.refl (by simpa [borrowB] using h.1)
        exact hfin
      · cases rest with
        | cons y ys => exact absurd hge (by simp at hl; omega)
        | nil =>
          have hfin : Upd H b (.cells true 3 (ints (borrowB u 0 (zs.take l) ++ zs.drop l))) H' := by
            rw [hbr]
            simpa [borrowB] using hU
          exact hfin
structure Mine (H0 : Heap) (b0 : Nat) (v : AV) (xs : List Int) (H : Heap) : Prop where
  n : H0.n ≤ H.n
  keep : ∀ A, A < H0.n → A ≠ b0 → H.get A = H0.get A
  at_ : ∃ b zs, Ow H v b zs xs.length ∧ zs.take xs.length = xs ∧ (b = b0 ∨ H0.n ≤ b)
theorem append_mine {C : Ctx} (hT : C.ty = tget) {H0 H : Heap} {b0 : Nat} {v : AV} {xs : List Int} {e : Int} (hn : H.n + 1 < lim) (hl : xs.length ≤ 1073741824) (h : Mine H0 b0 v xs H) :
    ∃ r H', appendE C [22, 22] v (.sl H.n 0 1 1) (H.push (.cells true 3 [iv e])) = some (r, H') ∧ Mine H0 b0 r (xs ++ [e]) H' ∧ H'.n ≤ H.n + 2 := by
  obtain ⟨h1, h2, b, zs, hO, hx, hb⟩ := h
  have hbn := hO.lt
  have hp : ∀ A, (H.push (.cells true 3 [iv e])).get A = if A = H.n then .cells true 3 [iv e] else H.get A := Heap.get_push (by omega)
  have hpn : (H.push (.cells true 3 [iv e])).n = H.n + 1 := rfl
  have hcells : cellsE (H.push (.cells true 3 [iv e])) 1 1 (.sl H.n 0 1 1) = some [iv e] := by
    simp [cellsE, hp]
  have hxe : (zs.take xs.length) = xs := hx
  obtain ⟨g1, g2, g3⟩ := hO
  have hgb : (H.push (.cells true 3 [iv e])).get b = .cells true 3 (ints zs) := by rw [hp, if_neg (by omega)]; exact g1
  have hone : ones [iv e] = true := rfl
  have hnlim : ¬ lim ≤ H.n + 1 := by omega
  rcases g3 with ⟨c, rfl, g4, g5⟩ | rfl
  · by_cases hc : xs.length + 1 ≤ c
    · have hsn : ((H.push (.cells true 3 [iv e])).set b (.cells true 3 (ints (zs.set xs.length e)))).n = H.n + 1 := rfl
      refine ⟨.sl b 0 (xs.length + 1) c, (H.push (.cells true 3 [iv e])).set b (.cells true 3 (ints (zs.set xs.length e))), ?_, ⟨by omega, ?_, b, zs.set xs.length e, ⟨?_, by simp; omega, .inl ⟨c, by simp, by simp; omega, by simp; omega⟩⟩, ?_, hb⟩, ?_⟩
      · simp only [appendE, ty22 hT, ty3 hT, t22, t3, srcOk, lenE, hcells, hone, hgb, hpn]
        simp only [Bool.true_eq_false, false_or, hnlim, or_false]
        simp
        rw [if_pos hc, splice_one (by rw [ints_length]; omega), ints_set, if_pos (by rw [ints_length]; omega)]
        exact ⟨hl, rfl⟩
      · intro A hA hA2
        rw [Heap.get_set (by omega) (by omega)]
        by_cases hAb : A = b
        · rcases hb with rfl | hb
          · exact absurd hAb hA2
          · omega
        · rw [if_neg hAb, hp, if_neg (by omega)]; exact h2 A hA hA2
      · rw [Heap.get_set (by omega) (by omega), if_pos rfl]
      · have hlt : xs.length < zs.length := by omega
        rw [List.length_append, List.length_singleton, List.take_add_one, List.take_set_of_le (Nat.le_refl _), hxe, List.getElem?_set_self hlt]; rfl
      · omega
    · refine ⟨.slu (H.n + 1) 0 (xs.length + 1) 1, (H.push (.cells true 3 [iv e])).push (.cells true 3 (ints (xs ++ [e]))), ?_, ⟨?_, ?_, H.n + 1, xs ++ [e], ⟨?_, by simp, .inr (by simp)⟩, List.take_of_length_le (Nat.le_refl _), .inr (by omega)⟩, ?_⟩
      · simp only [appendE, ty22 hT, ty3 hT, t22, t3, srcOk, lenE, hcells, hone, hgb, hpn]
        simp only [Bool.true_eq_false, false_or, hnlim, or_false]
        have hti : List.take xs.length (ints zs) ++ [iv e] = ints (xs ++ [e]) := by rw [ints_take, hxe, ints_append]; rfl
        simp [hc, hti]
        rw [ints_length]; omega
      · show H0.n ≤ H.n + 1 + 1
        omega
      · intro A hA hA2
        rw [Heap.get_push (by omega), hpn, if_neg (by omega), hp, if_neg (by omega)]; exact h2 A hA hA2
      · rw [Heap.get_push (by omega), hpn, if_pos rfl]
      · show H.n + 1 + 1 ≤ H.n + 2
        omega
  · refine ⟨.slu (H.n + 1) 0 (xs.length + 1) 1, ((H.push (.cells true 3 [iv e])).set b .dead).push (.cells true 3 (ints (xs ++ [e]))), ?_, ⟨?_, ?_, H.n + 1, xs ++ [e], ⟨?_, by simp, .inr (by simp)⟩, List.take_of_length_le (Nat.le_refl _), .inr (by omega)⟩, ?_⟩
    · simp only [appendE, ty22 hT, ty3 hT, t22, t3, srcOk, lenE, hcells, hone, hgb, hpn]
      simp only [Bool.true_eq_false, false_or, hnlim, or_false]
      have hti : List.take xs.length (ints zs) ++ [iv e] = ints (xs ++ [e]) := by rw [ints_take, hxe, ints_append]; rfl
      simp [hti]
      rw [ints_length]; omega
    · show H0.n ≤ H.n + 1 + 1
      omega
    · intro A hA hA2
      have hsn : ((H.push (.cells true 3 [iv e])).set b .dead).n = H.n + 1 := rfl
      rw [Heap.get_push (by omega), hsn, if_neg (by omega), Heap.get_set (by omega) (by omega), hp]
      by_cases hAb : A = b
      · rcases hb with rfl | hb
        · exact absurd hAb hA2
        · omega
      · rw [if_neg hAb, if_neg (by omega)]; exact h2 A hA hA2
    · have hsn : ((H.push (.cells true 3 [iv e])).set b .dead).n = H.n + 1 := rfl
      rw [Heap.get_push (by omega), hsn, if_pos rfl]
    · show H.n + 1 + 1 ≤ H.n + 2
      omega
theorem Mine.sl {H0 H : Heap} {b0 : Nat} {v : AV} {xs : List Int} (h : Mine H0 b0 v xs H) : Sl H v xs := by
  obtain ⟨-, -, b, zs, hO, hx, -⟩ := h
  have := hO.sl
  rwa [hx] at this
theorem Mine.upd {H0 H H' : Heap} {b0 b : Nat} {v : AV} {xs ys : List Int} {zs : List Int} (h : Mine H0 b0 v xs H) (hO : Ow H v b zs xs.length) (hb : b = b0 ∨ H0.n ≤ b) (hl : ys.length = xs.length) (hU : Upd H b (.cells true 3 (ints (ys ++ zs.drop xs.length))) H') : Mine H0 b0 v ys H' := by
  refine ⟨by rw [hU.n]; exact h.n, fun A hA hA2 => ?_, b, ys ++ zs.drop xs.length, ?_, by simp, hb⟩
  · rw [hU.other A (fun e => by subst e; rcases hb with rfl | hb; exact hA2 rfl; omega)]
    exact h.keep A hA hA2
  · rw [hl]
    have := hO.2.1
    exact hO.keep hU.at_ (by simp; omega)
theorem carry_mine (hS : S 155 = none) {H0 H : Heap} {b0 : Nat} {v : AV} {xs : List Int} (hn : H.n < lim) (hlb : xs.length ≤ 1073741824) (h : Mine H0 b0 v xs H) (hr : ∀ x ∈ xs, In64 x) :
    Cl (ctx.plus S) 155 [v] H fun r H' => r = iv (carryO 0 xs) ∧ Mine H0 b0 v (carryL 0 xs) H' ∧ H'.n = H.n := by
  obtain ⟨-, -, b, zs, hO, hx, hb⟩ := id h
  refine (carry_run S hS hn hlb hO (by rw [hx]; exact hr)).mono ?_
  rintro r H' ⟨rfl, hU⟩
  rw [hx] at hU ⊢
  exact ⟨rfl, h.upd hO hb (carry_length _ _) hU, hU.n⟩
theorem trim_mine (hS : S 156 = none) {H0 H : Heap} {b0 : Nat} {v : AV} {xs : List Int} (hlb : xs.length ≤ 1073741824) (h : Mine H0 b0 v xs H) :
    Cl (ctx.plus S) 156 [v] H fun r H' => H = H' ∧ Mine H0 b0 r (trimL xs) H := by
  obtain ⟨h1, h2, b, zs, hO, hx, hb⟩ := h
  refine (trim_run S hS hlb hO).mono ?_
  rintro r _ ⟨rfl, hO2⟩
  rw [hx] at hO2
  obtain ⟨g1, -, g3⟩ := trim_take xs
  refine ⟨rfl, h1, h2, b, zs, hO2, ?_, hb⟩
  conv => rhs; rw [g1, ← hx]
  rw [List.take_take, Nat.min_eq_left (by rw [hx]; exact g3), hx]
theorem borrow_mine (hS : S 157 = none) (hS1 : S 183 = none) {H0 H : Heap} {b0 : Nat} {v : AV} {xs : List Int} (hn : H.n < lim) (hlb : xs.length ≤ 1073741824) (h : Mine H0 b0 v xs H) (hs : Sml xs) :
    Cl (ctx.plus S) 157 [v] H fun _ H' => Mine H0 b0 v (borrowB (sgnL xs) 0 xs) H' ∧ H'.n = H.n := by
  obtain ⟨-, -, b, zs, hO, hx, hb⟩ := id h
  refine (borrow_run S hS hS1 hn hlb hO (by rw [hx]; exact hs)).mono ?_
  intro r H' hU
  rw [hx] at hU
  exact ⟨h.upd hO hb (borrow_length _ _ _) hU, hU.n⟩
theorem settle_run (h119 : S 119 = none) (h155 : S 155 = none) (h156 : S 156 = none) (h157 : S 157 = none) (h183 : S 183 = none) {H : Heap} {b0 : Nat} {H0 : Heap} {v : AV} {xs : List Int} (hn : H.n + 8 < lim) (hlb : xs.length ≤ 1000000000) (h : Mine H0 b0 v xs H) (hr : ∀ x ∈ xs, In64 x) :
    Cl (ctx.plus S) 119 [v] H fun r H' => Mine H0 b0 r (digits (val xs)) H' ∧ H'.n ≤ H.n + 6 := by
  refine cl_of h119 fn119 ?_
  have hT : (ctx.plus S).ty = tget := rfl
  refine (carry_mine S h155 (by omega) (by omega) h hr).mono ?_
  rintro _ H1 ⟨rfl, hM, hn1⟩
  have ho3 := ov_three (fun x hx => hr x hx)
  have hov := carryO_small xs (fun x hx => hr x hx) 0 (by unfold OvB; omega)
  have hcl := carry_length xs 0
  refine ⟨fun m s => ∃ (k : Nat) (o : Int) (u : AV) (ds : List Int) (H' : Heap) (j1 j2 j4 j5 j6 j7 j8 j9 j10 j11 j12 j13 j14 j15 j16 j17 j18 j19 j20 : AV),
    s = ⟨[u, j1, j2, iv o, j4, j5, j6, j7, j8, j9, j10, j11, j12, j13, j14, j15, j16, j17, j18, j19, j20], H', []⟩ ∧ m = k ∧ k ≤ 3 ∧ OvB o ∧ Mine H0 b0 u (carryL 0 xs ++ ds) H' ∧ H'.n ≤ H.n + 2 * (3 - k) ∧ ds ++ overL k o = overL 3 (carryO 0 xs) ∧ o.natAbs < 100000000 ^ k ∧ ds.length = 3 - k, ⟨3, ?_⟩, ?_⟩
  · exact ⟨3, carryO 0 xs, v, [], H1, _, _, _, _, _, _, _, _, _, _, _, _, _, _, _, _, _, _, _, rfl, rfl, by omega, hov, by simpa using hM, by omega, by simp, ho3, rfl⟩
  · rintro m s ⟨k, o, u, ds, H', j1, j2, j4, j5, j6, j7, j8, j9, j10, j11, j12, j13, j14, j15, j16, j17, j18, j19, j20, rfl, hm, hk3, hoB, hM', hn', hds, hok, hdl⟩
    refine ⟨fun hne => ?_, fun h0 => ?_⟩
    · obtain ⟨k, rfl⟩ : ∃ j, k = j + 1 := by
        cases k with
        | zero => simp at hok; exact absurd hok hne
        | succ j => exact ⟨j, rfl⟩
      unfold OvB at hoB
      have ho := tq o
      refine ⟨by decide, ?_⟩
      refine ⟨by omega, _, _, rfl, ?_⟩
      obtain ⟨r, H2, ha, hM2, hn2⟩ := append_mine hT (C := ctx.plus S) (e := o.tmod 100000000) (by omega) (by simp [hcl]; omega) hM'
      refine ⟨r, H2, ha, ?_⟩
      refine ⟨⟨by decide, ⟨by omega, by omega⟩⟩, ?_⟩
      refine ⟨k, by omega, k, _, _, ds ++ [o.tmod 100000000], H2, _, _, _, _, _, _, _, _, _, _, _, _, _, _, _, _, _, _, _, rfl, rfl, by omega, ?_, by rw [← List.append_assoc]; exact hM2, by omega, ?_, ?_, by simp; omega⟩
      · unfold OvB; omega
      · rw [← hds, List.append_assoc]
        conv => rhs; unfold overL
        rw [if_neg hne]
        rfl
      · rw [Int.natAbs_tdiv]
        rw [Nat.pow_succ] at hok
        exact Nat.div_lt_of_lt_mul (by rw [Nat.mul_comm]; exact hok)
    · subst h0
      have hds2 : ds = overL 3 (carryO 0 xs) := by
        rw [← hds]
        cases k <;> simp [overL]
      have hlen : (carryL 0 xs ++ ds).length ≤ 1073741824 := by simp [hcl]; omega
      refine (trim_mine S h156 hlen hM').mono ?_
      rintro r1 _ ⟨rfl, hM1⟩
      rw [hds2] at hM1
      have hl1 := (trim_take (carryL 0 xs ++ overL 3 (carryO 0 xs))).2.2
      rw [hds2] at hlen
      have hsm : Sml (trimL (carryL 0 xs ++ overL 3 (carryO 0 xs))) := fun x hx => by
        rcases List.mem_append.1 (trim_mem _ x hx) with h | h
        · exact carry_small _ _ x h
        · exact overL_small _ _ x h
      refine (borrow_mine S h157 h183 (by omega) (by omega) hM1 hsm).mono ?_
      rintro _ H3 ⟨hM3, hn3⟩
      refine (trim_mine S h156 (by rw [borrow_length]; omega) hM3).mono ?_
      rintro r3 _ ⟨rfl, hM4⟩
      have hset := settle_digits ho3
      unfold settleL at hset
      simp only at hset
      have hfin : Mine H0 b0 r3 (digits (val xs)) H3 ∧ H3.n ≤ H.n + 6 := by
        refine ⟨?_, by omega⟩
        rw [← hset]
        exact hM4
      exact hfin
end Go.PI
open Go.Proofs
namespace Go.PI
open IM
set_option maxRecDepth 10000
set_option maxHeartbeats 1000000
variable (S : FuncId → Option (List AV → Heap → Option (AV × Heap)))
end Go.PI
/- NEW LISTS AS RESULTS. -/
open Go.Proofs
namespace Go.PI
open IM
theorem Mine.fresh_refl {H : Heap} {b : Nat} {zs : List Int} {v : AV} {l : Nat} {H1 : Heap} (hn : H.n ≤ H1.n) (hk : ∀ A, A < H.n → H1.get A = H.get A) (hO : Ow H1 v b zs l) (hb : H.n ≤ b) : Mine H H.n v (zs.take l) H1 := by
  have hl := hO.2.1
  have e : (zs.take l).length = l := by simp; omega
  refine ⟨hn, fun A hA _ => hk A hA, b, zs, ?_, ?_, .inr hb⟩
  · rw [e]; exact hO
  · rw [e]
end Go.PI
open Go.Proofs
namespace Go.PI
open IM
theorem fn78 : ctx.fn 78 = some c78 := by kernel_rfl
theorem lenE_sl {H : Heap} {v : AV} {xs : List Int} (h : Sl H v xs) : lenE v = some xs.length := by
  unfold Sl at h
  split at h
  · subst h; rfl
  · subst h; rfl
  · simp [lenE, h.1]
  · simp [lenE, h.2.1]
  · exact h.elim
theorem cellsE_sl {H : Heap} {v : AV} {xs : List Int} (h : Sl H v xs) {n : Nat} (hn : n ≤ xs.length) : cellsE H 1 n v = some (ints (xs.take n)) := by
  have key : ∀ {b o l : Nat}, l = xs.length → (∃ rw ty cs, H.get b = .cells rw ty cs ∧ o + l ≤ cs.length ∧ (cs.drop o).take l = ints xs) → (match H.get b with
      | .cells _ _ cs => if o + n * 1 ≤ cs.length then some ((cs.drop o).take (n * 1)) else none
      | _ => none) = some (ints (xs.take n)) := by
    rintro b o l rfl ⟨rw, ty, cs, h1, h2, h3⟩
    rw [h1]
    simp only [Nat.mul_one]
    rw [if_pos (by omega), ← ints_take, ← h3, List.take_take, Nat.min_eq_left hn]
  unfold Sl at h
  split at h
  · subst h; simp at hn; subst hn; rfl
  · subst h; simp at hn; subst hn; rfl
  · exact key h.1 h.2
  · exact key h.2.1 h.2.2
  · exact h.elim
theorem mul_bd {a b : Int} {m n : Int} (ha : -m ≤ a ∧ a ≤ m) (hb : -n ≤ b ∧ b ≤ n) : -(m * n) ≤ a * b ∧ a * b ≤ m * n := by
  have hm : 0 ≤ m := by omega
  have hn : 0 ≤ n := by omega
  have h1 : (a * b).natAbs ≤ (m * n).natAbs := by
    rw [Int.natAbs_mul, Int.natAbs_mul]
    exact Nat.mul_le_mul (by omega) (by omega)
  have h2 : 0 ≤ m * n := Int.mul_nonneg hm hn
  omega
set_option maxRecDepth 10000
set_option maxHeartbeats 1000000
variable (S : FuncId → Option (List AV → Heap → Option (AV × Heap)))
structure Old (S : FuncId → Option (List AV → Heap → Option (AV × Heap))) : Prop where
  h119 : S 119 = none
  h155 : S 155 = none
  h156 : S 156 = none
  h157 : S 157 = none
  h183 : S 183 = none
theorem settle_old (hS : Old S) {H : Heap} {b0 : Nat} {H0 : Heap} {v : AV} {xs : List Int} (hn : H.n + 8 < lim) (hlb : xs.length ≤ 1000000000) (h : Mine H0 b0 v xs H) (hr : ∀ x ∈ xs, In64 x) :
    Cl (ctx.plus S) 119 [v] H fun r H' => Mine H0 b0 r (digits (val xs)) H' ∧ H'.n ≤ H.n + 6 := settle_run S hS.h119 hS.h155 hS.h156 hS.h157 hS.h183 hn hlb h hr
theorem of_run2 (hS : Old S) (h78 : S 78 = none) {H : Heap} {n : Int} (hn : H.n + 12 < lim) (h : In64 n) : Cl (ctx.plus S) 78 [iv n] H fun r H' => Mine H H.n r (digits n) H' ∧ H'.n ≤ H.n + 8 := by
  refine cl_of h78 fn78 ?_
  refine ⟨by omega, _, _, rfl, ?_⟩
  have hp := Heap.get_push (H := H) (b := .cells true 3 [iv n]) (by omega)
  have hpn : (H.push (.cells true 3 [iv n])).n = H.n + 1 := rfl
  have hM : Mine H H.n (.sl H.n 0 1 1) [n] (H.push (.cells true 3 [iv n])) :=
    ⟨by omega, fun A hA _ => by rw [hp, if_neg (by omega)], H.n, [n], ⟨by rw [hp, if_pos rfl]; rfl, by simp, .inl ⟨1, rfl, by simp, by simp⟩⟩, by simp, .inl rfl⟩
  refine (settle_old S hS (by omega) (by simp) hM (fun x hx => by simp at hx; subst hx; exact h)).mono ?_
  rintro r H' ⟨h1, h2⟩
  have hv : val [n] = n := by simp [val]
  rw [hv] at h1
  exact ⟨h1, by omega⟩
end Go.PI
open Go.Proofs
namespace Go.PI
open IM
set_option maxRecDepth 10000
set_option maxHeartbeats 1000000
variable (S : FuncId → Option (List AV → Heap → Option (AV × Heap)))
def negL (xs : List Int) : List Int := xs.map fun x => -x
theorem negL_snoc (xs : List Int) (x : Int) : negL (xs ++ [x]) = negL xs ++ [-x] := by simp [negL]
theorem append_empty {C : Ctx} (hT : C.ty = tget) {H : Heap} {v : AV} {xs : List Int} (hn : H.n + 1 < lim) (h : Sl H v xs) (hl : xs.length ≤ 1000000) :
    ∃ r H', appendE C [22, 22] (.sl H.n 0 0 0) v (H.push (.cells true 3 [])) = some (r, H') ∧ Mine H H.n r xs H' ∧ H'.n ≤ H.n + 2 := by
  have hp := Heap.get_push (H := H) (b := .cells true 3 []) (by omega)
  have hpn : (H.push (.cells true 3 [])).n = H.n + 1 := rfl
  generalize H.push (.cells true 3 []) = H1 at hp hpn ⊢
  have hk1 : ∀ A, A < H.n → H1.get A = H.get A := fun A hA => by rw [hp, if_neg (by omega)]
  have hb1 : H1.get H.n = .cells true 3 [] := by rw [hp, if_pos rfl]
  have h1 := h.mono hk1
  have hnlim : ¬ lim ≤ H1.n := by omega
  by_cases h0 : xs = []
  · subst h0
    refine ⟨.sl H.n 0 0 0, H1.set H.n (.cells true 3 []), ?_, ⟨by show H.n ≤ H1.n; omega, fun A hA _ => ?_, H.n, [], ⟨?_, by simp, .inl ⟨0, rfl, by simp, by simp⟩⟩, rfl, .inl rfl⟩, by show H1.n ≤ H.n + 2; omega⟩
    · simp only [appendE, ty22 hT, ty3 hT, t22, t3, srcOk, lenE_sl h1, cellsE_sl h1 (Nat.le_refl _), hb1, List.take_length, ones_ints]
      simp [hnlim, ints, splice]
    · rw [Heap.get_set (by omega) (by omega), if_neg (by omega)]; exact hk1 A hA
    · rw [Heap.get_set (by omega) (by omega), if_pos rfl]; rfl
  · have hpos : 0 < xs.length := List.length_pos_iff.2 h0
    have hsn : (H1.push (.cells true 3 (ints xs))).n = H1.n + 1 := rfl
    refine ⟨.slu H1.n 0 xs.length 1, H1.push (.cells true 3 (ints xs)), ?_, ⟨by omega, fun A hA _ => ?_, H1.n, xs, ⟨?_, Nat.le_refl _, .inr rfl⟩, List.take_length, .inr (by omega)⟩, by omega⟩
    · simp only [appendE, ty22 hT, ty3 hT, t22, t3, srcOk, lenE_sl h1, cellsE_sl h1 (Nat.le_refl _), hb1, List.take_length, ones_ints]
      simp [hnlim, h0]
      omega
    · rw [Heap.get_push (by omega), if_neg (by omega)]; exact hk1 A hA
    · rw [Heap.get_push (by omega), if_pos rfl]
end Go.PI
