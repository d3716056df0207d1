/- Own work of the verifier: PvStr2 PvRlow PvGvn PvCos PvGvd. -/
import Derived.Test.YtgmhmahdmbdngaaGreatDoorGvBI
import Derived.Test.YtgmhmahdmbdngaaGreatDoorGvAZ
import Derived.Test.YtgmhmahdmbdngaaGreatDoorGvBH
set_option linter.all false
set_option linter.deprecated false
open Go.Proofs
namespace Go.PI
open IM
set_option maxRecDepth 10000
set_option maxHeartbeats 4000000
theorem fn149 : ctx.fn 149 = some c149 := by kernel_rfl
theorem fn142 : ctx.fn 142 = some c142 := by kernel_rfl
def gcdL (g : Int) : List Int -> Int
  | [] => g
  | c :: cs => gcdL (Int.gcd g c) cs
theorem gcdL_one : ∀ cs : List Int, gcdL 1 cs = 1
  | [] => rfl
  | c :: cs => by
    show gcdL (Int.gcd 1 c : Int) cs = 1
    rw [Int.one_gcd]
    exact gcdL_one cs
theorem gcdL_pos : ∀ {cs : List Int} {g : Int}, 0 < g -> 0 < gcdL g cs
  | [], _, h => h
  | c :: cs, g, h => gcdL_pos (cs := cs) (by
    have : Int.gcd g c ≠ 0 := fun e => by rw [Int.gcd_eq_zero_iff] at e; omega
    omega)
theorem gcdL_le : ∀ {cs : List Int} {g : Int}, 0 < g -> gcdL g cs <= g
  | [], _, _ => Int.le_refl _
  | c :: cs, g, h => by
    have h1 : Int.gcd g c ≠ 0 := fun e => by rw [Int.gcd_eq_zero_iff] at e; omega
    have h2 : (Int.gcd g c : Int) <= g := Int.le_of_dvd h (Int.gcd_dvd_left g c)
    exact Int.le_trans (gcdL_le (cs := cs) (by omega)) h2
theorem gcdL_zeros : ∀ {cs : List Int} {g : Int}, 0 <= g -> (∀ x ∈ cs, x = 0) -> gcdL g cs = g
  | [], _, _, _ => rfl
  | c :: cs, g, h, hz => by
    have hc := hz c (by simp)
    subst hc
    show gcdL (Int.gcd g 0 : Int) cs = g
    rw [Int.gcd_zero_right, show (g.natAbs : Int) = g by omega]
    exact gcdL_zeros h fun x hx => hz x (by simp [hx])
theorem gcdL_app : ∀ {a b : List Int} {g : Int}, gcdL g (a ++ b) = gcdL (gcdL g a) b
  | [], _, _ => rfl
  | x :: a, b, g => gcdL_app (a := a)
def pNum (C : List Int) (d : Int) : PV := .agg [pR C, pI d]
def lowP (C : List Int) (d : Int) : PV := pNum ((trimL C).map fun x => x / gcdL d C) (d / gcdL d C)
theorem no_cells {a b c e d : Int} {i : Nat} {x : Int} (h : [a, b, c, e][i]? = some x) : [pI a, pI b, pI c, pI e, pI d][i]? = some (pI x) := by
  match i, h with
  | 0, h => cases h; rfl
  | 1, h => cases h; rfl
  | 2, h => cases h; rfl
  | 3, h => cases h; rfl
def Ol : Opn := ⟨fun t => Nat.beq t 61, fun t => Nat.beq t 61⟩
variable (S : FuncId -> Option (List AV -> Heap -> Option (AV × Heap)))
theorem store_ct (hS : OldI S) (h149 : S 149 = none) (h179 : S 179 = none) (h210 : S 210 = none) {a b c e d : Int} (hl : ∀ x ∈ [a, b, c, e], (digits x).length <= 400) (ld : (digits d).length <= 400) (hd : 0 < d) :
    Ct (ctx.plus S) 149 [pNo a b c e d] 30000000 fun r => r = lowP [a, b, c, e] d := by
  refine ctO_of Ol h149 fn149 ?_
  obtain ⟨C, hC⟩ : ∃ C, C = [a, b, c, e] := ⟨_, rfl⟩
  rw [← hC] at hl ⊢
  have hCl : C.length = 4 := by rw [hC]; rfl
  have cell : ∀ {i : Nat} {x : Int}, C[i]? = some x -> [pI a, pI b, pI c, pI e, pI d][i]? = some (pI x) := fun h => by rw [hC] at h; exact no_cells h
  have clen : ∀ {i : Nat} {x : Int}, C[i]? = some x -> (digits x).length <= 400 := fun h => hl _ (List.mem_of_getElem? h)
  refine ⟨by omega, by omega, ?_⟩
  refine ⟨fun m s => ∃ (i : Nat) (T : List PV), s = ⟨T, [.live 159 [pI a, pI b, pI c, pI e, pI d], .liv 61 [.nils, .nils]], 2⟩ /\ Gt T 67 [(1, .optr 0 0), (2, .optr 1 0), (3, pn i)] /\ m = i /\ i <= 4 /\ (∀ j, i <= j -> j < 4 -> C[j]? = some 0), ⟨4, ?_⟩, ?_⟩
  · exact ci ⟨4, _, rfl, ⟨rfl, rfl, rfl, rfl, trivial⟩, rfl, by omega, fun j h1 h2 => by omega⟩
  rintro m s ⟨i, T, rfl, hT, hm, hi, hz⟩
  obtain ⟨J, rfl⟩ := gt_open hT
  clear hT
  have up : ∀ {x : Int}, 0 < i -> C[i - 1]? = some x -> x = 0 -> ∀ j, i - 1 <= j -> j < 4 -> C[j]? = some 0 := fun hp hx h0 j h1 h2 => by
    by_cases hj : j = i - 1
    · subst hj; rw [hx, h0]
    · exact hz j (by omega) h2
  obtain ⟨x, hx⟩ : ∃ x, 0 < i -> C[i - 1]? = some x := by
    by_cases hp : 0 < i
    · exact ⟨C[i - 1]'(by omega), fun _ => List.getElem?_eq_getElem _⟩
    · exact ⟨0, fun h => absurd h hp⟩
  refine ⟨fun hgt => ⟨⟨by omega, by omega⟩, ⟨by omega, by omega⟩, pI x, load_own rfl (cell (hx (by omega))) (by show 0 + 0 + (_ : Int).toNat * 1 = i - 1; omega), fun h0 => ?loop, fun h0 => ?_⟩, fun hle => ?_⟩
  case loop =>
    refine ⟨⟨by omega, by omega⟩, ?_⟩
    have e1 : (i : Int) - 1 = ((i - 1 : Nat) : Int) := by omega
    rw [e1]
    exact ⟨i - 1, by omega, ci ⟨i - 1, _, rfl, ⟨rfl, rfl, rfl, rfl, trivial⟩, rfl, by omega, up (by omega) (hx (by omega)) (digits_nil.1 (List.eq_nil_of_length_eq_zero (by omega)))⟩⟩
  all_goals
    have ht : i = 0 ∨ ∃ x, C[i - 1]? = some x /\ x ≠ 0 := by
      first
        | exact .inl (by omega)
        | exact .inr ⟨x, hx (by omega), fun h => h0 (by subst h; rfl)⟩
    have hti : trimL C = C.take i := trim_is (by omega) (by rw [hCl]; exact hz) ht
    obtain ⟨G, hG⟩ : ∃ G, gcdL d C = G := ⟨_, rfl⟩
    have hGp : 0 < G := by rw [← hG]; exact gcdL_pos hd
    have hGi : gcdL d (C.take i) = G := by
      have h1 : gcdL d (C.take i ++ C.drop i) = G := by rw [List.take_append_drop]; exact hG
      rw [gcdL_app, gcdL_zeros (Int.le_of_lt (gcdL_pos hd)) fun y hy => by
        obtain ⟨j, hj⟩ := List.getElem?_of_mem hy
        rw [List.getElem?_drop] at hj
        have := (List.getElem?_eq_some_iff.1 hj).1
        rw [hz (i + j) (by omega) (by omega)] at hj
        exact (Option.some.inj hj).symm] at h1
      exact h1
    have hout : PV.agg [.lst i ((C.take i).map fun x => pI (x / G)), pI (d / G)] = lowP C d := by
      have hli : (C.take i).length = i := by simp; omega
      unfold lowP pNum pR
      rw [hti, hG, List.length_map, hli, List.map_map]
      rfl
    clear hx up hm
    refine ⟨_, rfl, ?_⟩
    refine ⟨⟨by omega, by omega⟩, _, rfl, ?_⟩
    refine ⟨fun m s => ∃ (j : Nat) (g : Int) (k : Nat) (T : List PV), s = ⟨T, [.live 159 [pI a, pI b, pI c, pI e, pI d], .liv 61 [.nils, .nils]], k⟩ /\ Gt T 67 [(1, .optr 0 0), (2, .optr 1 0), (3, pn i), (4, pI g), (26, .own 0 0 i 4 1), (27, pn i), (28, pn j)] /\ m = i - j /\ j <= i /\ 0 < g /\ g <= d /\ gcdL g ((C.take i).drop j) = G /\ k <= 2 + 6000000 * j, ⟨i, ?_⟩, ?_⟩
    · exact ci ⟨0, d, _, _, rfl, ⟨rfl, rfl, rfl, rfl, rfl, rfl, rfl, rfl, trivial⟩, rfl, by omega, hd, Int.le_refl _, by rw [List.drop_zero]; exact hGi, by omega⟩
    rintro _ s ⟨j, g, k, T, rfl, hT, rfl, hj, g0, gd, hg, hk⟩
    obtain ⟨J, rfl⟩ := gt_open hT
    clear hT
    have lg : (digits g).length <= 400 := Nat.le_trans (digits_len_le (by omega) gd) ld
    obtain ⟨x, hx⟩ : ∃ x, C[j]? = some x ∨ j = i := by
      by_cases hp : j < i
      · exact ⟨C[j]'(by omega), .inl (List.getElem?_eq_getElem _)⟩
      · exact ⟨0, .inr (by omega)⟩
    obtain ⟨β, hβ⟩ : ∃ β, decide (g = 1) = β := ⟨_, rfl⟩
    refine ⟨fun hlt => ⟨⟨by omega, by omega⟩, pI x, load_own rfl (cell (hx.resolve_right (by omega))) (by show 0 + (_ : Int).toNat * 1 = j; omega), callq rfl (isOne_ct S h179) (by omega) ?_⟩, fun hge => ?_⟩
    rintro _ rfl
    rw [hβ]
    cases β
    · have hxj := hx.resolve_right (by omega)
      refine callq rfl (gcd_ct S hS (by omega) (clen hxj)) (by omega) ?_
      rintro _ rfl
      refine ⟨⟨by omega, by omega⟩, ?_⟩
      have h1 : Int.gcd g x ≠ 0 := fun e => by rw [Int.gcd_eq_zero_iff] at e; omega
      have h2 : (Int.gcd g x : Int) <= g := Int.le_of_dvd g0 (Int.gcd_dvd_left g x)
      have hdr : (C.take i).drop j = x :: (C.take i).drop (j + 1) := drop_of_get (by rw [List.getElem?_take, if_pos (by omega)]; exact hxj)
      rw [hdr] at hg
      exact ⟨i - (j + 1), by omega, ci ⟨j + 1, _, _, _, rfl, ⟨rfl, rfl, rfl, rfl, rfl, rfl, rfl, rfl, trivial⟩, rfl, by omega, by omega, by omega, hg, by omega⟩⟩
    all_goals
      have eg : g = G := by
        first
          | (have h1 := of_decide_eq_true hβ
             rw [h1, gcdL_one] at hg
             omega)
          | (rw [List.drop_eq_nil_of_le (by simp; omega)] at hg
             exact hg)
      subst eg
      refine ⟨fun h0 => ?_, fun h0 => ?_⟩
      · have hi0 : i = 0 := by omega
        subst hi0
        refine ⟨by omega, part1 fzI ⟨[pn 1], rfl, ?_⟩⟩
        refine ⟨_, rfl, ?_⟩
        refine ⟨_, _, rfl, ⟨rfl, Nat.le_of_ble_eq_true rfl, rfl⟩, _, rfl, _, rfl, ?_⟩
        refine ⟨_, rfl, ?_⟩
        refine ⟨⟨[], 3, [pn 1], [pn 1], rfl, ⟨by decide, by decide⟩, rfl, ?_⟩⟩
        show PV.agg [.lst 0 [], .lst 1 [pn 1]] = _
        rw [← hout]
        have : d / g = 1 := by
          have : gcdL d (C.take 0) = d := rfl
          rw [← hGi, this]
          exact Int.ediv_self (by omega)
        rw [this]
        rfl
      · have hli : (C.take i).length = i := by simp; omega
        refine ⟨by kernel_rfl, ?_⟩
        refine ⟨by omega, ⟨by omega, by omega, by omega⟩, _, fillc_zero (f := fun x => pI (x / g)) (z := zI) (n := i), ?_⟩
        refine ⟨_, rfl, rfl, ?_⟩
        refine callq rfl (reduced_ct S hS h210 h179 (X := d) (g := g) (by omega) (by omega) (by omega)) (by omega) ?_
        rintro _ rfl
        refine ⟨_, rfl, ?_⟩
        refine ⟨by omega, ?_⟩
        refine ⟨_, _, rfl, ⟨rfl, Nat.le_of_ble_eq_true rfl, rfl⟩, _, rfl, _, rfl, ?_⟩
        refine ⟨_, rfl, ?_⟩
        refine ⟨fun m s => ∃ (j k : Nat) (T : List PV), s = ⟨T, [.live 159 [pI a, pI b, pI c, pI e, pI d], .liv 61 [.nils, .nils], .live 22 (fillc (fun x => pI (x / g)) zI i (C.take j)), .liv 61 [.own 2 0 i i 1, pI (d / g)]], k⟩ /\ Gt T 67 [(1, .optr 0 0), (2, .optr 1 0), (4, pI g), (7, .optr 3 0), (51, pn i), (52, pn j)] /\ m = i - j /\ j <= i /\ k <= 29000000 + 400 * j, ⟨i, ?_⟩, ?_⟩
        · exact ci ⟨0, _, _, rfl, ⟨rfl, rfl, rfl, rfl, rfl, rfl, rfl, trivial⟩, rfl, by omega, by omega⟩
        rintro _ s ⟨j, k, T, rfl, hT, rfl, hj, hk⟩
        obtain ⟨J, rfl⟩ := gt_open hT
        clear hT
        have hlj : (C.take j).length = j := by simp; omega
        refine ⟨fun hlt => ?_, fun hge => ?_⟩
        · obtain ⟨y, hy⟩ : ∃ y, C[j]? = some y := ⟨C[j]'(by omega), List.getElem?_eq_getElem _⟩
          refine ⟨by kernel_rfl, ?_⟩
          refine ⟨_, rfl, rfl, ?_⟩
          refine ⟨⟨by omega, by omega⟩, pI y, load_own rfl (cell hy) (by show 0 + 0 + (_ : Int).toNat * 1 = j; omega), rfl, ?_⟩
          refine callq rfl (reduced_ct S hS h210 h179 (X := y) (g := g) (by have := clen hy; omega) (by omega) (by omega)) (by omega) ?_
          rintro _ rfl
          refine ⟨⟨by omega, by omega⟩, ?_⟩
          refine ⟨_, _, rfl, ⟨rfl, ?_, rfl⟩, fillc (fun x => pI (x / g)) zI i (C.take (j + 1)), (fillc_next (f := fun x => pI (x / g)) (x := y) (by omega) (by rw [hlj]; show 0 + _ * 1 = j; omega)).trans (by rw [take_snoc hy]), _, rfl, ?_⟩
          · rw [fillc_len (by omega)]; show 0 + _ * 1 + 1 <= _; omega
          refine ⟨⟨by omega, by omega⟩, ?_⟩
          exact ⟨i - (j + 1), by omega, ci ⟨j + 1, _, _, rfl, ⟨rfl, rfl, rfl, rfl, rfl, rfl, rfl, trivial⟩, rfl, by omega, by omega⟩⟩
        · have e : j = i := by omega
          subst e
          refine ⟨_, rfl, ?_⟩
          refine ⟨_, _, rfl, ⟨rfl, Nat.le_of_ble_eq_true rfl, rfl⟩, _, rfl, _, rfl, ?_⟩
          refine ⟨_, rfl, ?_⟩
          refine ⟨⟨[], 22, _, _, rfl, ⟨?_, Nat.le_refl _⟩, fillc_done hlj, ?_⟩⟩
          · rw [fillc_len (by omega)]; omega
          · exact hout
theorem fn143 : ctx.fn 143 = some c143 := by kernel_rfl
theorem load_liv {C : Ctx} {σ : List StB} {j o : Nat} {t t' : TypeId} {i : TI} {cs : List PV} {v : PV} (hj : σ[j]? = some (.liv t cs)) (hi : C.ty t' = some i) (hv : partP i cs o = some v) : ploadE C σ t' (.optr j o) = some v := by
  have h1 : contOf σ j = none := by unfold contOf; rw [hj]; rfl
  unfold ploadE
  rw [hi]
  simp only [h1, livOf_of hj]
  exact hv
def Orl : Opn := ⟨fun t => Nat.beq t 61, fun t => Nat.beq t 61 || Nat.beq t 59 || Nat.beq t 22⟩
theorem Rw.nil : Rw [] 0 := ⟨fun e he => by simp at he, by simp, rfl, by decide⟩
theorem gcdL_natAbs {d : Int} : ∀ {cs : List Int}, gcdL (d.natAbs : Int) cs = gcdL (d.natAbs : Int) cs := rfl
def lowG (C : List Int) (d : Int) : Int := if d < 0 then -(gcdL d.natAbs C) else gcdL d.natAbs C
def lowR (C : List Int) (d : Int) : PV := pNum ((trimL C).map fun x => x / lowG C d) (d / lowG C d)
theorem lowest_ct (hR : OldR S) (h143 : S 143 = none) {Xs : List (List Int)} {C : List Int} {ds : List Int} {d : Int} (hX : All2 Rw Xs C) (hd : Rw ds d) (lC : ∀ x ∈ C, (digits x).length <= 18) (ldd : (digits d).length <= 18) (d0 : d ≠ 0) (hl : C.length <= 10) :
    Ct (ctx.plus S) 143 [pQ Xs, pIs ds] 200000000000 fun r => r = lowR C d := by
  refine ctO_of Orl h143 fn143 ?_
  have hXl := hX.length
  obtain ⟨D, hD⟩ : ∃ D : Int, (d.natAbs : Int) = D := ⟨_, rfl⟩
  have hDp : 0 < D := by omega
  have lD : (digits D).length <= 18 := by rw [← hD]; exact Nat.le_trans (Nat.le_of_eq (by have := abs_len (nrm_digits d); rwa [val_digits] at this)) ldd
  refine ⟨by omega, ?_⟩
  refine cal2 fzL fzN ((rgcd_ct S hR hd Rw.nil ldd (by decide)).post fun r h => h.trans (show _ = pI D by rw [Int.gcd_zero_right, hD])) (by omega) ?_
  rintro _ rfl
  refine ⟨fun m s => ∃ (i nn k : Nat) (T : List PV), s = ⟨T, [.liv 61 [.nils, .nils]], k⟩ /\ Gt T 71 [(0, pQ Xs), (1, pIs ds), (4, .optr 0 0), (5, pI (gcdL D (C.take i))), (6, pn nn), (7, pn i)] /\ m = C.length - i /\ i <= C.length /\ nn <= i /\ (∀ j, nn <= j -> j < i -> C[j]? = some 0) /\ Hid (nn = 0 ∨ ∃ x, C[nn - 1]? = some x /\ x ≠ 0) /\ k <= 1 + 16000000000 + 16000200000 * i, ⟨C.length, ?_⟩, ?_⟩
  · exact ci ⟨0, 0, _, _, rfl, ⟨rfl, rfl, rfl, rfl, rfl, rfl, rfl, trivial⟩, rfl, Nat.zero_le _, Nat.le_refl _, (fun j h1 h2 => by omega), .mk (.inl rfl), by omega⟩
  rintro m s ⟨i, nn, k, T, rfl, hT, hm, hi, hnn, hz, ht, hk⟩
  obtain ⟨J, rfl⟩ := gt_open hT
  clear hT
  have hgp : 0 < gcdL D (C.take i) := gcdL_pos hDp
  have lg : (digits (gcdL D (C.take i))).length <= 18 := Nat.le_trans (digits_len_le (Int.le_of_lt hgp) (gcdL_le hDp)) lD
  refine ⟨fun hlt => ?_, fun hge => ?_⟩
  · obtain ⟨xs, hxi, hxr⟩ := rw_get hX (i := i) (by omega)
    obtain ⟨x, hx⟩ : ∃ x, C.getD i 0 = x := ⟨_, rfl⟩
    have he : C[i]? = some x := by rw [← hx]; exact get_at (by omega)
    rw [hx] at hxr
    have hlx := lC x (List.mem_of_getElem? he)
    refine ⟨⟨⟨by omega, by omega⟩, len_map_le (by omega)⟩, _, ld (at_map hxi) (by show _ * 1 = i; omega), ?_⟩
    have hstep : gcdL D (C.take (i + 1)) = (Int.gcd (gcdL D (C.take i)) x : Int) := by rw [take_snoc he, gcdL_app]; rfl
    refine callq rfl ((rgcd_ct S hR (Rw.of (by omega)) hxr lg hlx).post fun r h => h.trans (congrArg pI hstep.symm)) (by omega) ?_
    rintro _ rfl
    refine ⟨⟨⟨by omega, by omega⟩, len_map_le (by omega)⟩, _, ld (at_map hxi) (by show _ * 1 = i; omega), ?_⟩
    refine callq rfl (rsign_ct S hR hxr) (by omega) ?_
    rintro _ rfl
    refine ⟨fun h0 => ?_, fun h0 => ?_⟩
    · refine ⟨⟨by omega, by omega⟩, ⟨by omega, by omega⟩, ?_⟩
      exact ⟨C.length - (i + 1), by omega, ci ⟨i + 1, i + 1, _, _, rfl, ⟨rfl, rfl, rfl, rfl, rfl, rfl, rfl, trivial⟩, rfl, by omega, Nat.le_refl _, (fun j h1 h2 => by omega), .mk (.inr ⟨x, he, fun h => h0 (by rw [h]; rfl)⟩), by omega⟩⟩
    · refine ⟨⟨by omega, by omega⟩, ?_⟩
      refine ⟨C.length - (i + 1), by omega, ci ⟨i + 1, nn, _, _, rfl, ⟨rfl, rfl, rfl, rfl, rfl, rfl, rfl, trivial⟩, rfl, by omega, by omega, fun j h1 h2 => ?_, ht, by omega⟩⟩
      by_cases hj : j = i
      · rw [hj, he]
        have : x = 0 := by
          rcases sign_cases x with ⟨_, h⟩ | ⟨h, _⟩ | ⟨_, h⟩
          · omega
          · exact h
          · omega
        rw [this]
      · exact hz j h1 (by omega)
  · have ei : i = C.length := by omega
    subst ei
    rw [List.take_length] at hgp lg ⊢
    obtain ⟨G, hG⟩ : ∃ G, gcdL D C = G := ⟨_, rfl⟩
    rw [hG] at hgp lg ⊢
    have hti : trimL C = C.take nn := trim_is hnn hz ht.h
    have hnl : (C.take nn).length = nn := by simp; omega
    obtain ⟨g, hg⟩ : ∃ g, lowG C d = g := ⟨_, rfl⟩
    have hg' : g = if d < 0 then -G else G := by rw [← hg, ← hG, ← hD]; rfl
    have hg0 : g ≠ 0 := by rw [hg']; split <;> omega
    have lgg : (digits g).length <= 18 := by
      rw [hg']; split
      · exact Nat.le_trans (dlen_le (by omega)) lg
      · exact lg
    have hout : PV.agg [.lst nn ((C.take nn).map fun x => pI (x / g)), pI (d / g)] = lowR C d := by
      unfold lowR pNum pR
      rw [hti, hg, List.length_map, hnl, List.map_map]
      rfl
    refine callq rfl (rsign_ct S hR hd) (by omega) ?_
    rintro _ rfl
    rcases Decidable.em (d < 0) with hdn | hdn
    all_goals
      first
        | (rw [if_pos hdn] at hg'
           rw [Int.sign_eq_neg_one_of_neg hdn]
           refine ⟨fun _ => ?_, fun h => absurd h (by omega)⟩
           refine callq rfl ((rneg_ct S hR (X := G) (Rw.of (by omega))).post fun r h => h.trans (congrArg pI hg'.symm)) (by omega) ?_
           rintro _ rfl)
        | (rw [if_neg hdn] at hg'
           rw [Int.sign_eq_one_of_pos (show 0 < d by omega), ← hg']
           refine ⟨fun h => absurd h (by omega), fun _ => ?_⟩)
      refine ⟨_, rfl, ?_⟩
      refine ⟨by omega, ?_⟩
      refine ⟨_, _, rfl, ⟨rfl, Nat.le_of_ble_eq_true rfl, rfl⟩, _, rfl, _, rfl, ?_⟩
      refine ⟨fun m s => ∃ (j k' : Nat) (v : PV) (σ : List StB) (T : List PV), s = ⟨T, σ, k'⟩ /\ Gt T 71 [(0, pQ Xs), (1, pIs ds), (4, .optr 0 0), (5, pI g), (6, pn nn), (8, .optr 1 0), (9, pn j)] /\ m = nn - j /\ j <= nn /\ σ[0]? = some (.liv 61 [.nils, .nils]) /\ σ[1]? = some (.liv 61 [v, .nils]) /\ Gr pI 22 v σ ((C.take j).map fun x => x / g) /\ (∀ b, blkOf v = some b -> 2 <= b) /\ k' <= k + 300000 + 20000010 * j, ⟨nn, ?_⟩, ?_⟩
      · exact ci ⟨0, _, .nils, _, _, rfl, ⟨rfl, rfl, rfl, rfl, rfl, rfl, rfl, rfl, trivial⟩, rfl, Nat.zero_le _, rfl, rfl, Gr.nil, (fun b h => by cases h), by omega⟩
      rintro _ s ⟨j, k', v, σ, T, rfl, hT, rfl, hj, hs0, hs1, hgr, hbv, hk'⟩
      obtain ⟨J, rfl⟩ := gt_open hT
      clear hT
      refine ⟨fun hlt => ?_, fun hge => ?_⟩
      · obtain ⟨xs, hxi, hxr⟩ := rw_get hX (i := j) (by omega)
        obtain ⟨x, hx⟩ : ∃ x, C.getD j 0 = x := ⟨_, rfl⟩
        have he : C[j]? = some x := by rw [← hx]; exact get_at (by omega)
        rw [hx] at hxr
        have hlx := lC x (List.mem_of_getElem? he)
        refine ⟨⟨⟨by omega, by omega⟩, len_map_le (by omega)⟩, _, ld (at_map hxi) (by show _ * 1 = j; omega), ?_⟩
        refine callq rfl (rdivmod_ct S hR hxr (Rw.of (by omega)) hlx lgg hg0) (by omega) ?_
        rintro _ rfl
        refine ⟨v, load_liv hs1 rfl rfl, ?_⟩
        refine ⟨by omega, part1 fzL ⟨[pI (x / g)], rfl, ?_⟩⟩
        refine appG (f := pI) (e := 22) (y := x / g) hgr.push push_cont rfl rfl rfl rfl (by kernel_rfl) rfl rfl (by simp; omega) (by omega) fun v' σ' hv' hkp hbv' => ?_
        have hne : ∀ b, blkOf v = some b -> ∀ i : Nat, i < 2 -> blkOf v ≠ some i := fun b h i hi e => by have := hbv i e; omega
        have hpc : v'.pcells = [v'] /\ pones [v'] = true := by
          rcases hv' with ⟨rfl, _⟩ | ⟨_, _, rfl, _⟩ | ⟨_, rfl, _⟩ <;> exact ⟨rfl, rfl⟩
        have hold : ∀ {i : Nat} {b : StB}, i < 2 -> σ[i]? = some b -> σ'[i]? = some b := fun {i b} hi hb => hkp i b (fun e => by have := hbv i e; omega) (by rw [List.getElem?_append_left (List.getElem?_eq_some_iff.1 hb).1]; exact hb)
        refine ⟨_, _, hold (by decide) hs1, ⟨by rw [hpc.1]; rfl, Nat.le_of_ble_eq_true rfl, by rw [hpc.1]; exact hpc.2⟩, [v', .nils], by rw [hpc.1]; rfl, _, rfl, ?_⟩
        refine ⟨⟨by omega, by omega⟩, ?_⟩
        have hl1 := (List.getElem?_eq_some_iff.1 (hold (by decide) hs1)).1
        have hvb : blkOf v' ≠ some 1 := by
          have := (List.getElem?_eq_some_iff.1 hs1).1
          rw [hbv']
          intro e
          have e2 := Option.some.inj e
          rw [List.length_append, List.length_singleton] at e2
          omega
        refine ⟨nn - (j + 1), by omega, ci ⟨j + 1, _, v', _, _, rfl, ⟨rfl, rfl, rfl, rfl, rfl, rfl, rfl, rfl, trivial⟩, rfl, by omega, ?_, ?_, ?_, ?_, by omega⟩⟩
        · rw [List.getElem?_set_ne (by decide)]; exact hold (by decide) hs0
        · rw [List.getElem?_set_self hl1]
        · rw [take_snoc he, List.map_append]
          exact hv'.keep fun i b hi hb => by
            rw [List.getElem?_set_ne (fun e => hvb (by rw [hi, ← e]))]
            exact hb
        · intro b hb
          rw [hbv'] at hb
          have := (List.getElem?_eq_some_iff.1 hs1).1
          simp at hb
          omega
      · have ej : j = nn := by omega
        subst ej
        refine callq rfl (rdivmod_ct S hR hd (Rw.of (by omega)) ldd lgg hg0) (by omega) ?_
        rintro _ rfl
        refine ⟨_, _, hs1, ⟨rfl, Nat.le_of_ble_eq_true rfl, rfl⟩, [v, pI (d / g)], rfl, _, rfl, ?_⟩
        have hl1 := (List.getElem?_eq_some_iff.1 hs1).1
        refine ⟨.agg [v, pI (d / g)], load_liv (List.getElem?_set_self hl1) rfl rfl, ?_⟩
        have hpc : pones [v, pI (d / g)] = true := by
          rcases hgr with ⟨rfl, _⟩ | ⟨_, _, rfl, _⟩ | ⟨_, rfl, _⟩ <;> rfl
        refine ⟨_, _, (by rw [List.getElem?_set_ne (by decide)]; exact hs0), ⟨rfl, Nat.le_of_ble_eq_true rfl, hpc⟩, [v, pI (d / g)], rfl, _, rfl, ?_⟩
        have hl0 := (List.getElem?_eq_some_iff.1 hs0).1
        refine ⟨.agg [v, pI (d / g)], load_liv (List.getElem?_set_self (by rw [List.length_set]; exact hl0)) rfl rfl, ?_⟩
        have hgr2 : Gr pI 22 v ((σ.set 1 (.liv 61 [v, pI (d / g)])).set 0 (.liv 61 [v, pI (d / g)])) ((C.take j).map fun x => x / g) := hgr.keep fun i b hi hb => by
          have := hbv i hi
          rw [List.getElem?_set_ne (by omega), List.getElem?_set_ne (by omega)]
          exact hb
        have hfin : PV.agg [.lst ((C.take j).map fun x => x / g).length (((C.take j).map fun x => x / g).map pI), pI (d / g)] = lowR C d := by
          rw [← hout, List.length_map, hnl, List.map_map]
          rfl
        rcases hgr2 with ⟨rfl, h0⟩ | ⟨jj, ty, rfl, h⟩ | ⟨jj, rfl, h⟩
        · rw [h0] at hfin
          exact ⟨⟨[], hfin⟩⟩
        · exact ⟨⟨[], ty, _, _, h, ⟨by simp, Nat.le_refl _⟩, by rw [List.drop_zero, List.take_of_length_le (by simp)], hfin⟩⟩
        · exact ⟨⟨[], 22, _, _, contOf_live h, ⟨by simp, fun _ => rfl⟩, by rw [List.take_of_length_le (by simp)], hfin⟩⟩
theorem fn50 : ctx.fn 50 = some c50 := by kernel_rfl
theorem fn51 : ctx.fn 51 = some c51 := by kernel_rfl
theorem fn52 : ctx.fn 52 = some c52 := by kernel_rfl
theorem fn53 : ctx.fn 53 = some c53 := by kernel_rfl
theorem fn54 : ctx.fn 54 = some c54 := by kernel_rfl
theorem fn55 : ctx.fn 55 = some c55 := by kernel_rfl
theorem fn56 : ctx.fn 56 = some c56 := by kernel_rfl
theorem fn57 : ctx.fn 57 = some c57 := by kernel_rfl
theorem fn58 : ctx.fn 58 = some c58 := by kernel_rfl
theorem fn144 : ctx.fn 144 = some c144 := by kernel_rfl
def fracP (a b : Int) : PV := if b < 0 then lowP [-a, 0, 0, 0] (-b) else lowP [a, 0, 0, 0] b
theorem frac_num (a b : Int) : ∃ L D, fracP a b = pNum L D := by
 unfold fracP
 split <;> exact ⟨_, _, rfl⟩
theorem trimL_pad (a : Int) : trimL [a, 0, 0, 0] = trimL [a] := rfl
theorem gcdL_pad {a d : Int} : gcdL d [a, 0, 0, 0] = gcdL d [a] := by
 show gcdL (Int.gcd d a : Int) [0, 0, 0] = Int.gcd d a
 exact gcdL_zeros (Int.natCast_nonneg _) (by simp)
theorem frac_same {a b : Int} (hb : b ≠ 0) : fracP a b = lowR [a] b := by
 have tr : ∀ {f : Int -> Int} {a' : Int}, (a' = 0 ↔ a = 0) -> (f a' = f a') -> True := fun _ _ => trivial
 unfold fracP lowP lowR lowG
 rw [trimL_pad, trimL_pad, gcdL_pad, gcdL_pad]
 have hg : (Int.gcd (b.natAbs : Int) a : Int) ≠ 0 := fun e => by
  have : Int.gcd (b.natAbs : Int) a = 0 := by omega
  rw [Int.gcd_eq_zero_iff] at this
  omega
 have hda : (Int.gcd (b.natAbs : Int) a : Int) ∣ a := Int.gcd_dvd_right _ _
 have hdb : (Int.gcd (b.natAbs : Int) a : Int) ∣ b := Int.dvd_trans (Int.gcd_dvd_left _ _) (Int.natAbs_dvd.2 (Int.dvd_refl b))
 split
 ·rename_i h
  have e1 : gcdL (-b) [-a] = (Int.gcd (b.natAbs : Int) a : Int) := by
   show (Int.gcd (-b) (-a) : Int) = _
   rw [Int.gcd_neg, show -b = (b.natAbs : Int) by omega]
  have e2 : gcdL (b.natAbs : Int) [a] = (Int.gcd (b.natAbs : Int) a : Int) := rfl
  rw [e1, e2]
  generalize (Int.gcd (b.natAbs : Int) a : Int) = g at hg hda hdb ⊢
  have ea : -a / g = a / -g := by rw [Int.neg_ediv_of_dvd hda, Int.ediv_neg]
  have eb : -b / g = b / -g := by rw [Int.neg_ediv_of_dvd hdb, Int.ediv_neg]
  rw [eb]
  by_cases h0 : a = 0
  ·subst h0; rfl
  ·have t1 : trimL [-a] = [-a] := trim_of_top (.inr ⟨[], -a, rfl, by omega⟩)
   have t2 : trimL [a] = [a] := trim_of_top (.inr ⟨[], a, rfl, h0⟩)
   rw [t1, t2]
   simp only [List.map_cons, List.map_nil, ea]
 ·rename_i h
  rw [show (b.natAbs : Int) = b by omega]
structure OldN (S : FuncId -> Option (List AV -> Heap -> Option (AV × Heap))) : Prop where
 i : OldI S
 r : OldR S
 h23 : S 23 = none
 h50 : S 50 = none
 h51 : S 51 = none
 h52 : S 52 = none
 h53 : S 53 = none
 h54 : S 54 = none
 h55 : S 55 = none
 h56 : S 56 = none
 h57 : S 57 = none
 h58 : S 58 = none
 h142 : S 142 = none
 h143 : S 143 = none
 h144 : S 144 = none
 h149 : S 149 = none
 h179 : S 179 = none
 h207 : S 207 = none
 h210 : S 210 = none
 h215 : S 215 = none
theorem d0 : digits 0 = [] := rfl
theorem fraction_ct (hN : OldN S) {a b : Int} (la : (digits a).length <= 300) (lb : (digits b).length <= 300) (hb : b ≠ 0) : Ct (ctx.plus S) 142 [pI a, pI b] 31000000 fun r => r = fracP a b := by
 refine ct_of hN.h142 fn142 ?_
 have z : (digits 0).length <= 400 := by decide
 refine ⟨by omega, part1 fzL ⟨_, rfl, ?_⟩⟩
 refine ⟨by omega, ?_⟩
 refine ⟨_, _, rfl, ⟨rfl, Nat.le_of_ble_eq_true rfl, rfl⟩, _, rfl, _, rfl, ?_⟩
 refine ⟨⟨by decide, by decide⟩, ?_⟩
 refine ⟨_, _, rfl, ⟨rfl, Nat.le_of_ble_eq_true rfl, rfl⟩, _, rfl, _, rfl, ?_⟩
 refine ⟨pNo a 0 0 0 b, rfl, ?_⟩
 refine callq rfl (upright_ct S hN.i hN.h215 hN.h207 (a := a) (b := 0) (c := 0) (e := 0) (d := b) (by omega) (by omega) (by omega) (by omega) (by omega)) (by omega) ?_
 rintro _ rfl
 unfold fracP
 have ln : ∀ {x : Int}, (digits x).length <= 300 -> (digits (-x)).length <= 400 := fun h => Nat.le_trans (dlen_le (by omega)) (Nat.le_trans h (by decide))
 rcases Decidable.em (b < 0) with h | h
 ·rw [if_pos h, if_pos h]
  refine callq rfl (store_ct S hN.i hN.h149 hN.h179 hN.h210 (a := -a) (b := 0) (c := 0) (e := 0) (d := -b) (fun x hx => ?_) (ln lb) (by omega)) (by omega) ?_
  ·simp at hx
   rcases hx with rfl | rfl
   ·exact ln la
   ·exact z
  ·rintro _ rfl
   refine ⟨_, _, rfl, ⟨rfl, Nat.le_of_ble_eq_true rfl, rfl⟩, _, rfl, _, rfl, ?_⟩
   exact ⟨_, rfl, endq rfl rfl⟩
 ·rw [if_neg h, if_neg h]
  refine callq rfl (store_ct S hN.i hN.h149 hN.h179 hN.h210 (a := a) (b := 0) (c := 0) (e := 0) (d := b) (fun x hx => ?_) (by omega) (by omega)) (by omega) ?_
  ·simp at hx
   rcases hx with rfl | rfl
   ·omega
   ·exact z
  ·rintro _ rfl
   refine ⟨_, _, rfl, ⟨rfl, Nat.le_of_ble_eq_true rfl, rfl⟩, _, rfl, _, rfl, ?_⟩
   exact ⟨_, rfl, endq rfl rfl⟩
theorem len64 {n : Int} (h : In64 n) : (digits n).length <= 3 := by
 have h1 : pw 3 = 1000000000000000000000000 := by decide
 refine len_of ?_
 unfold In64 at h
 omega
theorem whole_ct (hN : OldN S) {n : Int} (hn : In64 n) : Ct (ctx.plus S) 57 [pn n] 32000000 fun r => r = fracP n 1 := by
 refine ct_of hN.h57 fn57 ?_
 have l := len64 hn
 refine ⟨by omega, ?_⟩
 refine callq rfl (of_ct S hN.i.o hN.i.h26 hn) (by omega) ?_
 rintro _ rfl
 refine ⟨by omega, part1 fzI ⟨[pn 1], rfl, ?_⟩⟩
 obtain ⟨L, D, hf⟩ := frac_num n 1
 rw [hf]
 refine cal2 fzL (fz_own (n := 1) (c := 1) (cs' := [pn 1]) rfl (Nat.le_refl 1) (by decide) rfl) ((fraction_ct S hN (a := n) (b := 1) (by omega) (by decide) (by decide)).post fun r h => h.trans hf) (by omega) ?_
 rintro _ rfl
 refine ⟨_, _, rfl, ⟨rfl, Nat.le_of_ble_eq_true rfl, rfl⟩, _, rfl, _, rfl, ?_⟩
 exact ⟨_, rfl, endq rfl rfl⟩
theorem Rw.w64 {n : Int} (h : In64 n) : Rw [n] n := ⟨fun e he => by simp at he; rw [he]; exact h, by simp, by simp [IM.val], by have := len64 h; omega⟩
def numZ : PV := .agg [.lst 0 [], .lst 0 []]
theorem ratio_ct (hN : OldN S) {a b : Int} (ha : In64 a) (hb : In64 b) : Ct (ctx.plus S) 52 [pn a, pn b] 32000000 fun r => r = if b = 0 then .tup [numZ, pn 12] else .tup [fracP a b, pn 0] := by
 refine ct_of hN.h52 fn52 ?_
 have la := len64 ha
 have lb := len64 hb
 refine ⟨by omega, ?_⟩
 refine ⟨fun h0 => ?_, fun h0 => ?_⟩
 ·rw [if_pos h0]
  refine part0 ⟨_, rfl, ?_⟩
  refine ⟨_, _, rfl, ⟨rfl, Nat.le_of_ble_eq_true rfl, rfl⟩, _, rfl, _, rfl, ?_⟩
  exact ⟨_, rfl, endsq rfl rfl⟩
 ·rw [if_neg h0]
  refine callq rfl (of_ct S hN.i.o hN.i.h26 ha) (by omega) ?_
  rintro _ rfl
  refine callq rfl (of_ct S hN.i.o hN.i.h26 hb) (by omega) ?_
  rintro _ rfl
  obtain ⟨L, D, hf⟩ := frac_num a b
  rw [hf]
  refine callq rfl ((fraction_ct S hN (a := a) (b := b) (by omega) (by omega) h0).post fun r h => h.trans hf) (by omega) ?_
  rintro _ rfl
  refine ⟨_, _, rfl, ⟨rfl, Nat.le_of_ble_eq_true rfl, rfl⟩, _, rfl, _, rfl, ?_⟩
  exact ⟨_, rfl, endsq rfl rfl⟩
theorem rwhole_ct (hN : OldN S) {n : Int} (hn : In64 n) : Ct (ctx.plus S) 58 [pn n] 200000000100 fun r => r = fracP n 1 := by
 refine ct_of hN.h58 fn58 ?_
 have l := len64 hn
 refine ⟨by omega, ?_⟩
 refine ⟨by omega, part1 fzI ⟨[pn n], rfl, ?_⟩⟩
 refine ⟨by omega, part1 (fz_own (n := 1) (c := 1) (cs' := [pn n]) rfl (Nat.le_refl 1) (by decide) rfl) ⟨[pIs [n]], rfl, ?_⟩⟩
 refine ⟨by omega, part1 fzI ⟨[pn 1], rfl, ?_⟩⟩
 obtain ⟨L, D, hf⟩ := frac_num n 1
 rw [hf]
 refine cal2 (fz_own (n := 1) (c := 1) (cs' := [pIs [n]]) rfl (Nat.le_refl 1) (by decide) rfl) (fz_own (n := 1) (c := 1) (cs' := [pn 1]) rfl (Nat.le_refl 1) (by decide) rfl)
  ((lowest_ct S hN.r hN.h143 (Xs := [[n]]) (C := [n]) (ds := [1]) (d := 1) (.cons (Rw.w64 hn) .nil) (Rw.one (by omega)) (fun x hx => by simp at hx; rw [hx]; omega) (by decide) (by decide) (by simp)).post fun r h => h.trans ((frac_same (by decide)).symm.trans hf)) (by omega) ?_
 rintro _ rfl
 refine ⟨_, _, rfl, ⟨rfl, Nat.le_of_ble_eq_true rfl, rfl⟩, _, rfl, _, rfl, ?_⟩
 exact ⟨_, rfl, endq rfl rfl⟩
theorem rratio_ct (hN : OldN S) {a b : Int} (ha : In64 a) (hb : In64 b) : Ct (ctx.plus S) 53 [pn a, pn b] 200000000100 fun r => r = if b = 0 then .tup [numZ, pn 12] else .tup [fracP a b, pn 0] := by
 refine ct_of hN.h53 fn53 ?_
 have la := len64 ha
 have lb := len64 hb
 refine ⟨by omega, ?_⟩
 refine ⟨fun h0 => ?_, fun h0 => ?_⟩
 ·rw [if_pos h0]
  refine part0 ⟨_, rfl, ?_⟩
  refine ⟨_, _, rfl, ⟨rfl, Nat.le_of_ble_eq_true rfl, rfl⟩, _, rfl, _, rfl, ?_⟩
  exact ⟨_, rfl, endsq rfl rfl⟩
 ·rw [if_neg h0]
  obtain ⟨L, D, hf⟩ := frac_num a b
  rw [hf]
  refine ⟨by omega, part1 fzI ⟨[pn a], rfl, ?_⟩⟩
  refine ⟨by omega, part1 (fz_own (n := 1) (c := 1) (cs' := [pn a]) rfl (Nat.le_refl 1) (by decide) rfl) ⟨[pIs [a]], rfl, ?_⟩⟩
  refine ⟨by omega, part1 fzI ⟨[pn b], rfl, ?_⟩⟩
  refine cal2 (fz_own (n := 1) (c := 1) (cs' := [pIs [a]]) rfl (Nat.le_refl 1) (by decide) rfl) (fz_own (n := 1) (c := 1) (cs' := [pn b]) rfl (Nat.le_refl 1) (by decide) rfl)
   ((lowest_ct S hN.r hN.h143 (Xs := [[a]]) (C := [a]) (ds := [b]) (d := b) (.cons (Rw.w64 ha) .nil) (Rw.w64 hb) (fun x hx => by simp at hx; rw [hx]; omega) (by omega) h0 (by simp)).post fun r h => h.trans ((frac_same h0).symm.trans hf)) (by omega) ?_
  rintro _ rfl
  refine ⟨_, _, rfl, ⟨rfl, Nat.le_of_ble_eq_true rfl, rfl⟩, _, rfl, _, rfl, ?_⟩
  exact ⟨_, rfl, endsq rfl rfl⟩
/-! ### comparisons -/
theorem lists_ct2 (hN : OldN S) {L : List Int} (hL : ∀ x ∈ L, (digits x).length <= 1000000) (hl : L.length <= 1000000) : Ct (ctx.plus S) 144 [pR L, pR L] 1000001 fun r => r = .bool true := by
 refine ct_of hN.h144 fn144 ?_
 refine ⟨fun h => absurd rfl h, fun _ => ?_⟩
 refine ⟨fun m s => ∃ (i k : Nat) (T : List PV), s = ⟨T, [], k⟩ /\ Gt T 27 [(0, pR L), (1, pR L), (5, pn i)] /\ m = L.length - i /\ i <= L.length /\ k <= i, ⟨L.length, ?_⟩, ?_⟩
 ·exact ci ⟨0, _, _, rfl, ⟨rfl, rfl, rfl, rfl, trivial⟩, rfl, Nat.zero_le _, Nat.le_refl _⟩
 rintro _ s ⟨i, k, T, rfl, hT, rfl, hi, hk⟩
 obtain ⟨J, rfl⟩ := gt_open hT
 clear hT
 refine ⟨fun hlt => ?_, fun hge => endq rfl rfl⟩
 obtain ⟨x, hx⟩ : ∃ x, L[i]? = some x := ⟨L[i]'(by omega), List.getElem?_eq_getElem _⟩
 refine ⟨by kernel_rfl, ?_⟩
 refine ⟨⟨⟨by omega, by omega⟩, len_map_le (by omega)⟩, _, ld (at_map hx) (by show _ * 1 = i; omega), rfl, ?_⟩
 refine ⟨⟨⟨by omega, by omega⟩, len_map_le (by omega)⟩, _, ld (at_map hx) (by show _ * 1 = i; omega), rfl, ?_⟩
 refine callq rfl (ints_ct S hN.h23 (xs := digits x) (hL x (List.mem_of_getElem? hx))) (by omega) ?_
 rintro _ rfl
 refine ⟨⟨by omega, by omega⟩, ?_⟩
 exact ⟨L.length - (i + 1), by omega, ci ⟨i + 1, _, _, rfl, ⟨rfl, rfl, rfl, rfl, trivial⟩, rfl, by omega, by omega⟩⟩
theorem samenum_ct (hN : OldN S) {L : List Int} {d : Int} (hL : ∀ x ∈ L, (digits x).length <= 1000000) (hl : L.length <= 1000000) (hd : (digits d).length <= 1000000) : Ct (ctx.plus S) 54 [pNum L d, pNum L d] 1000010 fun r => r = .bool true := by
 refine ct_of hN.h54 fn54 ?_
 refine ⟨by omega, by omega, ?_⟩
 refine ⟨_, rfl, _, rfl, ?_⟩
 refine callq rfl (lists_ct2 S hN hL hl) (by omega) ?_
 rintro _ rfl
 refine ⟨_, rfl, _, rfl, ?_⟩
 refine callq rfl (ints_ct S hN.h23 (xs := digits d) hd) (by omega) ?_
 rintro _ rfl
 exact endq rfl rfl
/-! ### cosines -/
def cosP (n : Int) : List Int × Int × Int × Int × Int :=
 if n = 1 then ([2, 1], -2, -2, 1, 0) else if n = 2 then ([0, 1], 0, 0, 1, 0) else if n = 3 then ([-1, 1], 1, 1, 1, 0) else if n = 4 then ([-2, 0, 1], 1, 2, 1, 0)
 else if n = 5 then ([-1, -1, 1], 3, 4, 2, 0) else if n = 6 then ([-3, 0, 1], 3, 4, 2, 0) else if n = 7 then ([1, -2, -1, 1], 3, 4, 2, 0) else if n = 8 then ([2, 0, -4, 0, 1], 3, 4, 2, 0)
 else if n = 9 then ([-1, -3, 0, 1], 3, 4, 2, 0) else if n = 10 then ([5, 0, -5, 0, 1], 3, 4, 2, 0) else if n = 12 then ([1, 0, -4, 0, 1], 3, 4, 2, 0) else if n = 15 then ([1, -4, -4, 1, 1], 3, 4, 2, 0)
 else ([], 0, 0, 0, 2)
def cosR (n : Int) : PV := .tup [pF (cosP n).1 (cosP n).2.1 (cosP n).2.2.1 (cosP n).2.2.2.1, pn (cosP n).2.2.2.2]
theorem rational_ct (hN : OldN S) : Ct (ctx.plus S) 55 [] 10 fun r => r = pF [0, 1] 0 0 1 := by
 refine ct_of hN.h55 fn55 ?_
 refine ⟨by omega, ?_⟩
 refine ⟨by omega, part2 fzI fzI ⟨[pn 0, pn 1], rfl, ?_⟩⟩
 refine part2 (fz_own (n := 2) (c := 2) (cs' := [pn 0, pn 1]) rfl (Nat.le_refl 2) (by decide) rfl) fzI ⟨[pIs [0, 1], pn 0, pn 0, pn 1], rfl, ?_⟩
 refine ⟨_, _, rfl, ⟨rfl, Nat.le_of_ble_eq_true rfl, rfl⟩, _, rfl, _, rfl, ?_⟩
 exact ⟨_, rfl, endq rfl rfl⟩
theorem rrational_ct (hN : OldN S) : Ct (ctx.plus S) 56 [] 10 fun r => r = pF [0, 1] 0 0 1 := by
 refine ct_of hN.h56 fn56 ?_
 refine ⟨by omega, ?_⟩
 refine ⟨by omega, part2 fzI fzI ⟨[pn 0, pn 1], rfl, ?_⟩⟩
 refine part2 (fz_own (n := 2) (c := 2) (cs' := [pn 0, pn 1]) rfl (Nat.le_refl 2) (by decide) rfl) fzI ⟨[pIs [0, 1], pn 0, pn 0, pn 1], rfl, ?_⟩
 refine ⟨_, _, rfl, ⟨rfl, Nat.le_of_ble_eq_true rfl, rfl⟩, _, rfl, _, rfl, ?_⟩
 exact ⟨_, rfl, endq rfl rfl⟩
theorem partc {σ : List StB} : ∀ {l : List (Nat × PV)} {K : List (Nat × PV) -> List StB -> Prop}, (l.all fun p => cloA p.2) = true -> K l σ -> PartK σ l K
 | [], _, _, h => ⟨h⟩
 | (i, p) :: l, K, hc, h => by
  simp only [List.all_cons, Bool.and_eq_true] at hc
  exact ⟨frzAK_clo hc.1 (partc (K := fun ps' σ'' => K ((i, p) :: ps') σ'') hc.2 h).out⟩
theorem cosine_ct (hN : OldN S) {n : Int} : Ct (ctx.plus S) 50 [pn n] 100 fun r => r = cosR n := by
 refine ct_of hN.h50 fn50 ?_
 refine ⟨by omega, ?_⟩
 refine partc rfl ⟨_, rfl, ?_⟩
 refine ⟨by omega, ?_⟩
 refine ⟨_, _, rfl, ⟨rfl, Nat.le_of_ble_eq_true rfl, rfl⟩, _, rfl, _, rfl, ?_⟩
 refine ⟨fun h1 => ?_, fun h1 => ?_⟩
 ·subst h1
  refine ⟨by omega, partc rfl ⟨[pn 2, pn 1], rfl, ?_⟩⟩
  refine part4 (fz_own (n := 2) (c := 2) (cs' := [pn 2, pn 1]) rfl (Nat.le_refl 2) (by decide) rfl) fzI fzI fzI ⟨[pIs [2, 1], pn (-2), pn (-2), pn 1], rfl, ?_⟩
  refine ⟨_, _, rfl, ⟨rfl, Nat.le_of_ble_eq_true rfl, rfl⟩, _, rfl, _, rfl, ?_⟩
  refine ⟨_, rfl, ?_⟩
  refine ⟨_, _, rfl, ⟨rfl, Nat.le_of_ble_eq_true rfl, rfl⟩, _, rfl, _, rfl, ?_⟩
  exact ⟨_, rfl, endsq rfl rfl⟩
 refine ⟨fun h2 => ?_, fun h2 => ?_⟩
 ·subst h2
  refine ⟨by omega, partc rfl ⟨[pn 0, pn 1], rfl, ?_⟩⟩
  refine part4 (fz_own (n := 2) (c := 2) (cs' := [pn 0, pn 1]) rfl (Nat.le_refl 2) (by decide) rfl) fzI fzI fzI ⟨[pIs [0, 1], pn 0, pn 0, pn 1], rfl, ?_⟩
  refine ⟨_, _, rfl, ⟨rfl, Nat.le_of_ble_eq_true rfl, rfl⟩, _, rfl, _, rfl, ?_⟩
  refine ⟨_, rfl, ?_⟩
  refine ⟨_, _, rfl, ⟨rfl, Nat.le_of_ble_eq_true rfl, rfl⟩, _, rfl, _, rfl, ?_⟩
  exact ⟨_, rfl, endsq rfl rfl⟩
 refine ⟨fun h3 => ?_, fun h3 => ?_⟩
 ·subst h3
  refine ⟨by omega, partc rfl ⟨[pn (-1), pn 1], rfl, ?_⟩⟩
  refine part4 (fz_own (n := 2) (c := 2) (cs' := [pn (-1), pn 1]) rfl (Nat.le_refl 2) (by decide) rfl) fzI fzI fzI ⟨[pIs [-1, 1], pn 1, pn 1, pn 1], rfl, ?_⟩
  refine ⟨_, _, rfl, ⟨rfl, Nat.le_of_ble_eq_true rfl, rfl⟩, _, rfl, _, rfl, ?_⟩
  refine ⟨_, rfl, ?_⟩
  refine ⟨_, _, rfl, ⟨rfl, Nat.le_of_ble_eq_true rfl, rfl⟩, _, rfl, _, rfl, ?_⟩
  exact ⟨_, rfl, endsq rfl rfl⟩
 refine ⟨fun h4 => ?_, fun h4 => ?_⟩
 ·subst h4
  refine ⟨by omega, partc rfl ⟨[pn (-2), pn 0, pn 1], rfl, ?_⟩⟩
  refine part4 (fz_own (n := 3) (c := 3) (cs' := [pn (-2), pn 0, pn 1]) rfl (Nat.le_refl 3) (by decide) rfl) fzI fzI fzI ⟨[pIs [-2, 0, 1], pn 1, pn 2, pn 1], rfl, ?_⟩
  refine ⟨_, _, rfl, ⟨rfl, Nat.le_of_ble_eq_true rfl, rfl⟩, _, rfl, _, rfl, ?_⟩
  refine ⟨_, rfl, ?_⟩
  refine ⟨_, _, rfl, ⟨rfl, Nat.le_of_ble_eq_true rfl, rfl⟩, _, rfl, _, rfl, ?_⟩
  exact ⟨_, rfl, endsq rfl rfl⟩
 refine ⟨fun h5 => ?_, fun h5 => ?_⟩
 ·subst h5
  refine ⟨by omega, partc rfl ⟨[pn (-1), pn (-1), pn 1], rfl, ?_⟩⟩
  refine ⟨3, _, [pn (-1), pn (-1), pn 1], rfl, ⟨Nat.le_refl 3, by decide⟩, rfl, _, _, rfl, ⟨rfl, Nat.le_of_ble_eq_true rfl, rfl⟩, _, rfl, _, rfl, ?_⟩
  refine ⟨_, rfl, ?_⟩
  refine ⟨_, _, rfl, ⟨rfl, Nat.le_of_ble_eq_true rfl, rfl⟩, _, rfl, _, rfl, ?_⟩
  exact ⟨_, rfl, endsq rfl rfl⟩
 refine ⟨fun h6 => ?_, fun h6 => ?_⟩
 ·subst h6
  refine ⟨by omega, partc rfl ⟨[pn (-3), pn 0, pn 1], rfl, ?_⟩⟩
  refine ⟨3, _, [pn (-3), pn 0, pn 1], rfl, ⟨Nat.le_refl 3, by decide⟩, rfl, _, _, rfl, ⟨rfl, Nat.le_of_ble_eq_true rfl, rfl⟩, _, rfl, _, rfl, ?_⟩
  refine ⟨_, rfl, ?_⟩
  refine ⟨_, _, rfl, ⟨rfl, Nat.le_of_ble_eq_true rfl, rfl⟩, _, rfl, _, rfl, ?_⟩
  exact ⟨_, rfl, endsq rfl rfl⟩
 refine ⟨fun h7 => ?_, fun h7 => ?_⟩
 ·subst h7
  refine ⟨by omega, partc rfl ⟨[pn 1, pn (-2), pn (-1), pn 1], rfl, ?_⟩⟩
  refine ⟨3, _, [pn 1, pn (-2), pn (-1), pn 1], rfl, ⟨Nat.le_refl 4, by decide⟩, rfl, _, _, rfl, ⟨rfl, Nat.le_of_ble_eq_true rfl, rfl⟩, _, rfl, _, rfl, ?_⟩
  refine ⟨_, rfl, ?_⟩
  refine ⟨_, _, rfl, ⟨rfl, Nat.le_of_ble_eq_true rfl, rfl⟩, _, rfl, _, rfl, ?_⟩
  exact ⟨_, rfl, endsq rfl rfl⟩
 refine ⟨fun h8 => ?_, fun h8 => ?_⟩
 ·subst h8
  refine ⟨by omega, partc rfl ⟨[pn 2, pn 0, pn (-4), pn 0, pn 1], rfl, ?_⟩⟩
  refine ⟨3, _, [pn 2, pn 0, pn (-4), pn 0, pn 1], rfl, ⟨Nat.le_refl 5, by decide⟩, rfl, _, _, rfl, ⟨rfl, Nat.le_of_ble_eq_true rfl, rfl⟩, _, rfl, _, rfl, ?_⟩
  refine ⟨_, rfl, ?_⟩
  refine ⟨_, _, rfl, ⟨rfl, Nat.le_of_ble_eq_true rfl, rfl⟩, _, rfl, _, rfl, ?_⟩
  exact ⟨_, rfl, endsq rfl rfl⟩
 refine ⟨fun h9 => ?_, fun h9 => ?_⟩
 ·subst h9
  refine ⟨by omega, partc rfl ⟨[pn (-1), pn (-3), pn 0, pn 1], rfl, ?_⟩⟩
  refine ⟨3, _, [pn (-1), pn (-3), pn 0, pn 1], rfl, ⟨Nat.le_refl 4, by decide⟩, rfl, _, _, rfl, ⟨rfl, Nat.le_of_ble_eq_true rfl, rfl⟩, _, rfl, _, rfl, ?_⟩
  refine ⟨_, rfl, ?_⟩
  refine ⟨_, _, rfl, ⟨rfl, Nat.le_of_ble_eq_true rfl, rfl⟩, _, rfl, _, rfl, ?_⟩
  exact ⟨_, rfl, endsq rfl rfl⟩
 refine ⟨fun h10 => ?_, fun h10 => ?_⟩
 ·subst h10
  refine ⟨by omega, partc rfl ⟨[pn 5, pn 0, pn (-5), pn 0, pn 1], rfl, ?_⟩⟩
  refine ⟨3, _, [pn 5, pn 0, pn (-5), pn 0, pn 1], rfl, ⟨Nat.le_refl 5, by decide⟩, rfl, _, _, rfl, ⟨rfl, Nat.le_of_ble_eq_true rfl, rfl⟩, _, rfl, _, rfl, ?_⟩
  refine ⟨_, rfl, ?_⟩
  refine ⟨_, _, rfl, ⟨rfl, Nat.le_of_ble_eq_true rfl, rfl⟩, _, rfl, _, rfl, ?_⟩
  exact ⟨_, rfl, endsq rfl rfl⟩
 refine ⟨fun h12 => ?_, fun h12 => ?_⟩
 ·subst h12
  refine ⟨by omega, partc rfl ⟨[pn 1, pn 0, pn (-4), pn 0, pn 1], rfl, ?_⟩⟩
  refine ⟨3, _, [pn 1, pn 0, pn (-4), pn 0, pn 1], rfl, ⟨Nat.le_refl 5, by decide⟩, rfl, _, _, rfl, ⟨rfl, Nat.le_of_ble_eq_true rfl, rfl⟩, _, rfl, _, rfl, ?_⟩
  refine ⟨_, rfl, ?_⟩
  refine ⟨_, _, rfl, ⟨rfl, Nat.le_of_ble_eq_true rfl, rfl⟩, _, rfl, _, rfl, ?_⟩
  exact ⟨_, rfl, endsq rfl rfl⟩
 refine ⟨fun h15 => ?_, fun h15 => ?_⟩
 ·subst h15
  refine ⟨by omega, partc rfl ⟨[pn 1, pn (-4), pn (-4), pn 1, pn 1], rfl, ?_⟩⟩
  refine ⟨3, _, [pn 1, pn (-4), pn (-4), pn 1, pn 1], rfl, ⟨Nat.le_refl 5, by decide⟩, rfl, _, _, rfl, ⟨rfl, Nat.le_of_ble_eq_true rfl, rfl⟩, _, rfl, _, rfl, ?_⟩
  refine ⟨_, rfl, ?_⟩
  refine ⟨_, _, rfl, ⟨rfl, Nat.le_of_ble_eq_true rfl, rfl⟩, _, rfl, _, rfl, ?_⟩
  exact ⟨_, rfl, endsq rfl rfl⟩
 refine part0 ⟨_, rfl, ?_⟩
 refine ⟨_, _, rfl, ⟨rfl, Nat.le_of_ble_eq_true rfl, rfl⟩, _, rfl, _, rfl, ?_⟩
 refine ⟨_, rfl, endsq rfl ?_⟩
 have e : cosP n = ([], 0, 0, 0, 2) := by
  unfold cosP
  rw [if_neg h1, if_neg h2, if_neg h3, if_neg h4, if_neg h5, if_neg h6, if_neg h7, if_neg h8, if_neg h9, if_neg h10, if_neg h12, if_neg h15]
 unfold cosR
 rw [e]
 rfl
theorem rcosine_ct (hN : OldN S) {n : Int} : Ct (ctx.plus S) 51 [pn n] 100 fun r => r = cosR n := by
 refine ct_of hN.h51 fn51 ?_
 refine ⟨by omega, ?_⟩
 refine ⟨fun h1 => ?_, fun h1 => ?_⟩
 ·subst h1
  refine ⟨by omega, partc rfl ⟨[pn 2, pn 1], rfl, ?_⟩⟩
  refine part4 (fz_own (n := 2) (c := 2) (cs' := [pn 2, pn 1]) rfl (Nat.le_refl 2) (by decide) rfl) fzI fzI fzI ⟨[pIs [2, 1], pn (-2), pn (-2), pn 1], rfl, ?_⟩
  refine ⟨_, _, rfl, ⟨rfl, Nat.le_of_ble_eq_true rfl, rfl⟩, _, rfl, _, rfl, ?_⟩
  exact ⟨_, rfl, endsq rfl rfl⟩
 refine ⟨fun h2 => ?_, fun h2 => ?_⟩
 ·subst h2
  refine callq rfl (rrational_ct S hN) (by omega) ?_
  rintro _ rfl
  refine ⟨_, _, rfl, ⟨rfl, Nat.le_of_ble_eq_true rfl, rfl⟩, _, rfl, _, rfl, ?_⟩
  exact ⟨_, rfl, endsq rfl rfl⟩
 refine ⟨fun h3 => ?_, fun h3 => ?_⟩
 ·subst h3
  refine ⟨by omega, partc rfl ⟨[pn (-1), pn 1], rfl, ?_⟩⟩
  refine part4 (fz_own (n := 2) (c := 2) (cs' := [pn (-1), pn 1]) rfl (Nat.le_refl 2) (by decide) rfl) fzI fzI fzI ⟨[pIs [-1, 1], pn 1, pn 1, pn 1], rfl, ?_⟩
  refine ⟨_, _, rfl, ⟨rfl, Nat.le_of_ble_eq_true rfl, rfl⟩, _, rfl, _, rfl, ?_⟩
  exact ⟨_, rfl, endsq rfl rfl⟩
 refine ⟨fun h4 => ?_, fun h4 => ?_⟩
 ·subst h4
  refine ⟨by omega, partc rfl ⟨[pn (-2), pn 0, pn 1], rfl, ?_⟩⟩
  refine part4 (fz_own (n := 3) (c := 3) (cs' := [pn (-2), pn 0, pn 1]) rfl (Nat.le_refl 3) (by decide) rfl) fzI fzI fzI ⟨[pIs [-2, 0, 1], pn 1, pn 2, pn 1], rfl, ?_⟩
  refine ⟨_, _, rfl, ⟨rfl, Nat.le_of_ble_eq_true rfl, rfl⟩, _, rfl, _, rfl, ?_⟩
  exact ⟨_, rfl, endsq rfl rfl⟩
 refine partc rfl ⟨_, rfl, ?_⟩
 refine ⟨by omega, ?_⟩
 refine ⟨_, _, rfl, ⟨rfl, Nat.le_of_ble_eq_true rfl, rfl⟩, _, rfl, _, rfl, ?_⟩
 refine ⟨fun h5 => ?_, fun h5 => ?_⟩
 ·subst h5
  refine ⟨by omega, partc rfl ⟨[pn (-1), pn (-1), pn 1], rfl, ?_⟩⟩
  refine ⟨3, _, [pn (-1), pn (-1), pn 1], rfl, ⟨Nat.le_refl 3, by decide⟩, rfl, _, _, rfl, ⟨rfl, Nat.le_of_ble_eq_true rfl, rfl⟩, _, rfl, _, rfl, ?_⟩
  refine ⟨_, rfl, ?_⟩
  refine ⟨_, _, rfl, ⟨rfl, Nat.le_of_ble_eq_true rfl, rfl⟩, _, rfl, _, rfl, ?_⟩
  exact ⟨_, rfl, endsq rfl rfl⟩
 refine ⟨fun h6 => ?_, fun h6 => ?_⟩
 ·subst h6
  refine ⟨by omega, partc rfl ⟨[pn (-3), pn 0, pn 1], rfl, ?_⟩⟩
  refine ⟨3, _, [pn (-3), pn 0, pn 1], rfl, ⟨Nat.le_refl 3, by decide⟩, rfl, _, _, rfl, ⟨rfl, Nat.le_of_ble_eq_true rfl, rfl⟩, _, rfl, _, rfl, ?_⟩
  refine ⟨_, rfl, ?_⟩
  refine ⟨_, _, rfl, ⟨rfl, Nat.le_of_ble_eq_true rfl, rfl⟩, _, rfl, _, rfl, ?_⟩
  exact ⟨_, rfl, endsq rfl rfl⟩
 refine ⟨fun h7 => ?_, fun h7 => ?_⟩
 ·subst h7
  refine ⟨by omega, partc rfl ⟨[pn 1, pn (-2), pn (-1), pn 1], rfl, ?_⟩⟩
  refine ⟨3, _, [pn 1, pn (-2), pn (-1), pn 1], rfl, ⟨Nat.le_refl 4, by decide⟩, rfl, _, _, rfl, ⟨rfl, Nat.le_of_ble_eq_true rfl, rfl⟩, _, rfl, _, rfl, ?_⟩
  refine ⟨_, rfl, ?_⟩
  refine ⟨_, _, rfl, ⟨rfl, Nat.le_of_ble_eq_true rfl, rfl⟩, _, rfl, _, rfl, ?_⟩
  exact ⟨_, rfl, endsq rfl rfl⟩
 refine ⟨fun h8 => ?_, fun h8 => ?_⟩
 ·subst h8
  refine ⟨by omega, partc rfl ⟨[pn 2, pn 0, pn (-4), pn 0, pn 1], rfl, ?_⟩⟩
  refine ⟨3, _, [pn 2, pn 0, pn (-4), pn 0, pn 1], rfl, ⟨Nat.le_refl 5, by decide⟩, rfl, _, _, rfl, ⟨rfl, Nat.le_of_ble_eq_true rfl, rfl⟩, _, rfl, _, rfl, ?_⟩
  refine ⟨_, rfl, ?_⟩
  refine ⟨_, _, rfl, ⟨rfl, Nat.le_of_ble_eq_true rfl, rfl⟩, _, rfl, _, rfl, ?_⟩
  exact ⟨_, rfl, endsq rfl rfl⟩
 refine ⟨fun h9 => ?_, fun h9 => ?_⟩
 ·subst h9
  refine ⟨by omega, partc rfl ⟨[pn (-1), pn (-3), pn 0, pn 1], rfl, ?_⟩⟩
  refine ⟨3, _, [pn (-1), pn (-3), pn 0, pn 1], rfl, ⟨Nat.le_refl 4, by decide⟩, rfl, _, _, rfl, ⟨rfl, Nat.le_of_ble_eq_true rfl, rfl⟩, _, rfl, _, rfl, ?_⟩
  refine ⟨_, rfl, ?_⟩
  refine ⟨_, _, rfl, ⟨rfl, Nat.le_of_ble_eq_true rfl, rfl⟩, _, rfl, _, rfl, ?_⟩
  exact ⟨_, rfl, endsq rfl rfl⟩
 refine ⟨fun h10 => ?_, fun h10 => ?_⟩
 ·subst h10
  refine ⟨by omega, partc rfl ⟨[pn 5, pn 0, pn (-5), pn 0, pn 1], rfl, ?_⟩⟩
  refine ⟨3, _, [pn 5, pn 0, pn (-5), pn 0, pn 1], rfl, ⟨Nat.le_refl 5, by decide⟩, rfl, _, _, rfl, ⟨rfl, Nat.le_of_ble_eq_true rfl, rfl⟩, _, rfl, _, rfl, ?_⟩
  refine ⟨_, rfl, ?_⟩
  refine ⟨_, _, rfl, ⟨rfl, Nat.le_of_ble_eq_true rfl, rfl⟩, _, rfl, _, rfl, ?_⟩
  exact ⟨_, rfl, endsq rfl rfl⟩
 refine ⟨fun h12 => ?_, fun h12 => ?_⟩
 ·subst h12
  refine ⟨by omega, partc rfl ⟨[pn 1, pn 0, pn (-4), pn 0, pn 1], rfl, ?_⟩⟩
  refine ⟨3, _, [pn 1, pn 0, pn (-4), pn 0, pn 1], rfl, ⟨Nat.le_refl 5, by decide⟩, rfl, _, _, rfl, ⟨rfl, Nat.le_of_ble_eq_true rfl, rfl⟩, _, rfl, _, rfl, ?_⟩
  refine ⟨_, rfl, ?_⟩
  refine ⟨_, _, rfl, ⟨rfl, Nat.le_of_ble_eq_true rfl, rfl⟩, _, rfl, _, rfl, ?_⟩
  exact ⟨_, rfl, endsq rfl rfl⟩
 refine ⟨fun h15 => ?_, fun h15 => ?_⟩
 ·subst h15
  refine ⟨by omega, partc rfl ⟨[pn 1, pn (-4), pn (-4), pn 1, pn 1], rfl, ?_⟩⟩
  refine ⟨3, _, [pn 1, pn (-4), pn (-4), pn 1, pn 1], rfl, ⟨Nat.le_refl 5, by decide⟩, rfl, _, _, rfl, ⟨rfl, Nat.le_of_ble_eq_true rfl, rfl⟩, _, rfl, _, rfl, ?_⟩
  refine ⟨_, rfl, ?_⟩
  refine ⟨_, _, rfl, ⟨rfl, Nat.le_of_ble_eq_true rfl, rfl⟩, _, rfl, _, rfl, ?_⟩
  exact ⟨_, rfl, endsq rfl rfl⟩
 refine part0 ⟨_, rfl, ?_⟩
 refine ⟨_, _, rfl, ⟨rfl, Nat.le_of_ble_eq_true rfl, rfl⟩, _, rfl, _, rfl, ?_⟩
 refine ⟨_, rfl, endsq rfl ?_⟩
 have e : cosP n = ([], 0, 0, 0, 2) := by
  unfold cosP
  rw [if_neg h1, if_neg h2, if_neg h3, if_neg h4, if_neg h5, if_neg h6, if_neg h7, if_neg h8, if_neg h9, if_neg h10, if_neg h12, if_neg h15]
 unfold cosR
 rw [e]
 rfl
end Go.PI
namespace Go.PI
open IM
set_option maxRecDepth 100000
theorem ck_ok {P : List Int} {lo hi den e : Int} (h : CkP P lo hi den e) (hs : ¬ (P.length < 2 ∨ 5 < P.length)) (hin : InR P lo hi den) (hl : P.getD (P.length - 1) 0 = 1) (hf : ¬ (P.length ≠ 2 /\ HasP P)) (ho : ¬ hi < lo) (h1 : OneP P lo hi den) : e = 0 := by
  cases h with
  | ok => rfl
  | shape h => exact absurd h hs
  | range _ h => exact absurd hin h
  | form _ _ h => exact absurd h fun h => h.elim (fun h => h hl) hf
  | order _ _ _ h => exact absurd h ho
  | none _ _ _ _ h => exact absurd h1 h
theorem dvd_bd {b p : Int} (h : b ∣ p) (h0 : p ≠ 0) : -(p.natAbs : Int) <= b /\ b <= p.natAbs := by
  have := Nat.le_of_dvd (by omega) (Int.natAbs_dvd_natAbs.2 h)
  omega
theorem sq_no {a : Int} (h : a * a = 6 ∨ a * a = 2) : False := by
  have h1 : a < 3 := by
    rcases ilt_or a 3 with h | h'
    · exact h
    · have := Int.mul_le_mul h' h' (by omega) (by omega); omega
  have h2 : -3 < a := by
    rcases ilt_or (-3) a with h | h'
    · exact h
    · have := Int.mul_le_mul (show 3 <= -a by omega) (show 3 <= -a by omega) (by omega) (by omega)
      rw [Int.neg_mul_neg] at this
      omega
  have : a = -2 ∨ a = -1 ∨ a = 0 ∨ a = 1 ∨ a = 2 := by omega
  rcases this with rfl | rfl | rfl | rfl | rfl <;> simp at h
theorem cos_ok {n e : Int} (h0 : (cosP n).2.2.2.2 = 0) (h : CkP (cosP n).1 (cosP n).2.1 (cosP n).2.2.1 (cosP n).2.2.2.1 e) : e = 0 := by
  have hn : n = 1 ∨ n = 2 ∨ n = 3 ∨ n = 4 ∨ n = 5 ∨ n = 6 ∨ n = 7 ∨ n = 8 ∨ n = 9 ∨ n = 10 ∨ n = 12 ∨ n = 15 := by
    refine Classical.byContradiction fun hc => ?_
    simp only [not_or] at hc
    obtain ⟨a1, a2, a3, a4, a5, a6, a7, a8, a9, a10, a12, a15⟩ := hc
    unfold cosP at h0
    rw [if_neg a1, if_neg a2, if_neg a3, if_neg a4, if_neg a5, if_neg a6, if_neg a7, if_neg a8, if_neg a9, if_neg a10, if_neg a12, if_neg a15] at h0
    cases h0
  rcases hn with rfl | rfl | rfl | rfl | rfl | rfl | rfl | rfl | rfl | rfl | rfl | rfl
  · exact ck_ok h (by decide) ⟨fun c hc => by simp [cosP] at hc; omega, by decide, by decide, by decide⟩ rfl (fun h => h.1 rfl) (by decide) (.inl ⟨rfl, by decide, by decide⟩)
  · exact ck_ok h (by decide) ⟨fun c hc => by simp [cosP] at hc; omega, by decide, by decide, by decide⟩ rfl (fun h => h.1 rfl) (by decide) (.inl ⟨rfl, by decide, by decide⟩)
  · exact ck_ok h (by decide) ⟨fun c hc => by simp [cosP] at hc; omega, by decide, by decide, by decide⟩ rfl (fun h => h.1 rfl) (by decide) (.inl ⟨rfl, by decide, by decide⟩)
  all_goals
    refine ck_ok h (by decide) ⟨fun c hc => by simp [cosP] at hc; omega, by decide, by decide, by decide⟩ rfl (fun h => ?_) (by decide) (one_of (by kernel_rfl) (by decide))
    obtain ⟨p0, cs, he, h⟩ := h.2
    cases he
    rcases h with h | ⟨b, hb, h⟩
    · exact absurd h (by decide)
    have hbd := dvd_bd hb (by decide)
    have hbs : b = -5 ∨ b = -4 ∨ b = -3 ∨ b = -2 ∨ b = -1 ∨ b = 0 ∨ b = 1 ∨ b = 2 ∨ b = 3 ∨ b = 4 ∨ b = 5 := by
      have : (5 : Int) = 5 := rfl
      simp at hbd
      omega
    rcases h with h | ⟨p1, p2, p3, he, a, c, d, ⟨q0, q1, q2, q3⟩, -⟩
    · rcases hbs with rfl | rfl | rfl | rfl | rfl | rfl | rfl | rfl | rfl | rfl | rfl <;> first | exact absurd h (by decide) | exact absurd hb (by decide)
    · first
        | cases he; done
        | (cases he
           have hd : d = -5 ∨ d = -2 ∨ d = -1 ∨ d = 1 ∨ d = 2 ∨ d = 5 := by
             rcases hbs with rfl | rfl | rfl | rfl | rfl | rfl | rfl | rfl | rfl | rfl | rfl <;> omega
           rcases hbs with rfl | rfl | rfl | rfl | rfl | rfl | rfl | rfl | rfl | rfl | rfl
           all_goals first | omega | skip
           all_goals rcases hd with rfl | rfl | rfl | rfl | rfl | rfl
           all_goals first | omega | skip
           all_goals
             first
               | (have ha : a = 0 := by omega
                  subst ha
                  omega)
               | (exfalso
                  have hc : c = -a := by omega
                  subst hc
                  rw [Int.mul_neg] at q2
                  exact sq_no (a := a) (by omega)))
end Go.PI
