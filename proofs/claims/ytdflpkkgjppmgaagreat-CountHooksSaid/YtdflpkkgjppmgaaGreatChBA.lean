/- Own work of the verifier: CiRef2 CiRef3 CiRef4. -/
import Derived.Test.YtdflpkkgjppmgaaGreatChAZ
import Derived.Test.YtdflpkkgjppmgaaGreatChAP
set_option linter.all false
set_option exponentiation.threshold 3000
set_option linter.deprecated false
/- The reference's Normal. -/
open Go.Proofs
namespace Go.PI
open IM
theorem fn82 : ctx.fn 82 = some c82 := by kernel_rfl
set_option maxRecDepth 10000
set_option maxHeartbeats 4000000
variable (S : FuncId → Option (List AV → Heap → Option (AV × Heap)))
theorem ex92 (T : List AV) (h : T.length = 92) : T = [T.getD 0 undefA, T.getD 1 undefA, T.getD 2 undefA, T.getD 3 undefA, T.getD 4 undefA, T.getD 5 undefA, T.getD 6 undefA, T.getD 7 undefA, T.getD 8 undefA, T.getD 9 undefA, T.getD 10 undefA, T.getD 11 undefA, T.getD 12 undefA, T.getD 13 undefA, T.getD 14 undefA, T.getD 15 undefA, T.getD 16 undefA, T.getD 17 undefA, T.getD 18 undefA, T.getD 19 undefA, T.getD 20 undefA, T.getD 21 undefA, T.getD 22 undefA, T.getD 23 undefA, T.getD 24 undefA, T.getD 25 undefA, T.getD 26 undefA, T.getD 27 undefA, T.getD 28 undefA, T.getD 29 undefA, T.getD 30 undefA, T.getD 31 undefA, T.getD 32 undefA, T.getD 33 undefA, T.getD 34 undefA, T.getD 35 undefA, T.getD 36 undefA, T.getD 37 undefA, T.getD 38 undefA, T.getD 39 undefA, T.getD 40 undefA, T.getD 41 undefA, T.getD 42 undefA, T.getD 43 undefA, T.getD 44 undefA, T.getD 45 undefA, T.getD 46 undefA, T.getD 47 undefA, T.getD 48 undefA, T.getD 49 undefA, T.getD 50 undefA, T.getD 51 undefA, T.getD 52 undefA, T.getD 53 undefA, T.getD 54 undefA, T.getD 55 undefA, T.getD 56 undefA, T.getD 57 undefA, T.getD 58 undefA, T.getD 59 undefA, T.getD 60 undefA, T.getD 61 undefA, T.getD 62 undefA, T.getD 63 undefA, T.getD 64 undefA, T.getD 65 undefA, T.getD 66 undefA, T.getD 67 undefA, T.getD 68 undefA, T.getD 69 undefA, T.getD 70 undefA, T.getD 71 undefA, T.getD 72 undefA, T.getD 73 undefA, T.getD 74 undefA, T.getD 75 undefA, T.getD 76 undefA, T.getD 77 undefA, T.getD 78 undefA, T.getD 79 undefA, T.getD 80 undefA, T.getD 81 undefA, T.getD 82 undefA, T.getD 83 undefA, T.getD 84 undefA, T.getD 85 undefA, T.getD 86 undefA, T.getD 87 undefA, T.getD 88 undefA, T.getD 89 undefA, T.getD 90 undefA, T.getD 91 undefA] := by
  have := expand T
  rw [h] at this
  exact this
def MN (H0 : Heap) (u : AV) (xs : List Int) (H : Heap) : Prop := (u = .nils ∧ xs = [] ∧ H0.n ≤ H.n ∧ ∀ A, A < H0.n → H.get A = H0.get A) ∨ Mine H0 H0.n u xs H
theorem MN.rv {H0 H : Heap} {u : AV} {xs : List Int} (h : MN H0 u xs H) : RV H u xs := by
  rcases h with ⟨rfl, rfl, -, -⟩ | h
  · exact rv_nil H
  · exact h.rv
theorem MN.n {H0 H : Heap} {u : AV} {xs : List Int} (h : MN H0 u xs H) : H0.n ≤ H.n := by
  rcases h with ⟨-, -, h, -⟩ | h
  · exact h
  · exact h.n
theorem MN.keep {H0 H : Heap} {u : AV} {xs : List Int} (h : MN H0 u xs H) : ∀ A, A < H0.n → H.get A = H0.get A := by
  rcases h with ⟨-, -, -, h⟩ | h
  · exact h
  · exact fun A hA => h.keep A hA (by omega)
theorem Mine.up {H0 H1 H2 : Heap} {v : AV} {xs : List Int} (h : Mine H1 H1.n v xs H2) (hn : H0.n ≤ H1.n) (hk : ∀ A, A < H0.n → H1.get A = H0.get A) : Mine H0 H0.n v xs H2 := by
  obtain ⟨h1, h2, b, zs, h3, h4, h5⟩ := h
  exact ⟨by omega, fun A hA _ => (h2 A (by omega) (by omega)).trans (hk A hA), b, zs, h3, h4, .inr (by omega)⟩
theorem append_mn {C : Ctx} (hT : C.ty = tget) {H0 H : Heap} {u : AV} {xs : List Int} {e : Int} (hn : H.n + 1 < lim) (hl : xs.length ≤ 1000000) (h : MN H0 u xs H) :
    ∃ r H', appendE C [22, 22] u (.sl H.n 0 1 1) (H.push (.cells true 3 [iv e])) = some (r, H') ∧ Mine H0 H0.n r (xs ++ [e]) H' ∧ H'.n ≤ H.n + 2 := by
  rcases h with ⟨rfl, rfl, h1, h2⟩ | h
  · have hp := Heap.get_push (H := H) (b := .cells true 3 [iv e]) (by omega)
    have hpn : (H.push (.cells true 3 [iv e])).n = H.n + 1 := rfl
    have hcells : cellsE (H.push (.cells true 3 [iv e])) 1 1 (.sl H.n 0 1 1) = some [iv e] := by
      simp [cellsE, hp]
    have hone : ones [iv e] = true := rfl
    have hnlim : ¬ lim ≤ H.n + 1 := by omega
    have hq := Heap.get_push (H := H.push (.cells true 3 [iv e])) (b := .cells true 3 (ints [e])) (by omega)
    refine ⟨.slu (H.n + 1) 0 1 1, (H.push (.cells true 3 [iv e])).push (.cells true 3 (ints [e])), ?_, ⟨by show H0.n ≤ H.n + 1 + 1; omega, fun A hA _ => ?_, H.n + 1, [e], ⟨?_, by simp, .inr rfl⟩, rfl, .inr (by omega)⟩, by show H.n + 1 + 1 ≤ H.n + 2; omega⟩
    · simp only [appendE, ty22 hT, ty3 hT, t22, t3, srcOk, lenE, hcells, hone, hpn]
      simp [hnlim, ints]
    · rw [hq, hpn, if_neg (by omega), hp, if_neg (by omega)]; exact h2 A hA
    · rw [hq, hpn, if_pos rfl]
  · exact append_mine hT hn (by omega) h
theorem rnormal_run (h82 : S 82 = none) (h124 : S 124 = none) (h125 : S 125 = none) (h126 : S 126 = none) {H : Heap} {x : AV} {xs : List Int} (hn : H.n + 4 * xs.length + 100 < lim) (hx : Sl H x xs) (hl : xs.length ≤ 1000) (hr : ∀ e ∈ xs, In64 e) :
    Cl (ctx.plus S) 82 [x] H fun r H' => Mine H H.n r (digits (val xs)) H' ∧ H'.n ≤ H.n + 4 * xs.length + 40 := by
  refine cl_of h82 fn82 ?_
  have hT : (ctx.plus S).ty = tget := rfl
  refine ⟨fun m s => ∃ (i : Nat) (n c : Int) (u : AV) (L : List Int) (H' : Heap) (T : List AV),
    s = ⟨T, H', []⟩ ∧ T.length = 92 ∧ T.getD 0 undefA = x ∧ T.getD 3 undefA = u ∧ T.getD 4 undefA = iv c ∧ T.getD 5 undefA = iv n ∧ m = xs.length - i ∧ n = i ∧ i ≤ xs.length ∧ MN H u L H' ∧ L.length = i ∧ Dig L ∧ val L + pw i * c = val (xs.take i) ∧ -1000000000000 ≤ c ∧ c ≤ 1000000000000 ∧ H'.n ≤ H.n + 2 * i, ⟨xs.length, ?_⟩, ?_⟩
  · exact ⟨0, _, 0, .nils, [], H, _, rfl, rfl, rfl, rfl, rfl, rfl, rfl, rfl, Nat.zero_le _, .inl ⟨rfl, rfl, Nat.le_refl _, fun _ _ => rfl⟩, rfl, fun _ h => (List.not_mem_nil h).elim, by simp [val], by omega, by omega, by omega⟩
  · rintro m s ⟨i, n, c, u, L, H', T, rfl, hTl, h0t, h3t, h4t, h5t, hm, rfl, hi, hM, hL, dL, hv, hc1, hc2, hn'⟩
    obtain ⟨J, rfl⟩ : ∃ J : Nat → AV, T = [x, J 1, J 2, u, iv c, iv i, J 6, J 7, J 8, J 9, J 10, J 11, J 12, J 13, J 14, J 15, J 16, J 17, J 18, J 19, J 20, J 21, J 22, J 23, J 24, J 25, J 26, J 27, J 28, J 29, J 30, J 31, J 32, J 33, J 34, J 35, J 36, J 37, J 38, J 39, J 40, J 41, J 42, J 43, J 44, J 45, J 46, J 47, J 48, J 49, J 50, J 51, J 52, J 53, J 54, J 55, J 56, J 57, J 58, J 59, J 60, J 61, J 62, J 63, J 64, J 65, J 66, J 67, J 68, J 69, J 70, J 71, J 72, J 73, J 74, J 75, J 76, J 77, J 78, J 79, J 80, J 81, J 82, J 83, J 84, J 85, J 86, J 87, J 88, J 89, J 90, J 91] := ⟨fun i => T.getD i undefA, (ex92 T hTl).trans (by rw [h0t, h3t, h4t, h5t])⟩
    clear hTl h0t h3t h4t h5t
    have hxs : Sl H' x xs := hx.mono hM.keep
    refine ⟨_, len_sl hT (v := x) rfl hxs, ?_⟩
    refine ⟨fun hlt => ?_, fun hge => ?_⟩
    · obtain ⟨e, he⟩ : ∃ e, xs[i]? = some e := ⟨xs[i]'(by omega), List.getElem?_eq_getElem _⟩
      have he64 := hr e (List.mem_of_getElem? he)
      refine ⟨_, idx_sl hT (v := x) (n := (i : Int)) (k := i) rfl rfl hxs rfl (by omega), ?_⟩
      refine ⟨_, load_sl hT hxs he, ?_⟩
      refine (split_run S h124 (H := H') he64).mono ?_
      rintro _ _ ⟨rfl, rfl⟩
      unfold In64 at he64
      have em1 := Int.emod_nonneg e (show (100000000 : Int) ≠ 0 by decide)
      have em2 := Int.emod_lt_of_pos e (show (0 : Int) < 100000000 by decide)
      refine ⟨⟨by omega, by omega⟩, ?_⟩
      refine (split_run S h124 (H := H') (e := e % 100000000 + c) (by unfold In64; omega)).mono ?_
      rintro _ _ ⟨rfl, rfl⟩
      obtain ⟨s, hs⟩ : ∃ s, (e % 100000000 + c) % 100000000 = s := ⟨_, rfl⟩
      obtain ⟨p, hp⟩ : ∃ p, (e % 100000000 + c) / 100000000 = p := ⟨_, rfl⟩
      obtain ⟨q, hq⟩ : ∃ q, e / 100000000 = q := ⟨_, rfl⟩
      have hsp : s + 100000000 * p = e % 100000000 + c := by omega
      have heq : e % 100000000 + 100000000 * q = e := by omega
      refine ⟨by omega, _, _, rfl, ?_⟩
      obtain ⟨r, H2, ha, hM2, hn2⟩ := append_mn hT (C := ctx.plus S) (e := (e % 100000000 + c) % 100000000) (by omega) (by omega) hM
      refine ⟨r, H2, ha, ?_⟩
      refine ⟨⟨by omega, by omega⟩, ?_⟩
      refine ⟨⟨by omega, by omega⟩, ?_⟩
      refine ⟨xs.length - (i + 1), by omega, i + 1, _, e / 100000000 + (e % 100000000 + c) / 100000000, r, L ++ [(e % 100000000 + c) % 100000000], H2, _, rfl, rfl, rfl, rfl, rfl, rfl, rfl, rfl, by omega, .inr hM2, by simp [hL], ?_, ?_, by omega, by omega, by omega⟩
      · intro z hz
        rcases List.mem_append.1 hz with h | h
        · exact dL z h
        · have : z = (e % 100000000 + c) % 100000000 := by simpa using h
          omega
      · rw [hs, hp, hq, val_snoc, hL, take_snoc he, val_snoc, List.length_take, Nat.min_eq_left (by omega), pw_succ, ← hv]
        have e1 : pw i * (s + 100000000 * p) = pw i * (e % 100000000 + c) := by rw [hsp]
        have e2 : pw i * (e % 100000000 + 100000000 * q) = pw i * e := by rw [heq]
        grind
    · have hin : i = xs.length := by omega
      subst hin
      rw [List.take_length] at hv
      clear hm hge
      obtain ⟨V, hV⟩ : ∃ V, val xs = V := ⟨_, rfl⟩
      rw [hV] at hv ⊢
      refine ⟨fun m s => ∃ (c : Int) (u : AV) (L : List Int) (H' : Heap) (T : List AV),
        s = ⟨T, H', []⟩ ∧ T.length = 92 ∧ T.getD 3 undefA = u ∧ T.getD 4 undefA = iv c ∧ m = c.natAbs ∧ MN H u L H' ∧ Dig L ∧ val L + pw L.length * c = V ∧ H'.n ≤ H.n + 2 * L.length ∧
        ((-1000000000000 ≤ c ∧ c ≤ 1000000000000 ∧ L.length = xs.length) ∨ (-10001 ≤ c ∧ c ≤ 10001 ∧ L.length = xs.length + 1) ∨ (-1 ≤ c ∧ c ≤ 0 ∧ L.length ≤ xs.length + 2)), ⟨c.natAbs, ?_⟩, ?_⟩
      · exact ⟨c, u, L, H', _, rfl, rfl, rfl, rfl, rfl, hM, dL, by rw [hL]; exact hv, by omega, .inl ⟨hc1, hc2, hL⟩⟩
      · clear hv hc1 hc2 hn' hM dL hL hxs c u L H' J
        rintro m s ⟨c, u, L, H', T, rfl, hTl, h3t, h4t, rfl, hM, dL, hv, hn', hc⟩
        obtain ⟨J, rfl⟩ : ∃ J : Nat → AV, T = [J 0, J 1, J 2, u, iv c, J 5, J 6, J 7, J 8, J 9, J 10, J 11, J 12, J 13, J 14, J 15, J 16, J 17, J 18, J 19, J 20, J 21, J 22, J 23, J 24, J 25, J 26, J 27, J 28, J 29, J 30, J 31, J 32, J 33, J 34, J 35, J 36, J 37, J 38, J 39, J 40, J 41, J 42, J 43, J 44, J 45, J 46, J 47, J 48, J 49, J 50, J 51, J 52, J 53, J 54, J 55, J 56, J 57, J 58, J 59, J 60, J 61, J 62, J 63, J 64, J 65, J 66, J 67, J 68, J 69, J 70, J 71, J 72, J 73, J 74, J 75, J 76, J 77, J 78, J 79, J 80, J 81, J 82, J 83, J 84, J 85, J 86, J 87, J 88, J 89, J 90, J 91] := ⟨fun i => T.getD i undefA, (ex92 T hTl).trans (by rw [h3t, h4t])⟩
        clear hTl h3t h4t
        have hLl : L.length ≤ xs.length + 2 := by omega
        have endC : c = 0 → ∀ r H2, Mine H' H'.n r (trimL L) H2 ∧ H2.n ≤ H'.n + 2 → Mine H H.n r (digits V) H2 ∧ H2.n ≤ H.n + 4 * xs.length + 40 := by
          rintro rfl r H2 ⟨h1, h2⟩
          rw [dL.trim, show val L = V by rw [← hv]; omega] at h1
          exact ⟨h1.up hM.n hM.keep, by omega⟩
        refine ⟨fun hc0 => ?_, fun hc0 => ?_⟩
        · refine ⟨fun hc1 => ?_, fun hc1 => ?_⟩
          · refine (split_run S h124 (H := H') (e := c) (by unfold In64; omega)).mono ?_
            rintro _ _ ⟨rfl, rfl⟩
            refine ⟨by omega, _, _, rfl, ?_⟩
            obtain ⟨r, H2, ha, hM2, hn2⟩ := append_mn hT (C := ctx.plus S) (e := c % 100000000) (by omega) (by omega) hM
            refine ⟨r, H2, ha, ?_⟩
            refine ⟨(c / 100000000).natAbs, by omega, c / 100000000, r, L ++ [c % 100000000], H2, _, rfl, rfl, rfl, rfl, rfl, .inr hM2, ?_, ?_, by simp; omega, by simp; omega⟩
            · intro z hz
              rcases List.mem_append.1 hz with h | h
              · exact dL z h
              · have : z = c % 100000000 := by simpa using h
                omega
            · obtain ⟨s, hs⟩ : ∃ s, c % 100000000 = s := ⟨_, rfl⟩
              obtain ⟨p, hp⟩ : ∃ p, c / 100000000 = p := ⟨_, rfl⟩
              have hsp : s + 100000000 * p = c := by omega
              rw [hs, hp, val_snoc, List.length_append, List.length_singleton, pw_succ, ← hv]
              have e1 : pw L.length * (s + 100000000 * p) = pw L.length * c := by rw [hsp]
              grind
          · subst hc1
            refine ⟨fun h => absurd h (by decide), fun _ => ?_⟩
            have hu := hM.rv
            refine ⟨fun m s => ∃ (i : Nat) (n br : Int) (w : AV) (Z : List Int) (H2 : Heap) (T : List AV),
              s = ⟨T, H2, []⟩ ∧ T.length = 92 ∧ T.getD 3 undefA = u ∧ T.getD 12 undefA = w ∧ T.getD 13 undefA = iv br ∧ T.getD 14 undefA = iv n ∧ m = L.length - i ∧ n = i ∧ i ≤ L.length ∧ MN H' w Z H2 ∧ Z.length = i ∧ Dig Z ∧ (br = 0 ∨ br = 1) ∧ val Z = - val (L.take i) + pw i * br ∧ H2.n ≤ H'.n + 2 * i, ⟨L.length, ?_⟩, ?_⟩
            · exact ⟨0, _, 0, .nils, [], H', _, rfl, rfl, rfl, rfl, rfl, rfl, rfl, rfl, Nat.zero_le _, .inl ⟨rfl, rfl, Nat.le_refl _, fun _ _ => rfl⟩, rfl, fun _ h => (List.not_mem_nil h).elim, .inl rfl, by simp [val], by omega⟩
            · rintro m s ⟨i, n, br, w, Z, H2, T, rfl, hTl, h3t, h12t, h13t, h14t, rfl, rfl, hi, hM2, hZ, dZ, hbr, hvz, hn2⟩
              obtain ⟨J', rfl⟩ : ∃ J : Nat → AV, T = [J 0, J 1, J 2, u, J 4, J 5, J 6, J 7, J 8, J 9, J 10, J 11, w, iv br, iv i, J 15, J 16, J 17, J 18, J 19, J 20, J 21, J 22, J 23, J 24, J 25, J 26, J 27, J 28, J 29, J 30, J 31, J 32, J 33, J 34, J 35, J 36, J 37, J 38, J 39, J 40, J 41, J 42, J 43, J 44, J 45, J 46, J 47, J 48, J 49, J 50, J 51, J 52, J 53, J 54, J 55, J 56, J 57, J 58, J 59, J 60, J 61, J 62, J 63, J 64, J 65, J 66, J 67, J 68, J 69, J 70, J 71, J 72, J 73, J 74, J 75, J 76, J 77, J 78, J 79, J 80, J 81, J 82, J 83, J 84, J 85, J 86, J 87, J 88, J 89, J 90, J 91] := ⟨fun i => T.getD i undefA, (ex92 T hTl).trans (by rw [h3t, h12t, h13t, h14t])⟩
              clear hTl h3t h12t h13t h14t
              have hu2 : Sl H2 u L := hu.sl.mono hM2.keep
              refine ⟨_, len_sl hT (v := u) rfl hu2, ?_⟩
              refine ⟨fun hlt => ?_, fun hge => ?_⟩
              · obtain ⟨e, he⟩ : ∃ e, L[i]? = some e := ⟨L[i]'(by omega), List.getElem?_eq_getElem _⟩
                have heB := dL e (List.mem_of_getElem? he)
                refine ⟨_, idx_sl hT (v := u) (n := (i : Int)) (k := i) rfl rfl hu2 rfl (by omega), ?_⟩
                refine ⟨_, load_sl hT hu2 he, ?_⟩
                refine ⟨⟨by omega, by omega⟩, ?_⟩
                refine ⟨⟨by omega, by omega⟩, ?_⟩
                have next : ∀ (d br' : Int), d = 0 - e - br + 100000000 * br' → val (Z ++ [d]) = - val (L.take (i + 1)) + pw (i + 1) * br' := fun d br' hd => by
                  rw [val_snoc, hZ, take_snoc he, val_snoc, List.length_take, Nat.min_eq_left (by omega), pw_succ, hvz, hd]
                  grind
                refine ⟨fun hneg => ?_, fun hpos => ?_⟩
                · refine ⟨⟨by omega, by omega⟩, ?_⟩
                  refine ⟨by omega, _, _, rfl, ?_⟩
                  obtain ⟨r, H3, ha, hM3, hn3⟩ := append_mn hT (C := ctx.plus S) (e := 0 - e - br + 100000000) (by omega) (by omega) hM2
                  refine ⟨r, H3, ha, ?_⟩
                  refine ⟨⟨by omega, by omega⟩, ?_⟩
                  refine ⟨L.length - (i + 1), by omega, i + 1, _, 1, r, Z ++ [0 - e - br + 100000000], H3, _, rfl, rfl, rfl, rfl, rfl, rfl, rfl, rfl, by omega, .inr hM3, by simp [hZ], ?_, .inr rfl, next _ 1 (by omega), by omega⟩
                  intro z hz
                  rcases List.mem_append.1 hz with h | h
                  · exact dZ z h
                  · have : z = 0 - e - br + 100000000 := by simpa using h
                    omega
                · refine ⟨by omega, _, _, rfl, ?_⟩
                  obtain ⟨r, H3, ha, hM3, hn3⟩ := append_mn hT (C := ctx.plus S) (e := 0 - e - br) (by omega) (by omega) hM2
                  refine ⟨r, H3, ha, ?_⟩
                  refine ⟨⟨by omega, by omega⟩, ?_⟩
                  refine ⟨L.length - (i + 1), by omega, i + 1, _, 0, r, Z ++ [0 - e - br], H3, _, rfl, rfl, rfl, rfl, rfl, rfl, rfl, rfl, by omega, .inr hM3, by simp [hZ], ?_, .inl rfl, next _ 0 (by omega), by omega⟩
                  intro z hz
                  rcases List.mem_append.1 hz with h | h
                  · exact dZ z h
                  · have : z = 0 - e - br := by simpa using h
                    omega
              · have hiL : i = L.length := by omega
                subst hiL
                rw [List.take_length] at hvz
                have fin : ∀ (W : List Int) (H3 : Heap), Dig W → val W = - V → H'.n ≤ H3.n → (∀ A, A < H'.n → H3.get A = H'.get A) → H3.n ≤ H.n + 4 * xs.length + 30 → ∀ r H4, Mine H3 H3.n r (if true = true then negL (trimL W) else trimL W) H4 ∧ H4.n ≤ H3.n + 2 → Mine H H.n r (digits V) H4 ∧ H4.n ≤ H.n + 4 * xs.length + 40 := by
                  rintro W H3 dW hW hk1 hk2 hk3 r H4 ⟨h1, h2⟩
                  rw [if_pos rfl, dW.trim, hW] at h1
                  unfold negL at h1
                  rw [negd, Int.neg_neg] at h1
                  exact ⟨h1.up (Nat.le_trans hM.n hk1) (fun A hA => (hk2 A (by have := hM.n; omega)).trans (hM.keep A hA)), by omega⟩
                refine ⟨fun hb0 => ?_, fun hb0 => ?_⟩
                · subst hb0
                  refine ⟨by omega, _, _, rfl, ?_⟩
                  obtain ⟨r, H3, ha, hM3, hn3⟩ := append_mn hT (C := ctx.plus S) (e := 1) (by omega) (by omega) hM2
                  refine ⟨r, H3, ha, ?_⟩
                  have dW : Dig (Z ++ [1]) := fun z hz => by
                    rcases List.mem_append.1 hz with h | h
                    · exact dZ z h
                    · have : z = 1 := by simpa using h
                      omega
                  refine (signed_run S h126 h125 (H := H3) (β := true) (by omega) hM3.rv (by simp; omega) (fun e he => by have := dW e he; unfold In64; omega)).mono ?_
                  exact fin (Z ++ [1]) H3 dW (by rw [val_snoc, hZ]; omega) hM3.n (fun A hA => hM3.keep A hA (by omega)) (by omega)
                · have hb1 : br = 1 := by omega
                  subst hb1
                  refine (signed_run S h126 h125 (H := H2) (β := true) (by omega) hM2.rv (by omega) (fun e he => by have := dZ e he; unfold In64; omega)).mono ?_
                  exact fin Z H2 dZ (by omega) hM2.n hM2.keep (by omega)
        · refine ⟨fun _ => ?_, fun h => absurd hc0 h⟩
          refine (rtrim_run S h125 (H := H') (by omega) hM.rv (by omega)).mono ?_
          exact endC hc0
end Go.PI
/- The reference's Add, Neg, Sub, Sign, Cmp, less. -/
open Go.Proofs
namespace Go.PI
open IM
theorem fn75 : ctx.fn 75 = some c75 := by kernel_rfl
theorem fn90 : ctx.fn 90 = some c90 := by kernel_rfl
theorem fn118 : ctx.fn 118 = some c118 := by kernel_rfl
theorem fn168 : ctx.fn 168 = some c168 := by kernel_rfl
set_option maxRecDepth 10000
set_option maxHeartbeats 4000000
variable (S : FuncId → Option (List AV → Heap → Option (AV × Heap)))
theorem ex48 (T : List AV) (h : T.length = 48) : T = [T.getD 0 undefA, T.getD 1 undefA, T.getD 2 undefA, T.getD 3 undefA, T.getD 4 undefA, T.getD 5 undefA, T.getD 6 undefA, T.getD 7 undefA, T.getD 8 undefA, T.getD 9 undefA, T.getD 10 undefA, T.getD 11 undefA, T.getD 12 undefA, T.getD 13 undefA, T.getD 14 undefA, T.getD 15 undefA, T.getD 16 undefA, T.getD 17 undefA, T.getD 18 undefA, T.getD 19 undefA, T.getD 20 undefA, T.getD 21 undefA, T.getD 22 undefA, T.getD 23 undefA, T.getD 24 undefA, T.getD 25 undefA, T.getD 26 undefA, T.getD 27 undefA, T.getD 28 undefA, T.getD 29 undefA, T.getD 30 undefA, T.getD 31 undefA, T.getD 32 undefA, T.getD 33 undefA, T.getD 34 undefA, T.getD 35 undefA, T.getD 36 undefA, T.getD 37 undefA, T.getD 38 undefA, T.getD 39 undefA, T.getD 40 undefA, T.getD 41 undefA, T.getD 42 undefA, T.getD 43 undefA, T.getD 44 undefA, T.getD 45 undefA, T.getD 46 undefA, T.getD 47 undefA] := by
  have := expand T
  rw [h] at this
  exact this
theorem ex41 (T : List AV) (h : T.length = 41) : T = [T.getD 0 undefA, T.getD 1 undefA, T.getD 2 undefA, T.getD 3 undefA, T.getD 4 undefA, T.getD 5 undefA, T.getD 6 undefA, T.getD 7 undefA, T.getD 8 undefA, T.getD 9 undefA, T.getD 10 undefA, T.getD 11 undefA, T.getD 12 undefA, T.getD 13 undefA, T.getD 14 undefA, T.getD 15 undefA, T.getD 16 undefA, T.getD 17 undefA, T.getD 18 undefA, T.getD 19 undefA, T.getD 20 undefA, T.getD 21 undefA, T.getD 22 undefA, T.getD 23 undefA, T.getD 24 undefA, T.getD 25 undefA, T.getD 26 undefA, T.getD 27 undefA, T.getD 28 undefA, T.getD 29 undefA, T.getD 30 undefA, T.getD 31 undefA, T.getD 32 undefA, T.getD 33 undefA, T.getD 34 undefA, T.getD 35 undefA, T.getD 36 undefA, T.getD 37 undefA, T.getD 38 undefA, T.getD 39 undefA, T.getD 40 undefA] := by
  have := expand T
  rw [h] at this
  exact this
structure OldR (S : FuncId → Option (List AV → Heap → Option (AV × Heap))) : Prop where
  h82 : S 82 = none
  h75 : S 75 = none
  h90 : S 90 = none
  h62 : S 62 = none
  h109 : S 109 = none
  h134 : S 134 = none
  h124 : S 124 = none
  h125 : S 125 = none
  h126 : S 126 = none
  h118 : S 118 = none
  h142 : S 142 = none
  h141 : S 141 = none
  h143 : S 143 = none
  h168 : S 168 = none
structure SV (H : Heap) (v : AV) (xs : List Int) (X : Int) : Prop where
  sl : Sl H v xs
  in64 : ∀ e ∈ xs, In64 e
  len : xs.length ≤ 20
  val : val xs = X
  dl : (digits X).length ≤ 20
theorem SV.kp {H H' : Heap} {v : AV} {xs : List Int} {X : Int} {c : Nat} (h : SV H v xs X) (k : Kp H H' c) : SV H' v xs X := ⟨h.sl.kp k, h.in64, h.len, h.val, h.dl⟩
theorem SV.of {H : Heap} {v : AV} {X : Int} (h : Sl H v (digits X)) (hb : -pw 20 < X ∧ X < pw 20) : SV H v (digits X) X :=
  ⟨h, fun e he => by have := (nrm_digits X).sml' e he; unfold In64; omega, len_of hb, val_digits X, len_of hb⟩
def sumL : List Int → List Int → List Int
  | x :: xs, y :: ys => (x + y) :: sumL xs ys
  | xs, [] => xs
  | [], ys => ys
theorem sumL_nil (xs : List Int) : sumL xs [] = xs := by cases xs <;> rfl
theorem sumL_nil' (xs : List Int) : sumL [] xs = xs := by cases xs <;> rfl
theorem sumL_val : ∀ xs ys : List Int, val (sumL xs ys) = val xs + val ys
  | [], ys => by rw [sumL_nil']; simp [val]
  | x :: xs, [] => by rw [sumL_nil]; simp [val]
  | x :: xs, y :: ys => by
    simp only [sumL, val]
    rw [sumL_val xs ys]; omega
theorem sumL_length : ∀ xs ys : List Int, (sumL xs ys).length = max xs.length ys.length
  | [], ys => by rw [sumL_nil']; simp
  | x :: xs, [] => by rw [sumL_nil]; simp
  | x :: xs, y :: ys => by
    simp only [sumL, List.length_cons]
    rw [sumL_length xs ys]; omega
theorem sumL_get : ∀ (xs ys : List Int) (i : Nat), i < max xs.length ys.length → (sumL xs ys)[i]? = some (xs.getD i 0 + ys.getD i 0)
  | [], ys, i, h => by
    rw [sumL_nil']
    simp at h
    rw [List.getElem?_eq_getElem h]
    simp [List.getD_eq_getElem?_getD, List.getElem?_eq_getElem h]
  | x :: xs, [], i, h => by
    rw [sumL_nil]
    simp at h
    rw [List.getElem?_eq_getElem (by simpa using h)]
    simp [List.getD_eq_getElem?_getD, List.getElem?_eq_getElem (show i < (x :: xs).length by simpa using h)]
  | x :: xs, y :: ys, 0, h => by simp [sumL]
  | x :: xs, y :: ys, i + 1, h => by
    simp only [sumL, List.getElem?_cons_succ]
    rw [sumL_get xs ys i (by simp at h ⊢; omega)]
    simp
theorem radd_run (hR : OldR S) {H : Heap} {x y : AV} {xs ys : List Int} {X Y : Int} (hn : H.n + 1000 < lim) (hx : SV H x xs X) (hy : SV H y ys Y) :
    Cl (ctx.plus S) 75 [x, y] H fun r H' => Mine H H.n r (digits (X + Y)) H' ∧ H'.n ≤ H.n + 420 := by
  refine cl_of hR.h75 fn75 ?_
  have hT : (ctx.plus S).ty = tget := rfl
  have lx := hx.len
  have ly := hy.len
  have dx := hx.dl
  have dy := hy.dl
  refine (rnormal_run S hR.h82 hR.h124 hR.h125 hR.h126 (by omega) hx.sl (by omega) hx.in64).mono ?_
  rw [hx.val]
  rintro a H1 ⟨hM1, hn1⟩
  have k1 := hM1.kp (c := 120) (by omega)
  have k1m := k1.m
  refine (rnormal_run S hR.h82 hR.h124 hR.h125 hR.h126 (H := H1) (by omega) (hy.sl.kp k1) (by omega) hy.in64).mono ?_
  rw [hy.val]
  rintro b H2 ⟨hM2, hn2⟩
  have k2 := hM2.kp (c := 120) (by omega)
  have k2m := k2.m
  have k1n := k1.n
  have k2n := k2.n
  have ha : Sl H2 a (digits X) := hM1.toSl.kp k2
  have hb : Sl H2 b (digits Y) := hM2.toSl
  obtain ⟨us, hus⟩ : ∃ us, digits X = us := ⟨_, rfl⟩
  obtain ⟨ws, hws⟩ : ∃ ws, digits Y = ws := ⟨_, rfl⟩
  have su := (nrm_digits X).sml'
  have sw := (nrm_digits Y).sml'
  have vu := val_digits X
  have vw := val_digits Y
  rw [hus] at ha su vu dx
  rw [hws] at hb sw vw dy
  have hsl := sumL_length us ws
  have hsb : ∀ e ∈ sumL us ws, -200000000 ≤ e ∧ e ≤ 200000000 := by
    intro e he
    obtain ⟨i, hi⟩ := List.getElem?_of_mem he
    have hlt := (List.getElem?_eq_some_iff.1 hi).1
    rw [sumL_get us ws i (by omega)] at hi
    have g1 : -100000000 < us.getD i 0 ∧ us.getD i 0 < 100000000 := by
      rw [List.getD_eq_getElem?_getD]
      cases h : us[i]? with
      | none => simp
      | some z => simpa using su z (List.mem_of_getElem? h)
    have g2 : -100000000 < ws.getD i 0 ∧ ws.getD i 0 < 100000000 := by
      rw [List.getD_eq_getElem?_getD]
      cases h : ws[i]? with
      | none => simp
      | some z => simpa using sw z (List.mem_of_getElem? h)
    cases hi
    omega
  refine ⟨fun m s => ∃ (i : Nat) (n : Int) (o : AV) (H' : Heap) (T : List AV),
    s = ⟨T, H', []⟩ ∧ T.length = 48 ∧ T.getD 0 undefA = a ∧ T.getD 1 undefA = b ∧ T.getD 5 undefA = o ∧ T.getD 6 undefA = iv n ∧ m = max us.length ws.length - i ∧ n = i ∧ i ≤ max us.length ws.length ∧ MN H2 o ((sumL us ws).take i) H' ∧ H'.n ≤ H2.n + 2 * i, ⟨max us.length ws.length, ?_⟩, ?_⟩
  · exact ⟨0, _, .nils, H2, _, rfl, rfl, rfl, rfl, rfl, rfl, rfl, rfl, Nat.zero_le _, .inl ⟨rfl, rfl, Nat.le_refl _, fun _ _ => rfl⟩, by omega⟩
  · rintro m s ⟨i, n, o, H', T, rfl, hTl, h0t, h1t, h5t, h6t, rfl, rfl, hi, hM, hn'⟩
    obtain ⟨J, rfl⟩ : ∃ J : Nat → AV, T = [a, b, J 2, J 3, J 4, o, iv i, J 7, J 8, J 9, J 10, J 11, J 12, J 13, J 14, J 15, J 16, J 17, J 18, J 19, J 20, J 21, J 22, J 23, J 24, J 25, J 26, J 27, J 28, J 29, J 30, J 31, J 32, J 33, J 34, J 35, J 36, J 37, J 38, J 39, J 40, J 41, J 42, J 43, J 44, J 45, J 46, J 47] := ⟨fun i => T.getD i undefA, (ex48 T hTl).trans (by rw [h0t, h1t, h5t, h6t])⟩
    clear hTl h0t h1t h5t h6t
    have ha' : Sl H' a us := ha.mono hM.keep
    have hb' : Sl H' b ws := hb.mono hM.keep
    have step : ∀ e : Int, e = us.getD i 0 + ws.getD i 0 → i < max us.length ws.length → ∃ r H3, appendE (ctx.plus S) [22, 22] o (.sl H'.n 0 1 1) (H'.push (.cells true 3 [iv e])) = some (r, H3) ∧ MN H2 r ((sumL us ws).take (i + 1)) H3 ∧ H3.n ≤ H2.n + 2 * (i + 1) := by
      intro e he hlt
      obtain ⟨r, H3, h1, h2, h3⟩ := append_mn hT (C := ctx.plus S) (e := e) (by omega) (by simp; omega) hM
      refine ⟨r, H3, h1, .inr ?_, by omega⟩
      have hg := sumL_get us ws i hlt
      rw [take_snoc hg, ← he]
      exact h2
    have gd : ∀ {zs : List Int} {j : Nat} {e : Int}, zs[j]? = some e → zs.getD j 0 = e := fun h => by rw [List.getD_eq_getElem?_getD, h]; rfl
    have gn : ∀ {zs : List Int} {j : Nat}, zs.length ≤ j → zs.getD j 0 = 0 := fun h => by rw [List.getD_eq_getElem?_getD, List.getElem?_eq_none h]; rfl
    have done : i = max us.length ws.length → ∀ r H3, Mine H' H'.n r (digits (val ((sumL us ws).take i))) H3 ∧ H3.n ≤ H'.n + 4 * ((sumL us ws).take i).length + 40 → Mine H H.n r (digits (X + Y)) H3 ∧ H3.n ≤ H.n + 420 := by
      rintro he r H3 ⟨h1, h2⟩
      rw [List.take_of_length_le (by omega), sumL_val, vu, vw] at h1
      have hl2 : ((sumL us ws).take i).length ≤ 20 := by simp; omega
      refine ⟨h1.up (by have := hM.n; omega) (fun A hA => ?_), by omega⟩
      rw [hM.keep A (by omega), k2.get A (by omega), k1.get A hA]
    have fin : i = max us.length ws.length → Cl (ctx.plus S) 82 [o] H' fun r H3 => Mine H H.n r (digits (X + Y)) H3 ∧ H3.n ≤ H.n + 420 := fun he =>
      (rnormal_run S hR.h82 hR.h124 hR.h125 hR.h126 (H := H') (by simp; omega) hM.rv.sl (by simp; omega) (fun e he => by have := hsb e (List.mem_of_mem_take he); unfold In64; omega)).mono (done he)
    refine ⟨_, len_sl hT (v := a) rfl ha', ?_⟩
    refine ⟨fun h1 => ?_, fun h1 => ?_⟩
    · obtain ⟨e, he⟩ : ∃ e, us[i]? = some e := ⟨us[i]'(by omega), List.getElem?_eq_getElem _⟩
      have heB := su e (List.mem_of_getElem? he)
      refine ⟨_, len_sl hT (v := a) rfl ha', ?_⟩
      refine ⟨fun _ => ?_, fun h => absurd h1 (by omega)⟩
      refine ⟨_, idx_sl hT (v := a) (n := (i : Int)) (k := i) rfl rfl ha' rfl (by omega), ?_⟩
      refine ⟨_, load_sl hT ha' he, ?_⟩
      refine ⟨_, len_sl hT (v := b) rfl hb', ?_⟩
      refine ⟨fun h2 => ?_, fun h2 => ?_⟩
      · obtain ⟨f, hf⟩ : ∃ e, ws[i]? = some e := ⟨ws[i]'(by omega), List.getElem?_eq_getElem _⟩
        have hfB := sw f (List.mem_of_getElem? hf)
        refine ⟨_, idx_sl hT (v := b) (n := (i : Int)) (k := i) rfl rfl hb' rfl (by omega), ?_⟩
        refine ⟨_, load_sl hT hb' hf, ?_⟩
        refine ⟨⟨by omega, by omega⟩, ?_⟩
        refine ⟨by omega, _, _, rfl, ?_⟩
        obtain ⟨r, H3, q1, q2, q3⟩ := step (e + f) (by rw [gd he, gd hf]) (by omega)
        refine ⟨r, H3, q1, ?_⟩
        refine ⟨⟨by omega, by omega⟩, ?_⟩
        exact ⟨max us.length ws.length - (i + 1), by omega, i + 1, _, r, H3, _, rfl, rfl, rfl, rfl, rfl, rfl, rfl, rfl, by omega, q2, q3⟩
      · refine ⟨by omega, _, _, rfl, ?_⟩
        obtain ⟨r, H3, q1, q2, q3⟩ := step e (by rw [gd he, gn (by omega)]; omega) (by omega)
        refine ⟨r, H3, q1, ?_⟩
        refine ⟨⟨by omega, by omega⟩, ?_⟩
        exact ⟨max us.length ws.length - (i + 1), by omega, i + 1, _, r, H3, _, rfl, rfl, rfl, rfl, rfl, rfl, rfl, rfl, by omega, q2, q3⟩
    · refine ⟨_, len_sl hT (v := b) rfl hb', ?_⟩
      refine ⟨fun h2 => ?_, fun h2 => ?_⟩
      · obtain ⟨f, hf⟩ : ∃ e, ws[i]? = some e := ⟨ws[i]'(by omega), List.getElem?_eq_getElem _⟩
        have hfB := sw f (List.mem_of_getElem? hf)
        refine ⟨_, len_sl hT (v := a) rfl ha', ?_⟩
        refine ⟨fun h => absurd h (by omega), fun _ => ?_⟩
        refine ⟨_, len_sl hT (v := b) rfl hb', ?_⟩
        refine ⟨fun _ => ?_, fun h => absurd h2 (by omega)⟩
        refine ⟨_, idx_sl hT (v := b) (n := (i : Int)) (k := i) rfl rfl hb' rfl (by omega), ?_⟩
        refine ⟨_, load_sl hT hb' hf, ?_⟩
        refine ⟨⟨by omega, by omega⟩, ?_⟩
        refine ⟨by omega, _, _, rfl, ?_⟩
        obtain ⟨r, H3, q1, q2, q3⟩ := step (0 + f) (by rw [gd hf, gn (by omega)]) (by omega)
        refine ⟨r, H3, q1, ?_⟩
        refine ⟨⟨by omega, by omega⟩, ?_⟩
        exact ⟨max us.length ws.length - (i + 1), by omega, i + 1, _, r, H3, _, rfl, rfl, rfl, rfl, rfl, rfl, rfl, rfl, by omega, q2, q3⟩
      · exact fin (by omega)
end Go.PI
/- The reference's Cmp, less, Mul. -/
open Go.Proofs
namespace Go.PI
open IM
theorem fn62 : ctx.fn 62 = some c62 := by kernel_rfl
set_option maxRecDepth 10000
set_option maxHeartbeats 4000000
variable (S : FuncId → Option (List AV → Heap → Option (AV × Heap)))
theorem ex44 (T : List AV) (h : T.length = 44) : T = [T.getD 0 undefA, T.getD 1 undefA, T.getD 2 undefA, T.getD 3 undefA, T.getD 4 undefA, T.getD 5 undefA, T.getD 6 undefA, T.getD 7 undefA, T.getD 8 undefA, T.getD 9 undefA, T.getD 10 undefA, T.getD 11 undefA, T.getD 12 undefA, T.getD 13 undefA, T.getD 14 undefA, T.getD 15 undefA, T.getD 16 undefA, T.getD 17 undefA, T.getD 18 undefA, T.getD 19 undefA, T.getD 20 undefA, T.getD 21 undefA, T.getD 22 undefA, T.getD 23 undefA, T.getD 24 undefA, T.getD 25 undefA, T.getD 26 undefA, T.getD 27 undefA, T.getD 28 undefA, T.getD 29 undefA, T.getD 30 undefA, T.getD 31 undefA, T.getD 32 undefA, T.getD 33 undefA, T.getD 34 undefA, T.getD 35 undefA, T.getD 36 undefA, T.getD 37 undefA, T.getD 38 undefA, T.getD 39 undefA, T.getD 40 undefA, T.getD 41 undefA, T.getD 42 undefA, T.getD 43 undefA] := by
  have := expand T
  rw [h] at this
  exact this
theorem less_run (hR : OldR S) {H : Heap} {x y : AV} {xs ys : List Int} (hx : Sl H x xs) (hy : Sl H y ys) (lx : xs.length ≤ 1000) (ly : ys.length ≤ 1000) (dx : Dig xs) (dy : Dig ys) (tx : Top xs) (ty : Top ys) :
    Cl (ctx.plus S) 168 [x, y] H fun r H' => r = .bool (decide (val xs < val ys)) ∧ H = H' := by
  refine cl_of hR.h168 fn168 ?_
  have hT : (ctx.plus S).ty = tget := rfl
  have fin : ∀ β : Bool, (β = true ↔ val xs < val ys) → AV.bool β = .bool (decide (val xs < val ys)) ∧ H = H := fun β h => by
    refine ⟨?_, rfl⟩
    congr 1
    cases β with
    | true => exact (decide_eq_true (h.1 rfl)).symm
    | false => exact (decide_eq_false (fun hh => by have := h.2 hh; cases this)).symm
  refine ⟨_, len_sl hT (v := x) rfl hx, ?_⟩
  refine ⟨_, len_sl hT (v := y) rfl hy, ?_⟩
  refine ⟨fun hne => ?_, fun heq => ?_⟩
  · refine ⟨_, len_sl hT (v := x) rfl hx, ?_⟩
    refine ⟨_, len_sl hT (v := y) rfl hy, ?_⟩
    refine ⟨fun h => ?_, fun h => ?_⟩
    · exact fin true ⟨fun _ => lt_len dx dy ty (by omega), fun _ => rfl⟩
    · exact fin false ⟨fun h' => by simp at h', fun h' => by have := lt_len dy dx tx (by omega); omega⟩
  · have hll : xs.length = ys.length := by omega
    refine ⟨_, len_sl hT (v := x) rfl hx, ?_⟩
    refine ⟨⟨by omega, by omega⟩, ?_⟩
    refine ⟨fun m s => ∃ (k : Nat) (n : Int) (T : List AV), s = ⟨T, H, []⟩ ∧ T.length = 41 ∧ T.getD 0 undefA = x ∧ T.getD 1 undefA = y ∧ T.getD 5 undefA = iv n ∧ m = k ∧ n = (k : Int) - 1 ∧ k ≤ xs.length ∧ xs.drop k = ys.drop k, ⟨xs.length, ?_⟩, ?_⟩
    · exact ⟨xs.length, _, _, rfl, rfl, rfl, rfl, rfl, rfl, rfl, Nat.le_refl _, by rw [List.drop_length, hll, List.drop_length]⟩
    · rintro m s ⟨k, n, T, rfl, hTl, h0t, h1t, h5t, hm, rfl, hk, hd⟩
      obtain ⟨J, rfl⟩ : ∃ J : Nat → AV, T = [x, y, J 2, J 3, J 4, iv ((k : Int) - 1), J 6, J 7, J 8, J 9, J 10, J 11, J 12, J 13, J 14, J 15, J 16, J 17, J 18, J 19, J 20, J 21, J 22, J 23, J 24, J 25, J 26, J 27, J 28, J 29, J 30, J 31, J 32, J 33, J 34, J 35, J 36, J 37, J 38, J 39, J 40] := ⟨fun i => T.getD i undefA, (ex41 T hTl).trans (by rw [h0t, h1t, h5t])⟩
      clear hTl h0t h1t h5t
      refine ⟨fun hge => ?_, fun hlt => ?_⟩
      · obtain ⟨k, rfl⟩ : ∃ j, k = j + 1 := ⟨k - 1, by omega⟩
        obtain ⟨e, he⟩ : ∃ e, xs[k]? = some e := ⟨xs[k]'(by omega), List.getElem?_eq_getElem _⟩
        obtain ⟨f, hf⟩ : ∃ e, ys[k]? = some e := ⟨ys[k]'(by omega), List.getElem?_eq_getElem _⟩
        have hnx : xs ≠ [] := by intro h; subst h; simp at he
        have hny : ys ≠ [] := by intro h; subst h; simp at hf
        obtain ⟨bx, ox, hbx, hax⟩ := hx.addr hnx
        obtain ⟨b2, o2, hb2, ha2⟩ := hy.addr hny
        have lx : loadE (ctx.plus S) 3 (addr x k) H = some (iv e) := load_sl hT hx he
        have ly : loadE (ctx.plus S) 3 (addr y k) H = some (iv f) := load_sl hT hy hf
        have lx' : loadE (ctx.plus S) 3 (.ptr bx (ox + k)) H = some (iv e) := by rw [← hax]; exact lx
        have ly' : loadE (ctx.plus S) 3 (.ptr b2 (o2 + k)) H = some (iv f) := by rw [← ha2]; exact ly
        have si : ∀ n : Int, (iv n).same (iv n) = true := fun n => by simp [AV.same, AV.sames]
        have ix : ∀ {ρ : Operand → Option AV} {a i : Operand}, ρ a = some x → ρ i = some (iv (((k + 1 : Nat) : Int) - 1)) → pureE (ctx.plus S) ρ (.indexAddr 22 a i) = some (addr x k) := fun h1 h2 => idx_sl hT (n := ((k + 1 : Nat) : Int) - 1) h1 h2 hx (by omega) (by omega)
        have iy : ∀ {ρ : Operand → Option AV} {a i : Operand}, ρ a = some y → ρ i = some (iv (((k + 1 : Nat) : Int) - 1)) → pureE (ctx.plus S) ρ (.indexAddr 22 a i) = some (addr y k) := fun h1 h2 => idx_sl hT (n := ((k + 1 : Nat) : Int) - 1) h1 h2 hy (by omega) (by omega)
        refine ⟨_, ix rfl rfl, ?_⟩
        refine ⟨_, lx, ?_⟩
        refine ⟨_, iy rfl rfl, ?_⟩
        refine ⟨_, ly, ?_⟩
        have hcmp : e ≠ f → cmpI e f = cmpI (val xs) (val ys) := fun hne => cmp_dif (dx.nrm tx) (dy.nrm ty) (by
          rcases sgn_val (dx.nrm tx) with ⟨-, h, -⟩ | ⟨h1, -, -, -⟩ | ⟨-, -, h, -⟩
          · exact absurd h hnx
          · rcases sgn_val (dy.nrm ty) with ⟨-, h, -⟩ | ⟨h2, -, -, -⟩ | ⟨-, -, h, -⟩
            · exact absurd h hny
            · rw [h1, h2]
            · have := dy.val.1; omega
          · have := dx.val.1; omega) he hf hne hd
        refine ⟨fun hne => ?_, fun heq2 => ?_⟩
        · refine ⟨draw_of2 H 9 (by kernel_rfl) rfl ?_ ?_ ?_, ?_⟩
          · exact ⟨trivial, trivial, trivial, ⟨_, _, _, congrArg some (hax _), hbx, lx', si _⟩, trivial, trivial, trivial, ⟨_, _, _, congrArg some (ha2 _), hb2, ly', si _⟩, trivial, trivial⟩
          · repeat' (first | exact trivial | refine ⟨fun _ _ => rfl, ?_⟩)
          · repeat' (first | exact trivial | refine ⟨Nat.le_refl _, ?_⟩)
          have hc := hcmp hne
          refine ⟨_, ix rfl rfl, ?_⟩
          refine ⟨_, lx, ?_⟩
          refine ⟨_, iy rfl rfl, ?_⟩
          refine ⟨_, ly, ?_⟩
          refine ⟨fun hl => ?_, fun hl => ?_⟩
          · refine ⟨draw_of2 H 10 (by kernel_rfl) rfl ?_ ?_ ?_, ?_⟩
            · exact ⟨trivial, trivial, trivial, ⟨_, _, _, congrArg some (hax _), hbx, lx', si _⟩, trivial, trivial, trivial, ⟨_, _, _, congrArg some (ha2 _), hb2, ly', si _⟩, trivial, trivial, trivial⟩
            · repeat' (first | exact trivial | refine ⟨fun _ _ => rfl, ?_⟩)
            · repeat' (first | exact trivial | refine ⟨Nat.le_refl _, ?_⟩)
            refine fin true ⟨fun _ => ?_, fun _ => rfl⟩
            unfold cmpI at hc
            rw [if_pos hl] at hc
            split at hc
            · assumption
            · split at hc <;> omega
          · refine ⟨draw_of2 H 10 (by kernel_rfl) rfl ?_ ?_ ?_, ?_⟩
            · exact ⟨trivial, trivial, trivial, ⟨_, _, _, congrArg some (hax _), hbx, lx', si _⟩, trivial, trivial, trivial, ⟨_, _, _, congrArg some (ha2 _), hb2, ly', si _⟩, trivial, trivial, trivial⟩
            · repeat' (first | exact trivial | refine ⟨fun _ _ => rfl, ?_⟩)
            · repeat' (first | exact trivial | refine ⟨Nat.le_refl _, ?_⟩)
            refine fin false ⟨fun h => by simp at h, fun h => ?_⟩
            unfold cmpI at hc
            rw [if_neg (by omega), if_pos (by omega), if_pos h] at hc
            omega
        · refine ⟨draw_of2 H 9 (by kernel_rfl) rfl ?_ ?_ ?_, ?_⟩
          · exact ⟨trivial, trivial, trivial, ⟨_, _, _, congrArg some (hax _), hbx, lx', si _⟩, trivial, trivial, trivial, ⟨_, _, _, congrArg some (ha2 _), hb2, ly', si _⟩, trivial, trivial⟩
          · repeat' (first | exact trivial | refine ⟨fun _ _ => rfl, ?_⟩)
          · repeat' (first | exact trivial | refine ⟨Nat.le_refl _, ?_⟩)
          refine ⟨⟨by omega, by omega⟩, ?_⟩
          exact ⟨k, by omega, k, _, _, rfl, rfl, rfl, rfl, rfl, rfl, by omega, by omega, by rw [drop_of_get he, drop_of_get hf, heq2, hd]⟩
      · have hk0 : k = 0 := by omega
        subst hk0
        have hxy : xs = ys := by simpa using hd
        exact fin false ⟨fun h => by simp at h, fun h => by rw [hxy] at h; omega⟩
theorem appendE_ge {C : Ctx} {ts : List TypeId} {s x r : AV} {H H' : Heap} (h : appendE C ts s x H = some (r, H')) : H.n ≤ H'.n := by
  have hp : ∀ (G : Heap) (b : Blk), (G.push b).n = G.n + 1 := fun _ _ => rfl
  have hs : ∀ (G : Heap) (A : Nat) (b : Blk), (G.set A b).n = G.n := fun _ _ _ => rfl
  unfold appendE appendZ at h
  repeat' split at h
  all_goals first
    | (cases h; done)
    | (cases h; first | exact Nat.le_refl _ | (rw [hp]; omega) | (rw [hs]; exact Nat.le_refl _) | (rw [hp, hs]; omega))
end Go.PI
