/- Own work of the verifier: PvEncl. -/
import Derived.Test.YtgmhmahdmbdngaaGreatDoorFlAZ
set_option linter.all false
set_option linter.deprecated false
open Go.Proofs
namespace Go.PI
open IM
set_option maxRecDepth 10000
set_option maxHeartbeats 4000000
theorem fn136 : ctx.fn 136 = some c136 := by kernel_rfl
theorem FrzS.trans {s s1 s2 : PSt} (f : FrzS s s1) (g : FrzS s1 s2) : FrzS s s2 := fun H W β H0 W0 c T' I hr => by
 obtain ⟨W2, I2, r2⟩ := f H W β H0 W0 c T' I hr
 exact g H W2 β H0 W0 c T' I2 r2
variable (S : FuncId -> Option (List AV -> Heap -> Option (AV × Heap)))
theorem enclose_cb (hS : OldE S) {P L : List Int} {lo hi den : Int} {D : Nat} {st : List PV} {a w d h : Int} (hD : 1 <= D /\ D <= 4) (ha : B2 400 a) (hw : B2 400 w) (hd : B2 400 d) :
  Cb (ctx.plus S) 136 [.bptr (rCells P lo hi den D L st), .agg (iCells a w d h)] 1000000 fun r => ∃ x0 x1 x2 x3 x4 x5 x6 x7 x8 : Int, r = .agg [pI x0, pI x1, pI x2, pI x3, pI x4, pI x5, pI x6, pI x7, pI x8] := by
 refine cb_of hS.h136 fn136 ?_
 have big : ∀ {e : Nat} {x : Int}, B2 e x -> e <= 13000 -> (digits x).length <= 501 := fun h he => (h.mono he).dig (by omega)
 have la := big ha (by omega)
 have lw := big hw (by omega)
 have b5 : B2 401 (a + 1 * w) := by rw [Int.one_mul]; exact ha.add hw
 have pw3 : ∀ n : Nat, n <= 3 -> B2 1200 (d ^ n) := fun n hn => by
  have key : ∀ n : Nat, B2 (400 * n) (d ^ n) := fun n => by
   induction n with
   | zero => simp [B2]
   | succ n ih => rw [Int.pow_succ, show 400 * (n + 1) = 400 * n + 400 by omega]; exact ih.mul hd
  exact (key n).mono (by omega)
 refine ⟨by omega, by omega, ?_⟩
 refine ⟨_, rfl, ?_⟩
 refine ⟨_, rfl, ?_⟩
 refine callq rfl (plus_ct S hS.c.i.o hS.c.i.h114 (X := a) (f := 1) (Y := w) (by omega) (by omega) (by omega)) (by omega) ?_
 rintro _ rfl
 obtain ⟨a1, ha1⟩ : ∃ x, a + 1 * w = x := ⟨_, rfl⟩
 rw [ha1] at b5 ⊢
 refine ⟨by kernel_rfl, ?_⟩
 refine ⟨_, rfl, rfl, ?_⟩
 refine ⟨(show 4 <= st.length + 6 by omega), _, rfl, rfl, ?_⟩
 refine ⟨⟨by omega, by omega⟩, ?_⟩
 have eD : (D : Int) - 1 = ((D - 1 : Nat) : Int) := by omega
 rw [eD]
 refine callq rfl (power_ct S hS.c.i hS.h159 (x := d) (g := 400) (n := D - 1) hd (by omega) (by omega) (by omega)) (by omega) ?_
 rintro _ rfl
 refine part1 fzL ⟨[pI 0, pI 0, pI 0, pI 0, pI 0, pI 0, pI 0, pI 0, pI (d ^ (D - 1))], rfl, ?_⟩
 refine ⟨by omega, ?_⟩
 refine ⟨_, _, rfl, ⟨rfl, Nat.le_of_ble_eq_true rfl, rfl⟩, _, rfl, [.live 142 (iCells a w d h), .live 145 [.lst 0 [], .lst 0 [], .lst 0 [], .lst 0 [], .lst 0 [], .lst 0 [], .lst 0 [], .lst 0 [], .lst 0 []], .live 145 [pI 0, pI 0, pI 0, pI 0, pI 0, pI 0, pI 0, pI 0, pI (d ^ (D - 1))]], rfl, ?_⟩
 refine ⟨by omega, _, rfl, ?_⟩
 refine ⟨by omega, _, rfl, ?_⟩
 refine ⟨(show 4 <= st.length + 6 by omega), _, rfl, ?_⟩
 refine ⟨fun mm s => ∃ (i : Nat) (u v x0 x1 x2 x3 x4 x5 x6 x7 x8 : Int) (q : Nat) (j2 j9 ja jb jc jd je jf jg jh ji jj jk jl jm jn jo jp jq jr js jt jw jx jy jz jA jB jC jD jE jF jG jH jI jJ jK jL jM jN jO jP jQ jR jS jT jU jV jW jX jY jZ j62 j63 j64 j65 j66 : PV),
  s = ⟨(.bptr (rCells P lo hi den D L st) :: .agg (iCells a w d h) :: j2 :: .optr 0 0 :: .optr 1 0 :: pI a1 :: .optr 2 0 :: pI u :: pI v :: j9 :: ja :: jb :: jc :: jd :: je :: jf :: jg :: jh :: ji :: jj :: jk :: jl :: jm :: jn :: jo :: jp :: jq :: jr :: js :: jt :: pn D :: pn (i : Int) :: jw :: jx :: jy :: jz :: jA :: jB :: jC :: jD :: jE :: jF :: jG :: jH :: jI :: jJ :: jK :: jL :: jM :: jN :: jO :: jP :: jQ :: jR :: jS :: jT :: jU :: jV :: jW :: jX :: jY :: jZ :: j62 :: j63 :: j64 :: j65 :: j66 :: []), [.live 142 (iCells a w d h), .live 145 [.lst 0 [], .lst 0 [], .lst 0 [], .lst 0 [], .lst 0 [], .lst 0 [], .lst 0 [], .lst 0 [], .lst 0 []], .live 145 [pI x0, pI x1, pI x2, pI x3, pI x4, pI x5, pI x6, pI x7, pI x8], .frz 3 [pn 1], .frz 3 [pn 1]], q⟩ /\ mm = D - i /\ i <= D /\ B2 (1 + 401 * i) u /\ B2 (1 + 401 * i) v /\ q <= 60000 + 200000 * i, ⟨D, ?_⟩, ?_⟩
 ·refine ⟨_, FrzS.trans (frzS_tmp (i := 7) (v := .own 3 0 1 1 1) (by rfl) (by exact ⟨3, [pn 1], [pn 1], rfl, ⟨by decide, by decide⟩, rfl, rfl⟩)) (frzS_tmp (i := 8) (v := .own 4 0 1 1 1) (by rfl) (by exact ⟨3, [pn 1], [pn 1], rfl, ⟨by decide, by decide⟩, rfl, rfl⟩)), ?_⟩
  exact ⟨0, 1, 1, 0, 0, 0, 0, 0, 0, 0, 0, d ^ (D - 1), _, _, _, _, _, _, _, _, _, _, _, _, _, _, _, _, _, _, _, _, _, _, _, _, _, _, _, _, _, _, _, _, _, _, _, _, _, _, _, _, _, _, _, _, _, _, _, _, _, _, _, _, _, _, _, _, _, _, rfl, rfl, by omega, by unfold B2; decide, by unfold B2; decide, by omega⟩
 ·rintro mm s ⟨i, u, v, x0, x1, x2, x3, x4, x5, x6, x7, x8, q, j2, j9, ja, jb, jc, jd, je, jf, jg, jh, ji, jj, jk, jl, jm, jn, jo, jp, jq, jr, js, jt, jw, jx, jy, jz, jA, jB, jC, jD, jE, jF, jG, jH, jI, jJ, jK, jL, jM, jN, jO, jP, jQ, jR, jS, jT, jU, jV, jW, jX, jY, jZ, j62, j63, j64, j65, j66, rfl, hm, hi, hu, hv, hq⟩
  refine ⟨fun hlt => ?_, fun hge => ?_⟩
  ·have eE : (D : Int) - 1 - (i : Int) = ((D - 1 - i : Nat) : Int) := by omega
   have lu := big hu (by omega)
   have lv := big hv (by omega)
   have bE := pw3 (D - 1 - i) (by omega)
   have lE := big bE (by omega)
   refine ⟨by kernel_rfl, ?_⟩
   refine ⟨_, rfl, rfl, ?_⟩
   refine ⟨(show 4 <= st.length + 6 by omega), _, rfl, rfl, ?_⟩
   refine ⟨⟨by omega, by omega⟩, ?_⟩
   refine ⟨⟨by omega, by omega⟩, ?_⟩
   rw [eE]
   refine callq rfl (power_ct S hS.c.i hS.h159 (x := d) (g := 400) (n := D - 1 - i) hd (by omega) (by omega) (by omega)) (by omega) ?_
   rintro _ rfl
   refine ⟨by kernel_rfl, ?_⟩
   refine callq rfl (prod_ct S hS.c.i.o hS.c.i.h116 (X := u) (Y := d ^ (D - 1 - i)) (by omega) (by omega)) (by omega) ?_
   rintro _ rfl
   refine callq rfl (prod_ct S hS.c.i.o hS.c.i.h116 (X := v) (Y := d ^ (D - 1 - i)) (by omega) (by omega)) (by omega) ?_
   rintro _ rfl
   have hi4 : i = 0 ∨ i = 1 ∨ i = 2 ∨ i = 3 := by omega
   have hsp := spread_ct S hS.c.i hS.h199 (a := u) (b := v) (x := a) (y := a1) (e := 1 + 401 * i) (g := 401) hu hv (ha.mono (by omega)) b5 (by omega) (by omega)
   obtain ⟨U, hU⟩ : ∃ U, u * d ^ (D - 1 - i) = U := ⟨_, rfl⟩
   obtain ⟨V, hV⟩ : ∃ V, v * d ^ (D - 1 - i) = V := ⟨_, rfl⟩
   rw [hU, hV]
   rcases hi4 with rfl | rfl | rfl | rfl
   ·skip
    refine ⟨⟨by omega, by omega⟩, ?_⟩
    refine ⟨_, _, rfl, ⟨rfl, Nat.le_of_ble_eq_true rfl, rfl⟩, _, rfl, [.live 142 (iCells a w d h), .live 145 [.lst 0 [], .lst 0 [], .lst 0 [], .lst 0 [], .lst 0 [], .lst 0 [], .lst 0 [], .lst 0 [], .lst 0 []], .live 145 [pI U, pI x1, pI x2, pI x3, pI x4, pI x5, pI x6, pI x7, pI x8], .frz 3 [pn 1], .frz 3 [pn 1]], rfl, ?_⟩
    refine ⟨⟨by omega, by omega⟩, ?_⟩
    refine ⟨_, _, rfl, ⟨rfl, Nat.le_of_ble_eq_true rfl, rfl⟩, _, rfl, [.live 142 (iCells a w d h), .live 145 [.lst 0 [], .lst 0 [], .lst 0 [], .lst 0 [], .lst 0 [], .lst 0 [], .lst 0 [], .lst 0 [], .lst 0 []], .live 145 [pI U, pI x1, pI x2, pI x3, pI V, pI x5, pI x6, pI x7, pI x8], .frz 3 [pn 1], .frz 3 [pn 1]], rfl, ?_⟩
    refine ⟨_, rfl, ?_⟩
    refine callq rfl hsp (by omega) ?_
    rintro _ ⟨u', v', hu', hv', rfl⟩
    refine ⟨⟨by omega, by omega⟩, ?_⟩
    exact ⟨D - (0 + 1), by omega, ci ⟨0 + 1, u', v', U, x1, x2, x3, V, x5, x6, x7, x8, _, _, _, _, _, _, _, _, _, _, _, _, _, _, _, _, _, _, _, _, _, _, _, _, _, _, _, _, _, _, _, _, _, _, _, _, _, _, _, _, _, _, _, _, _, _, _, _, _, _, _, _, _, _, _, _, _, _, rfl, rfl, by omega, hu'.mono (by omega), hv'.mono (by omega), by omega⟩⟩
   ·skip
    refine ⟨⟨by omega, by omega⟩, ?_⟩
    refine ⟨_, _, rfl, ⟨rfl, Nat.le_of_ble_eq_true rfl, rfl⟩, _, rfl, [.live 142 (iCells a w d h), .live 145 [.lst 0 [], .lst 0 [], .lst 0 [], .lst 0 [], .lst 0 [], .lst 0 [], .lst 0 [], .lst 0 [], .lst 0 []], .live 145 [pI x0, pI U, pI x2, pI x3, pI x4, pI x5, pI x6, pI x7, pI x8], .frz 3 [pn 1], .frz 3 [pn 1]], rfl, ?_⟩
    refine ⟨⟨by omega, by omega⟩, ?_⟩
    refine ⟨_, _, rfl, ⟨rfl, Nat.le_of_ble_eq_true rfl, rfl⟩, _, rfl, [.live 142 (iCells a w d h), .live 145 [.lst 0 [], .lst 0 [], .lst 0 [], .lst 0 [], .lst 0 [], .lst 0 [], .lst 0 [], .lst 0 [], .lst 0 []], .live 145 [pI x0, pI U, pI x2, pI x3, pI x4, pI V, pI x6, pI x7, pI x8], .frz 3 [pn 1], .frz 3 [pn 1]], rfl, ?_⟩
    refine ⟨_, rfl, ?_⟩
    refine callq rfl hsp (by omega) ?_
    rintro _ ⟨u', v', hu', hv', rfl⟩
    refine ⟨⟨by omega, by omega⟩, ?_⟩
    exact ⟨D - (1 + 1), by omega, ci ⟨1 + 1, u', v', x0, U, x2, x3, x4, V, x6, x7, x8, _, _, _, _, _, _, _, _, _, _, _, _, _, _, _, _, _, _, _, _, _, _, _, _, _, _, _, _, _, _, _, _, _, _, _, _, _, _, _, _, _, _, _, _, _, _, _, _, _, _, _, _, _, _, _, _, _, _, rfl, rfl, by omega, hu'.mono (by omega), hv'.mono (by omega), by omega⟩⟩
   ·skip
    refine ⟨⟨by omega, by omega⟩, ?_⟩
    refine ⟨_, _, rfl, ⟨rfl, Nat.le_of_ble_eq_true rfl, rfl⟩, _, rfl, [.live 142 (iCells a w d h), .live 145 [.lst 0 [], .lst 0 [], .lst 0 [], .lst 0 [], .lst 0 [], .lst 0 [], .lst 0 [], .lst 0 [], .lst 0 []], .live 145 [pI x0, pI x1, pI U, pI x3, pI x4, pI x5, pI x6, pI x7, pI x8], .frz 3 [pn 1], .frz 3 [pn 1]], rfl, ?_⟩
    refine ⟨⟨by omega, by omega⟩, ?_⟩
    refine ⟨_, _, rfl, ⟨rfl, Nat.le_of_ble_eq_true rfl, rfl⟩, _, rfl, [.live 142 (iCells a w d h), .live 145 [.lst 0 [], .lst 0 [], .lst 0 [], .lst 0 [], .lst 0 [], .lst 0 [], .lst 0 [], .lst 0 [], .lst 0 []], .live 145 [pI x0, pI x1, pI U, pI x3, pI x4, pI x5, pI V, pI x7, pI x8], .frz 3 [pn 1], .frz 3 [pn 1]], rfl, ?_⟩
    refine ⟨_, rfl, ?_⟩
    refine callq rfl hsp (by omega) ?_
    rintro _ ⟨u', v', hu', hv', rfl⟩
    refine ⟨⟨by omega, by omega⟩, ?_⟩
    exact ⟨D - (2 + 1), by omega, ci ⟨2 + 1, u', v', x0, x1, U, x3, x4, x5, V, x7, x8, _, _, _, _, _, _, _, _, _, _, _, _, _, _, _, _, _, _, _, _, _, _, _, _, _, _, _, _, _, _, _, _, _, _, _, _, _, _, _, _, _, _, _, _, _, _, _, _, _, _, _, _, _, _, _, _, _, _, rfl, rfl, by omega, hu'.mono (by omega), hv'.mono (by omega), by omega⟩⟩
   ·skip
    refine ⟨⟨by omega, by omega⟩, ?_⟩
    refine ⟨_, _, rfl, ⟨rfl, Nat.le_of_ble_eq_true rfl, rfl⟩, _, rfl, [.live 142 (iCells a w d h), .live 145 [.lst 0 [], .lst 0 [], .lst 0 [], .lst 0 [], .lst 0 [], .lst 0 [], .lst 0 [], .lst 0 [], .lst 0 []], .live 145 [pI x0, pI x1, pI x2, pI U, pI x4, pI x5, pI x6, pI x7, pI x8], .frz 3 [pn 1], .frz 3 [pn 1]], rfl, ?_⟩
    refine ⟨⟨by omega, by omega⟩, ?_⟩
    refine ⟨_, _, rfl, ⟨rfl, Nat.le_of_ble_eq_true rfl, rfl⟩, _, rfl, [.live 142 (iCells a w d h), .live 145 [.lst 0 [], .lst 0 [], .lst 0 [], .lst 0 [], .lst 0 [], .lst 0 [], .lst 0 [], .lst 0 [], .lst 0 []], .live 145 [pI x0, pI x1, pI x2, pI U, pI x4, pI x5, pI x6, pI V, pI x8], .frz 3 [pn 1], .frz 3 [pn 1]], rfl, ?_⟩
    refine ⟨_, rfl, ?_⟩
    refine callq rfl hsp (by omega) ?_
    rintro _ ⟨u', v', hu', hv', rfl⟩
    refine ⟨⟨by omega, by omega⟩, ?_⟩
    exact ⟨D - (3 + 1), by omega, ci ⟨3 + 1, u', v', x0, x1, x2, U, x4, x5, x6, V, x8, _, _, _, _, _, _, _, _, _, _, _, _, _, _, _, _, _, _, _, _, _, _, _, _, _, _, _, _, _, _, _, _, _, _, _, _, _, _, _, _, _, _, _, _, _, _, _, _, _, _, _, _, _, _, _, _, _, _, rfl, rfl, by omega, hu'.mono (by omega), hv'.mono (by omega), by omega⟩⟩
  ·refine ⟨_, rfl, ?_⟩
   refine ⟨_, _, rfl, ⟨rfl, Nat.le_of_ble_eq_true rfl, rfl⟩, _, rfl, _, rfl, ?_⟩
   refine ⟨_, rfl, ?_⟩
   exact endq rfl ⟨x0, x1, x2, x3, x4, x5, x6, x7, x8, rfl⟩
end Go.PI
