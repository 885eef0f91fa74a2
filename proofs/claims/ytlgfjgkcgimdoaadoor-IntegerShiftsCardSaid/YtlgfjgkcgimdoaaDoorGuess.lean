/- How often one number goes into another one, guessed by the highest digits: right, or one too many. -/
import Derived.Test.YtlgfjgkcgimdoaaDoorTake
import Derived.Test.YtlgfjgkcgimdoaaDoorNum
namespace Go.Proofs.YtlgfjgkcgimdoaaDoor
open Go Go.RowKit

theorem or64 {x y : Nat} (hx : x < 4294967296) (hy : y < 4294967296) : bits BinOp.or IntKind.u64 ((x : Int) * 4294967296) (y : Int) = ((x * 4294967296 + y : Nat) : Int) := by
  rw [← join_low hy, ← u64_or_nat _ _ (by omega) (by omega)]; rfl

/-- What is guessed: right, or one too many. -/
def Guessed (w : World) (U V : Nat) (e : Ending) (w' : World) : Prop :=
  ∃ (o nq : Nat), e = .returned (.int .u32 o) ∧ w' = w.drewN nq ∧ o < 4294967296 ∧ U < (o + 1) * V ∧ o * V ≤ U + V

set_option maxRecDepth 100000 in
set_option maxHeartbeats 4000000 in
theorem guess_c (w : World) (c1 c2 : Nat) (n : Nat) (hn : n < 70368744177664) (ga gb oa ob : Nat) (u0 u1 u2 high next : Nat)
    (h0 : w.cell? ⟨ga, oa + (n + 2), none⟩ = some (.int .u32 u0)) (h1 : w.cell? ⟨ga, oa + (n + 1), none⟩ = some (.int .u32 u1)) (h2 : w.cell? ⟨ga, oa + n, none⟩ = some (.int .u32 u2))
    (h3 : w.cell? ⟨gb, ob + (n + 1), none⟩ = some (.int .u32 high)) (h4 : w.cell? ⟨gb, ob + n, none⟩ = some (.int .u32 next))
    (b0 : u0 < 4294967296) (b1 : u1 < 4294967296) (b2 : u2 < 4294967296) (b3 : high < 4294967296) (b4 : next < 4294967296) (b5 : 0 < high)
    (U V P Ul Vl : Nat) (hU : Hid (U = (u0 * 4294967296 + u1) * (4294967296 * P) + u2 * P + Ul)) (hUl : Ul < P) (hV : Hid (V = high * (4294967296 * P) + next * P + Vl)) (hVl : Vl < P) (hUV : Hid (U < 4294967296 * V)) :
    Calls Tryd.prog 81 #[.slice (some ⟨ga, oa, none⟩) (n + 3) c1, .slice (some ⟨gb, ob, none⟩) (n + 2) c2] w (Guessed w U V) := by
  obtain ⟨top, htop⟩ : ∃ top, top = u0 * 4294967296 + u1 := ⟨_, rfl⟩
  have htb : top < 18446744073709551616 := by omega
  have hor := or64 b0 b1
  rw [← htop] at hor
  have hU' := hU.out
  rw [← htop] at hU'
  obtain ⟨q, hq⟩ : ∃ q, q = top / high := ⟨_, rfl⟩
  have hdv : (top : Int) / (high : Int) = (q : Int) := by rw [hq]; exact (Int.natCast_ediv top high).symm
  obtain ⟨qh, hqh⟩ : ∃ qh, qh = q * high := ⟨_, rfl⟩
  have hmul : (q : Int) * (high : Int) = (qh : Int) := by rw [hqh]; exact (Int.natCast_mul q high).symm
  have hqle : qh ≤ top := by rw [hqh, hq]; exact Nat.div_mul_le_self top high
  have hqtop : q ≤ top := by rw [hq]; exact Nat.div_le_self _ _
  have hi1 := guess_init hU' hUl b2 hV.out b5
  rw [← hq] at hi1
  have h1h : (1 : Int) ≤ (high : Int) := by omega
  have hqt : top < (q + 1) * high := by rw [hq]; exact Nat.lt_div_mul_add b5 |> fun h => by rw [Nat.add_mul, Nat.one_mul]; exact h
  have HU := Lib.hid hU'
  have Hi1 := Lib.hid hi1
  have Hq := Lib.hid hq
  have Hqh := Lib.hid hqh
  have Htop := Lib.hid htop
  have Hqt := Lib.hid hqt
  clear hU' hi1 hq hqh htop hU hqt
  have start : ∃ o r : Nat, ((q ≤ 4294967295 ∧ o = q ∧ r = top - qh) ∨ (4294967295 < q ∧ o = 4294967295 ∧ r = top - 4294967295 * high ∧ 4294967295 * high ≤ top)) ∧ o ≤ 4294967295 ∧ top = o * high + r ∧ U < (o + 1) * V := by
    by_cases hb : q ≤ 4294967295
    · exact ⟨q, top - qh, .inl ⟨hb, rfl, rfl⟩, hb, by rw [← Hqh.out]; omega, Hi1.out⟩
    · have hle : 4294967295 * high ≤ top := Nat.le_trans (Nat.mul_le_mul_right high (by omega : 4294967295 ≤ q)) (by rw [← Hqh.out]; exact hqle)
      refine ⟨4294967295, top - 4294967295 * high, .inr ⟨by omega, rfl, rfl, hle⟩, Nat.le_refl _, by omega, ?_⟩
      exact Nat.lt_of_lt_of_le hUV.out (by omega)
  obtain ⟨o0, r0, hs, ho0, hr0, hi0⟩ := start
  have Hr0 := Lib.hid hr0
  have Hi0 := Lib.hid hi0
  clear hr0 hi0
  rcases hs with ⟨hb, rfl, rfl⟩ | ⟨hb, rfl, rfl, hle⟩
  all_goals
    go_enter Tryd.func81, Tryd.ntmps81
    go_wp2
    go_quiet (fail)
    go_wp2
    go_quiet (fail)
    go_wp2
    clear hor hdv hmul
    go_loop [9, 10] (fun a b => ∃ o r : Nat, a = .int .u64 o ∧ b = .int .u64 r ∧ o ≤ 4294967295 ∧ r ≤ 18446744073709551615 ∧ Hid (top = o * high + r) ∧ Hid (U < (o + 1) * V))
      (fun _ b => (4294967296 - intOf b).toNat)
    case atStart =>
      refine ⟨_, _, rfl, ?_, ho0, ?_, Hr0, Hi0⟩
      · exact congrArg (Value.int .u64) (by omega)
      · omega
    case round =>
      obtain ⟨o, r, rfl, rfl, ho, hr, hto, hUo⟩ := hrel
      obtain ⟨p2, hp2⟩ : ∃ p2, p2 = o * next := ⟨_, rfl⟩
      have hpm : (o : Int) * (next : Int) = (p2 : Int) := by rw [hp2]; exact (Int.natCast_mul o next).symm
      have hpb : p2 ≤ 18446744065119617025 := by rw [hp2]; exact Nat.mul_le_mul ho (show next ≤ 4294967295 by omega)
      have Hp2 := Lib.hid hp2
      clear hp2
      by_cases hrb : r < 4294967296
      · obtain ⟨t2, ht2⟩ : ∃ t2, t2 = r * 4294967296 + u2 := ⟨_, rfl⟩
        have hor2 := or64 hrb b2
        rw [← ht2] at hor2
        have ht2b : t2 ≤ 18446744073709551615 := by omega
        have Ht2 := Lib.hid ht2
        clear ht2
        have hd : decide ((r : Int) < 4294967296) = true := by rw [decide_eq_true_iff]; omega
        by_cases htt : t2 < p2
        · have hd2 : decide ((t2 : Int) < (p2 : Int)) = true := by rw [decide_eq_true_iff]; omega
          have hopos : 1 ≤ o := by
            rcases Nat.eq_zero_or_pos o with h | h
            · have := Hp2.out; rw [h, Nat.zero_mul] at this; omega
            · exact h
          go_wp2
          go_round
          case rel =>
            obtain ⟨o', rfl⟩ : ∃ o', o = o' + 1 := ⟨o - 1, by omega⟩
            have hst := guess_step HU.out hUl hV.out hto.out (by have := Ht2.out; have := Hp2.out; omega)
            refine ⟨o', r + high, by go_num, by go_num, by omega, by omega, ?_, hst⟩
            have := hto.out
            rw [Nat.add_mul, Nat.one_mul] at this
            rw [Hid]; omega
          case measure => simp [intOf]; omega
        · have hd2 : decide ((t2 : Int) < (p2 : Int)) = false := by rw [decide_eq_false_iff_not]; omega
          go_wp2
          go_ret
          refine ⟨o, _, rfl, rfl, by omega, hUo.out, ?_⟩
          exact guess_end HU.out hV.out hVl b4 b5 (by omega) hto.out (.inr (by have := Ht2.out; have := Hp2.out; omega))
      · have hd : decide ((r : Int) < 4294967296) = false := by rw [decide_eq_false_iff_not]; omega
        go_wp2
        go_ret
        refine ⟨o, _, rfl, rfl, by omega, hUo.out, ?_⟩
        exact guess_end HU.out hV.out hVl b4 b5 (by omega) hto.out (.inl (by omega))
end Go.Proofs.YtlgfjgkcgimdoaaDoor
