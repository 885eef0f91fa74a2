/- One number is taken out of another one as often as it goes into it. -/
import Derived.Test.YtlgfjgkcgimdoaaDoorGuess
import Derived.Deep.RegionWith
namespace Go.Proofs.YtlgfjgkcgimdoaaDoor
open Go Go.RowKit

theorem guess_rd (w : World) (c1 c2 : Nat) (ga gb oa ob : Nat) (ms ys : List Nat) (hA : Rd .u32 w (.slice (some ⟨ga, oa, none⟩) (ys.length + 1) c1) ms) (hB : Rd .u32 w (.slice (some ⟨gb, ob, none⟩) ys.length c2) ys)
    (hms : ∀ x ∈ ms, x < 4294967296) (hys : Can 4294967296 ys) (hl : ms.length = ys.length + 1) (h2 : 2 ≤ ys.length) (hc : ys.length < 70368744177664) (hlt : val 4294967296 ms < 4294967296 * val 4294967296 ys) :
    Calls Tryd.prog 81 #[.slice (some ⟨ga, oa, none⟩) (ys.length + 1) c1, .slice (some ⟨gb, ob, none⟩) ys.length c2] w (Guessed w (val 4294967296 ms) (val 4294967296 ys)) := by
  obtain ⟨n, hn⟩ : ∃ n, ys.length = n + 2 := ⟨ys.length - 2, by omega⟩
  have g : ∀ {zs : List Nat} {i : Nat}, i < zs.length → ∃ x, zs[i]? = some x := fun h => ⟨_, List.getElem?_eq_getElem h⟩
  obtain ⟨u0, e0⟩ := g (zs := ms) (i := n + 2) (by omega)
  obtain ⟨u1, e1⟩ := g (zs := ms) (i := n + 1) (by omega)
  obtain ⟨u2, e2⟩ := g (zs := ms) (i := n) (by omega)
  obtain ⟨high, e3⟩ := g (zs := ys) (i := n + 1) (by omega)
  obtain ⟨next, e4⟩ := g (zs := ys) (i := n) (by omega)
  have b0 := get_lt hms e0
  have b1 := get_lt hms e1
  have b2 := get_lt hms e2
  have b3 := get_lt hys.1 e3
  have b4 := get_lt hys.1 e4
  have b5 : 0 < high := by
    rcases Nat.eq_zero_or_pos high with h | h
    · refine absurd ?_ hys.2
      rw [List.getLast?_eq_getElem?, show ys.length - 1 = n + 1 by omega, e3, h]
    · exact h
  have vm : val 4294967296 ms = val 4294967296 (ms.take n) + 4294967296 ^ n * u2 + 4294967296 ^ (n + 1) * u1 + 4294967296 ^ (n + 2) * u0 := by
    have := val_take_succ (B := 4294967296) e0
    rw [List.take_of_length_le (by omega), val_take_succ e1, val_take_succ e2] at this
    exact this
  have vy : val 4294967296 ys = val 4294967296 (ys.take n) + 4294967296 ^ n * next + 4294967296 ^ (n + 1) * high := by
    have := val_take_succ (B := 4294967296) e3
    rw [List.take_of_length_le (by omega), val_take_succ e4] at this
    exact this
  have lm : val 4294967296 (ms.take n) < 4294967296 ^ n := by
    have := val_lt (B := 4294967296) (xs := ms.take n) (fun x hx => hms x (List.mem_of_mem_take hx))
    rwa [List.length_take, Nat.min_eq_left (by omega)] at this
  have ly : val 4294967296 (ys.take n) < 4294967296 ^ n := by
    have := val_lt (B := 4294967296) (xs := ys.take n) (fun x hx => hys.1 x (List.mem_of_mem_take hx))
    rwa [List.length_take, Nat.min_eq_left (by omega)] at this
  have key := guess_c w c1 c2 n (by omega) ga gb oa ob u0 u1 u2 high next (hA.cell e0) (hA.cell e1) (hA.cell e2) (hB.cell e3) (hB.cell e4) b0 b1 b2 b3 b4 b5
    (val 4294967296 ms) (val 4294967296 ys) (4294967296 ^ n) (val 4294967296 (ms.take n)) (val 4294967296 (ys.take n))
    (by
      rw [Hid, vm, Nat.pow_succ 4294967296 (n + 1), Nat.pow_succ 4294967296 n]
      generalize 4294967296 ^ n = P
      have a1 : P * 4294967296 * 4294967296 * u0 = u0 * 4294967296 * (4294967296 * P) := by
        rw [Nat.mul_comm (P * 4294967296 * 4294967296) u0, Nat.mul_comm P, Nat.mul_assoc u0, Nat.mul_assoc 4294967296 P 4294967296, Nat.mul_comm P]
      have a2 : P * 4294967296 * u1 = u1 * (4294967296 * P) := by rw [Nat.mul_comm P, Nat.mul_comm]
      have a3 : P * u2 = u2 * P := Nat.mul_comm _ _
      rw [a1, a2, a3, Nat.add_mul]; omega) lm
    (by
      rw [Hid, vy, Nat.pow_succ 4294967296 n]
      generalize 4294967296 ^ n = P
      have a2 : P * 4294967296 * high = high * (4294967296 * P) := by rw [Nat.mul_comm P, Nat.mul_comm]
      have a3 : P * next = next * P := Nat.mul_comm _ _
      rw [a2, a3]; omega) ly hlt
  rw [hn]
  exact key

/-- What is taken out: as often as it goes, what is left is less. -/
def TakenOut (w : World) (g : Nat) (p m q : List Nat) (V : Nat) (e : Ending) (w' : World) : Prop :=
  ∃ (o : Nat) (m' : List Nat), e = .returned (.int .u32 o) ∧ o < 4294967296 ∧ m'.length = m.length ∧ (∀ x ∈ m', x < 4294967296) ∧
    val 4294967296 m' + o * V = val 4294967296 m ∧ val 4294967296 m' < V ∧ Own .u32 57 w' g (p ++ m' ++ q) ∧ Only g w w'

theorem Own.drewN {k : IntKind} {t : TypeId} {w : World} {g : Nat} {zs : List Nat} (h : Own k t w g zs) (n : Nat) : Own k t (w.drewN n) g zs := h
theorem Rd.drewN {k : IntKind} {w : World} {v : Value} {zs : List Nat} (h : Rd k w v zs) (n : Nat) : Rd k (w.drewN n) v zs := h
theorem only_drew (g : Nat) (w : World) : Only g w w.drew := ⟨rfl, rfl, rfl, Nat.le_refl _, fun _ _ _ => rfl⟩
theorem only_drewN (g : Nat) (w : World) (n : Nat) : Only g w (w.drewN n) := ⟨rfl, rfl, rfl, Nat.le_refl _, fun _ _ _ => rfl⟩

/-- Where it was one too many, the number is put back once: nothing is then left above. -/
theorem back_once {Q B a z c r : Nat} (ha : a < Q) (hr : r < Q) (h : a + Q * (z + c) = Q * B + r) : z + c = B ∧ a = r := by
  have hq : 0 < Q := by omega
  have h1 : (a + Q * (z + c)) / Q = z + c := by rw [Nat.add_mul_div_left _ _ hq, Nat.div_eq_of_lt ha, Nat.zero_add]
  have h2 : (Q * B + r) / Q = B := by rw [Nat.add_comm, Nat.add_mul_div_left _ _ hq, Nat.div_eq_of_lt hr, Nat.zero_add]
  have h3 : z + c = B := by rw [← h1, h, h2]
  refine ⟨h3, ?_⟩
  rw [h3] at h; omega

theorem takeOut_fin {w w2 w3 : World} {g nq : Nat} {p m q ys ma ma' : List Nat} {o z c : Nat} (hG0 : Only g (w.drewN nq) w2) (ho : o < 4294967296) (hopos : 1 ≤ o)
    (hlen : m.length = ys.length + 1) (hl : (ma ++ [z]).length = m.length) (hv : val 4294967296 (ma ++ [z]) + o * val 4294967296 ys = val 4294967296 m + owe true (4294967296 ^ m.length))
    (hb : ∀ x ∈ ma ++ [z], x < 4294967296) (hys : ∀ x ∈ ys, x < 4294967296) (hU2 : o * val 4294967296 ys ≤ val 4294967296 m + val 4294967296 ys)
    (H3 : ma'.length = ys.length ∧ (∀ x ∈ ma', x < 4294967296) ∧ val 4294967296 ma' + c * 4294967296 ^ ys.length = val 4294967296 ma + 1 * val 4294967296 ys ∧ Own .u32 57 w3 g (p ++ ma' ++ ([z] ++ q)) ∧ Only g w2 w3) :
    TakenOut w g p m q (val 4294967296 ys) (.returned (.int .u32 ((o : Int) - 1))) (w3.setCell ⟨g, p.length + ys.length, none⟩ (.int .u32 (IntKind.u32.wrap ((z : Int) + (c : Int))))) := by
  obtain ⟨h1, h2, h3, hO3, hG3⟩ := H3
  obtain ⟨o', rfl⟩ : ∃ o', o = o' + 1 := ⟨o - 1, by omega⟩
  have hV := val_lt hys
  have hva := val_lt h2
  have hvm := val_lt hb
  rw [hl, hlen] at hvm
  rw [h1] at hva
  have hma : ma.length = ys.length := by simp at hl; omega
  rw [hlen, val_append, hma] at hv
  simp only [val_cons, val_nil, Nat.mul_zero, Nat.add_zero, owe, if_true, Nat.pow_succ] at hv
  rw [val_append, hma] at hvm
  simp only [val_cons, val_nil, Nat.mul_zero, Nat.add_zero, Nat.pow_succ] at hvm
  rw [Nat.add_mul, Nat.one_mul] at hv hU2
  rw [Nat.one_mul] at h3
  have hc' : c * 4294967296 ^ ys.length = 4294967296 ^ ys.length * c := Nat.mul_comm _ _
  obtain ⟨e1, e2⟩ := back_once (B := 4294967296) (z := z) (c := c) (r := val 4294967296 m - o' * val 4294967296 ys) hva (by omega) (by rw [Nat.mul_add]; omega)
  have ew : IntKind.u32.wrap ((z : Int) + (c : Int)) = ((0 : Nat) : Int) := by
    rw [IntKind.wrap_u32']; omega
  have hz0 : (p ++ ma' ++ ([z] ++ q)).set (p.length + ys.length) 0 = p ++ (ma' ++ [0]) ++ q := by
    rw [List.set_append_right _ _ (by simp; omega)]
    simp [h1]
  refine ⟨o', ma' ++ [0], ?_, by omega, by simp [h1, hlen], ?_, ?_, ?_, ?_, ?_⟩
  · exact congrArg (fun t => Ending.returned (.int .u32 t)) (by omega)
  · intro x hx
    rcases List.mem_append.1 hx with hx | hx
    · exact h2 x hx
    · simp at hx; omega
  · rw [val_append]; simp; omega
  · rw [val_append]; simp; omega
  · rw [ew, ← hz0]; exact hO3.set _ _
  · exact (((only_drewN g w nq).trans hG0).trans hG3).set _ _

set_option maxRecDepth 100000 in
set_option maxHeartbeats 4000000 in
theorem takeOut_c (w : World) (g cap : Nat) (p m q ys : List Nat) (gb ob c2 : Nat) (hO : Own .u32 57 w g (p ++ m ++ q)) (hm : ∀ x ∈ m, x < 4294967296)
    (hR : Rd .u32 w (.slice (some ⟨gb, ob, none⟩) ys.length c2) ys) (hys : Can 4294967296 ys) (hne : gb ≠ g) (hlen : Hid (m.length = ys.length + 1)) (h2 : 2 ≤ ys.length) (hc : ys.length < 70368744177664)
    (hcap : ys.length + 1 ≤ cap) (hcap2 : cap ≤ 70368744177664) (hlt : Hid (val 4294967296 m < 4294967296 * val 4294967296 ys)) :
    Calls Tryd.prog 71 #[.slice (some ⟨g, p.length, none⟩) (ys.length + 1) cap, .slice (some ⟨gb, ob, none⟩) ys.length c2] w (TakenOut w g p m q (val 4294967296 ys)) := by
  have hblk : 0 < ys.length → blk (.slice (some ⟨gb, ob, none⟩) ys.length c2) ≠ some g := fun _ e => hne (by injection e)
  have hA : Rd .u32 w (.slice (some ⟨g, p.length, none⟩) (ys.length + 1) cap) m := by
    have := hO.rd (off := p.length) (n := ys.length + 1) (cap := cap) (by simp; have := hlen.out; omega) hcap hcap2
    have e : ((p ++ m ++ q).drop p.length).take (ys.length + 1) = m := by
      rw [List.append_assoc, List.drop_left, ← hlen.out, List.take_left]
    rwa [e] at this
  have hg := guess_rd w cap c2 g gb p.length ob m ys hA hR hm hys hlen.out h2 hc hlt.out
  go_enter Tryd.func71, Tryd.ntmps71
  go_wp2_with fail
  refine hg.mono ?_
  rintro e w1 ⟨o, nq, rfl, rfl, ho, hU1, hU2⟩
  clear hg hA
  go_wp2_with fail
  refine (subTimes_c (w.drewN nq) g cap p m q ys _ o (hO.drewN nq) hm (hR.drewN nq) hys.1 hblk hlen ho).mono ?_
  rintro e w2 ⟨m', sh, rfl, hl', hm', hv, hO', hG⟩
  have HU1 := Lib.hid hU1
  have HU2 := Lib.hid hU2
  have Hv := Lib.hid hv
  have Hl := Lib.hid hl'
  clear hU1 hU2 hv hl'
  cases sh
  · go_wp2_with fail
    go_ret
    have hv := Hv.out
    have hU1 := HU1.out
    simp only [owe, Bool.false_eq_true, if_false, Nat.add_zero] at hv
    refine ⟨o, m', rfl, ho, Hl.out, hm', hv, ?_, hO', (only_drewN g w nq).trans hG⟩
    rw [Nat.add_mul, Nat.one_mul] at hU1
    omega
  · -- one too many
    have hopos : 1 ≤ o := by
      rcases Nat.eq_zero_or_pos o with h | h
      · have hv := Hv.out
        have := val_lt (B := 4294967296) hm'
        rw [Hl.out] at this
        simp only [owe, if_true, h, Nat.zero_mul, Nat.add_zero] at hv
        omega
      · exact h
    obtain ⟨ma, z, hmz⟩ : ∃ ma z, m' = ma ++ [z] := by
      have : m' ≠ [] := by intro e; have := Hl.out; have := hlen.out; rw [e] at *; simp at *; omega
      exact ⟨m'.dropLast, m'.getLast this, (List.dropLast_concat_getLast this).symm⟩
    subst hmz
    have hma : ma.length = ys.length := by have := Hl.out; have := hlen.out; simp at *; omega
    have hzb : z < 4294967296 := hm' z (by simp)
    have hab : ∀ x ∈ ma, x < 4294967296 := fun x hx => hm' x (by simp [hx])
    have hO2 : Own .u32 57 w2 g (p ++ ma ++ ([z] ++ q)) := by simpa using hO'
    have hz0 : (p ++ ma ++ ([z] ++ q))[p.length + ys.length]? = some z := by
      rw [List.getElem?_append_right (by simp; omega)]
      simp [hma]
    have hcz := hO2.cell hz0
    have hfz := hO2.frozen (p.length + ys.length)
    have hR2 : Rd .u32 w2 (.slice (some ⟨gb, ob, none⟩) ys.length c2) ys := (hR.drewN nq).grown hG hblk
    have Hma := Lib.hid hma
    clear hma hz0
    have hcall : Calls Tryd.prog 53 #[.slice (some ⟨g, p.length, none⟩) ys.length cap, .slice (some ⟨gb, ob, none⟩) ys.length c2, .int .u32 1] w2.drew fun e w3 =>
        ∃ (ma' : List Nat) (c : Nat), e = .returned (.int .u32 (c : Int)) ∧ c < 4294967296 ∧ w3.cell? ⟨g, p.length + ys.length, none⟩ = some (.int .u32 z) ∧ w3.frozen? ⟨g, p.length + ys.length, none⟩ = false ∧
          Hid (ma'.length = ys.length ∧ (∀ x ∈ ma', x < 4294967296) ∧ val 4294967296 ma' + c * 4294967296 ^ ys.length = val 4294967296 ma + 1 * val 4294967296 ys ∧ Own .u32 57 w3 g (p ++ ma' ++ ([z] ++ q)) ∧ Only g w2 w3) := by
      refine (addTimes_c w2.drew g cap p ma ([z] ++ q) ys _ 1 hO2.drew hab hR2 hys.1 hblk Hma.out (by omega)).mono ?_
      rintro e w3 ⟨ma', c, rfl, hl3, hb3, hc3, hv3, hO3, hG3⟩
      have hz3 : (p ++ ma' ++ ([z] ++ q))[p.length + ys.length]? = some z := by
        rw [List.getElem?_append_right (by simp; have := Hma.out; omega)]
        simp [hl3, Hma.out]
      rw [Hma.out] at hl3 hv3
      exact ⟨ma', c, rfl, hc3, hO3.cell hz3, hO3.frozen _, hl3, hb3, hv3, hO3, (only_drew g w2).trans hG3⟩
    have HC := Lib.hid hcall
    clear hcall
    go_wp2_with fail
    go_region_with (go_at_call 53; refine HC.out.mono ?_; rintro e w3 ⟨ma', c, rfl, hcb, hc3, hf3, H3⟩)
    all_goals
      go_wp2
      go_ret
      exact takeOut_fin hG ho hopos hlen.out Hl.out Hv.out hm' hys.1 HU2.out H3.out
end Go.Proofs.YtlgfjgkcgimdoaaDoor
