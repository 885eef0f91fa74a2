/- One times the other. -/
import Derived.Test.YtlgfjgkcgimdoaaDoorAdd
import Derived.Test.YtlgfjgkcgimdoaaDoorTake
namespace Go.Proofs.YtlgfjgkcgimdoaaDoor
open Go Go.RowKit

theorem mul_lim {us vs : List Nat} (hu : Can 4294967296 us) (hv : Can 4294967296 vs) (h0 : us ≠ []) (h1 : vs ≠ []) (hl : 512 < us.length + vs.length - 1) : Lim ≤ val 4294967296 us * val 4294967296 vs := by
  have a := Nat.mul_le_mul (hu.ge h0) (hv.ge h1)
  rw [← Nat.pow_add] at a
  have : 0 < us.length := List.length_pos_iff.2 h0
  have : 0 < vs.length := List.length_pos_iff.2 h1
  exact Nat.le_trans (Nat.pow_le_pow_right (by omega) (show maxL ≤ us.length - 1 + (vs.length - 1) by unfold maxL; omega)) a

/-- One row more of a product. -/
theorem row_step {B k x c vp vm vm' V U : Nat} {lv : Nat} (h : vp + B ^ k * vm = U * V) (h' : vm' + c * B ^ lv = vm + x * V) : vp + B ^ k * (vm' + B ^ lv * c) = (U + B ^ k * x) * V := by
  have e : vm' + B ^ lv * c = vm + x * V := by rw [Nat.mul_comm]; exact h'
  rw [e, Nat.mul_add, Nat.add_mul, ← h, Nat.mul_assoc]; omega

theorem replicate_pos {n : Nat} (h : 0 < n) : List.replicate n 0 = (0 : Nat) :: List.replicate (n - 1) 0 := by
  obtain ⟨m, rfl⟩ : ∃ m, n = m + 1 := ⟨n - 1, by omega⟩
  simp [List.replicate_succ]

set_option maxRecDepth 100000 in
set_option maxHeartbeats 2000000 in
theorem mul_c (w : World) (va vb : Value) (xs ys : List Nat) (ha : Rd .u32 w va xs) (hb : Rd .u32 w vb ys) (hxs : ∀ x ∈ xs, x < 4294967296) (hys : ∀ x ∈ ys, x < 4294967296)
    (hla : xs.length ≤ 1000000) (hlb : ys.length ≤ 1000000) :
    Calls Tryd.prog 35 #[va, vb] w (Fitted w (val 4294967296 xs * val 4294967296 ys)) := by
  have ht1 := trim_num w va xs ha hxs
  go_enter Tryd.func35, Tryd.ntmps35
  go_wp2_with fail
  refine ht1.mono ?_
  rintro e w1 ⟨v1, us, rfl, hR1, hC1, hv1, hl1, hB1⟩
  have ht2 := trim_num w1 vb ys (hb.below hB1) hys
  clear ht1
  go_wp2_with fail
  refine ht2.mono ?_
  rintro e w2 ⟨v2, vs, rfl, hR2, hC2, hv2, hl2, hB2⟩
  have hR1' := hR1.below hB2
  have hB := below_trans hB1 hB2
  obtain ⟨A1, c1, rfl, _⟩ := hR1'.form
  obtain ⟨A2, c2, rfl, _⟩ := hR2.form
  have Hs : Hid (val 4294967296 us * val 4294967296 vs = val 4294967296 xs * val 4294967296 ys) := by rw [Hid, hv1, hv2]
  have hl1' : us.length ≤ 1000000 := by omega
  have hl2' : vs.length ≤ 1000000 := by omega
  clear ht2 hv1 hv2 hl1 hl2 hR1 hB1 hB2 ha hb hxs hys hla hlb
  by_cases hu0 : us.length = 0
  · have hu0' : ((us.length : Int) == 0) = true := by rw [beq_iff_eq]; omega
    have hus : us = [] := List.eq_nil_of_length_eq_zero hu0
    have Hz := Lib.hid hu0
    clear hu0
    go_wp2_with fail
    go_ret2
    have e : val 4294967296 xs * val 4294967296 ys = 0 := by rw [← Hs.out, hus]; simp
    exact ⟨hB, .inl ⟨by rw [e]; exact Nat.pow_pos (by omega), _, rfl, by rw [e]; exact NumV.nil _⟩⟩
  · have hu0' : ((us.length : Int) == 0) = false := by rw [beq_eq_false_iff_ne]; omega
    by_cases hv0 : vs.length = 0
    · have hv0' : ((vs.length : Int) == 0) = true := by rw [beq_iff_eq]; omega
      have hvs : vs = [] := List.eq_nil_of_length_eq_zero hv0
      have Hz := Lib.hid hv0
      clear hv0
      go_wp2_with fail
      go_ret2
      have e : val 4294967296 xs * val 4294967296 ys = 0 := by rw [← Hs.out, hvs]; simp
      exact ⟨hB, .inl ⟨by rw [e]; exact Nat.pow_pos (by omega), _, rfl, by rw [e]; exact NumV.nil _⟩⟩
    · have hv0' : ((vs.length : Int) == 0) = false := by rw [beq_eq_false_iff_ne]; omega
      have hup : 0 < us.length := by omega
      have hvp : 0 < vs.length := by omega
      clear hu0 hv0
      by_cases hbig : 512 < us.length + vs.length - 1
      · have hbig' : decide ((512 : Int) < (us.length : Int) + (vs.length : Int) - 1) = true := by rw [decide_eq_true_iff]; omega
        go_wp2_with fail
        go_ret2
        exact ⟨hB, .inr ⟨by rw [← Hs.out]; exact mul_lim hC1 hC2 (List.length_pos_iff.1 hup) (List.length_pos_iff.1 hvp) hbig, rfl⟩⟩
      · have hbig' : decide ((512 : Int) < (us.length : Int) + (vs.length : Int) - 1) = false := by rw [decide_eq_false_iff_not]; omega
        have hmk := make_nat (us.length + vs.length) ((us.length : Int) + (vs.length : Int)) (by omega) (by omega)
        go_wp2_with fail
        clear hmk hbig'
        have hO := Own.new w2 .u32 57 (List.replicate (us.length + vs.length) 0)
        have hBm := hB.trans (((Below.refl _ w2).alloc (Nat.le_refl _) (.cells (nums .u32 (List.replicate (us.length + vs.length) 0)) 57)).mono hB.size)
        have hRu1 := hR1'.below ((Below.refl _ w2).alloc (Nat.le_refl _) (.cells (nums .u32 (List.replicate (us.length + vs.length) 0)) 57))
        have hRv1 := hR2.below ((Below.refl _ w2).alloc (Nat.le_refl _) (.cells (nums .u32 (List.replicate (us.length + vs.length) 0)) 57))
        have hnu := hR1'.away (Nat.le_refl _)
        have hnv := hR2.away (Nat.le_refl _)
        have hgle := hB.size
        clear hR1' hR2 hB
        go_loopw [36] (fun i wr => ∃ (k : Nat) (r : List Nat), k ≤ us.length ∧ i = .int .i64 k ∧ Hid (r.length = k + vs.length) ∧ (∀ x ∈ r, x < 4294967296) ∧
            Hid (val 4294967296 r = val 4294967296 (us.take k) * val 4294967296 vs) ∧ Own .u32 57 wr w2.heap.size (r ++ List.replicate (us.length - k) 0) ∧
            Only w2.heap.size (w2.alloc (.cells (nums .u32 (List.replicate (us.length + vs.length) 0)) 57)) wr)
          (fun i _ => us.length - (intOf i).toNat)
        case atStart => exact ⟨0, List.replicate vs.length 0, Nat.zero_le _, rfl, by simp [Hid], mem_replicate_lt, by simp [Hid, val_replicate], by rw [Nat.sub_zero, List.replicate_append_replicate, show vs.length + us.length = us.length + vs.length by omega]; exact hO, Only.refl _ _⟩
        case round =>
          obtain ⟨k, r, hk, rfl, hrl, hrb, hv, hO', hG⟩ := hrel
          by_cases hlk : k < us.length
          · have hx : us[k]? = some us[k] := List.getElem?_eq_getElem hlk
            obtain ⟨x, hxx⟩ : ∃ x, us[k] = x := ⟨_, rfl⟩
            rw [hxx] at hx
            clear hxx
            have hxb := get_lt hC1.1 hx
            have hRu2 := hRu1.grown hG hnu
            have hRv2 := hRv1.grown hG hnv
            obtain ⟨b, off, rfl, _⟩ := hRu2.addr hup
            have hcx := hRu2.cell hx
            have hpl : (r.take k).length = k := by rw [List.length_take]; have := hrl.out; omega
            have hml : Hid ((r.drop k).length = vs.length) := by rw [Hid, List.length_drop]; have := hrl.out; omega
            have hO2 : Own .u32 57 wr w2.heap.size (r.take k ++ r.drop k ++ List.replicate (us.length - k) 0) := by rw [List.take_append_drop]; exact hO'
            have hcall := addTimes_c wr w2.heap.size (us.length + vs.length - k) (r.take k) (r.drop k) (List.replicate (us.length - k) 0) vs _ x hO2 (fun y hy => hrb y (List.mem_of_mem_drop hy)) hRv2 hC2.1 hnv hml hxb
            rw [hpl] at hcall
            have HC := Lib.hid hcall
            have Hx := Lib.hid hx
            have Hpl := Lib.hid hpl
            have HO' := Lib.hid hO'
            clear hcall hx hpl hO2
            go_wp2_with fail
            refine HC.out.mono ?_
            rintro e w3 ⟨m', c, rfl, hl', hb', hc', hv', hO3, hG3⟩
            have hml' : m'.length = vs.length := hl'.trans hml.out
            have hzz : (r.take k ++ m' ++ List.replicate (us.length - k) 0)[k + vs.length]? = some 0 := by
              rw [List.getElem?_append_right (by rw [List.length_append, Hpl.out, hml']; omega), List.length_append, Hpl.out, hml', Nat.sub_self, replicate_pos (by omega)]; rfl
            have hset : (r.take k ++ m' ++ List.replicate (us.length - k) 0).set (k + vs.length) c = (r.take k ++ m' ++ [c]) ++ List.replicate (us.length - (k + 1)) 0 := by
              rw [List.set_append_right _ _ (by rw [List.length_append, Hpl.out, hml']; omega), List.length_append, Hpl.out, hml', Nat.sub_self, replicate_pos (by omega)]
              simp [Nat.sub_sub]
            have hcz := hO3.cell hzz
            have hfz := hO3.frozen (k + vs.length)
            have hO4 := hO3.set (k + vs.length) c
            rw [hset] at hO4
            have hv4 : val 4294967296 (r.take k ++ m' ++ [c]) = val 4294967296 (us.take (k + 1)) * val 4294967296 vs := by
              rw [List.append_assoc, val_append, val_append, Hpl.out, hml', val_take_succ Hx.out]
              simp only [val_cons, val_nil, Nat.mul_zero, Nat.add_zero]
              refine row_step (vm := val 4294967296 (r.drop k)) ?_ (by rw [← hml.out]; exact hv')
              rw [← hv.out]; exact (val_split _ _ _ (by have := hrl.out; omega)).symm
            have hlen4 : (r.take k ++ m' ++ [c]).length = k + 1 + vs.length := by simp only [List.length_append, Hpl.out, hml', List.length_cons, List.length_nil]; omega
            have hb4 : ∀ y ∈ r.take k ++ m' ++ [c], y < 4294967296 := by
              intro y hy
              rcases List.mem_append.1 hy with hy | hy
              · rcases List.mem_append.1 hy with hy | hy
                · exact hrb y (List.mem_of_mem_take hy)
                · exact hb' y hy
              · simp at hy; omega
            have Hml' := Lib.hid hml'
            have Hv4 := Lib.hid hv4
            have Hlen4 := Lib.hid hlen4
            clear hl' hv' hml' hzz hset hv4 hlen4
            go_wp2_with fail
            go_roundw
            case rel => exact ⟨k + 1, _, by omega, by go_num, Hlen4, hb4, Hv4, hO4, (hG.trans hG3).set _ _⟩
            case measure => simp [intOf]; omega
          · obtain rfl : k = us.length := by omega
            have hO2 : Own .u32 57 wr w2.heap.size r := by simpa using hO'
            have hRs := hO2.whole (by have := hrl.out; omega)
            have hfit := fit_c _ _ _ hRs hrb
            rw [hrl.out] at hfit
            have e2 : val 4294967296 r = val 4294967296 xs * val 4294967296 ys := by
              rw [hv.out, List.take_length, Hs.out]
            rw [e2] at hfit
            have hBx : Below w.heap.size w wr := hG.below hBm hgle
            have HF := Lib.hid hfit
            clear hO2 hRs hfit e2 hO'
            go_wp2_with fail
            refine HF.out.mono ?_
            rintro e w' ⟨hBf, hF⟩
            have hBf' := below_trans hBx hBf
            rcases hF with ⟨hlim, v, rfl, hN⟩ | ⟨hlim, rfl⟩
            · go_wp2_with fail
              go_ret2
              exact ⟨hBf', .inl ⟨hlim, v, rfl, hN⟩⟩
            · go_wp2_with fail
              go_ret2
              exact ⟨hBf', .inr ⟨hlim, rfl⟩⟩
end Go.Proofs.YtlgfjgkcgimdoaaDoor
