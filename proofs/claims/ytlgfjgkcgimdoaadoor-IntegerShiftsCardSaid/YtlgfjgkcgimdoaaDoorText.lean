/- A number's decimal digits. -/
import Derived.Test.YtlgfjgkcgimdoaaDoorNm
import Derived.Test.YtlgfjgkcgimdoaaDoorNum
import Derived.Test.YtlgfjgkcgimdoaaDoorBuild
import Derived.Deep.LoopGhost
namespace Go.Proofs.YtlgfjgkcgimdoaaDoor
open Go Go.RowKit Go.Shelf

theorem info_u64 : (Tryd.prog.info? 32).map (fun i => (i.zero, i.size, i.bytes)) = some (some (.int .u64 0), 1, 8) := by kernel_rfl
theorem Grown.below {k : IntKind} {t : TypeId} {base : Nat} {w w' : World} {v : Value} {zs : List Nat} (h : Grown k t base w v zs) (hb : Below w.heap.size w w') : Grown k t base w' v zs := by
  refine h.keep (below_grownBy hb) ?_
  cases v.ownBlock with
  | none => exact .inl rfl
  | some g => exact .inr (by simp)
def p1024 : Nat := 1024
theorem p1024_eq : p1024 = 2 * maxL := rfl
theorem lim_nine : Lim ≤ 1000000000 ^ p1024 := by
  rw [p1024_eq, Nat.pow_mul]
  exact Nat.pow_le_pow_left (by decide) _
theorem Cutting.len_le {n cur : Nat} {bs : List Nat} (h : Cutting n cur bs) (hn : n < Lim) : bs.length ≤ 1024 := by
  rcases h.2.2 with h0 | h0
  · omega
  · have := Nat.lt_of_lt_of_le (Nat.lt_of_le_of_lt (h.len h0) hn) lim_nine
    exact Nat.le_of_lt (show bs.length < p1024 from (Nat.pow_lt_pow_iff_right (by omega)).1 this)

/-- The blocks of a number. -/
def RetBlk (w : World) (n : Nat) (e : Ending) (w' : World) : Prop :=
  ∃ A cap bs, e = .returned (.slice A bs.length cap) ∧ Rd .u64 w' (.slice A bs.length cap) bs ∧ Blk n bs ∧ bs.length ≤ 1025 ∧ Below w.heap.size w w'

set_option maxRecDepth 100000 in
set_option maxHeartbeats 4000000 in
theorem blocksOf_c (w : World) (va : Value) (n : Nat) (ha : Nm w va n) (hn : n < Lim) : Calls Tryd.prog 56 #[va] w (RetBlk w n) := by
  have HA := Lib.hid (And.intro ha hn)
  clear ha hn
  go_enter Tryd.func56, Tryd.ntmps56
  go_wp2_with fail
  go_loopg [0, 3] n (fun g a b wr => ∃ bs : List Nat, Hid (Nm wr a g ∧ (Grown .u64 32 w.heap.size wr b bs ∧ AllK .u64 32 wr b) ∧ Cutting n g bs ∧ Below w.heap.size w wr))
  case atStart => exact ⟨[], HA.out.1, ⟨Grown.nil _ _ _ _, AllK.nil _ _ _⟩, Cutting.start n, Below.refl _ _⟩
  case round =>
    obtain ⟨bs, HR⟩ := hrel
    have hgl : Hid (gk < Lim) := by
      have h1 := HR.out.2.2.1
      have h2 : gk ≤ n := by
        rw [← h1.2.1]
        exact Nat.le_trans (Nat.le_mul_of_pos_left _ (Nat.pow_pos (by omega))) (Nat.le_add_left _ _)
      exact Nat.lt_of_le_of_lt h2 HA.out.2
    go_wp2_with fail
    refine (of_n _ 1000000000 (by omega)).mono ?_
    rintro e w1 ⟨v1, rfl, hv1, hb1⟩
    have H1 := Lib.hid (And.intro hv1 hb1)
    clear hv1 hb1
    go_wp2_with fail
    refine (div_n (HR.out.1.below H1.out.2) H1.out.1 (by omega) hgl.out).mono ?_
    rintro e w2 ⟨v2, v3, rfl, hv2, hv3, hb2⟩
    have H2 := Lib.hid (And.intro hv2 (And.intro hv3 hb2))
    clear hv2 hv3 hb2
    go_wp2_with fail
    refine (small_n H2.out.2.1 (by omega)).mono ?_
    rintro e w3 ⟨rfl, hb3⟩
    have H3 := Lib.hid hb3
    clear hb3
    have HB := Lib.hid (below_trans (below_trans (below_trans HR.out.2.2.2 H1.out.2) H2.out.2.2) H3.out)
    have HG := Lib.hid (And.intro (((HR.out.2.1.1.below H1.out.2).below H2.out.2.2).below H3.out) (((HR.out.2.1.2.below H1.out.2).below H2.out.2.2).below H3.out))
    obtain ⟨d, hd⟩ : ∃ d, gk % 1000000000 = d := ⟨_, rfl⟩
    rw [hd]
    have Hd := Lib.hid hd
    clear hd
    have Hlen := Lib.hid (show bs.length ≤ 1000000000 by have := HR.out.2.2.1.len_le HA.out.2; omega)
    go_wp2_with (at_builtin; refine wpList_app1k rfl (.tmp 23) (.tmp 25) 84 rfl w.heap.size 32 8 Tryd.underlying84 info_u64 (by omega) _ bs _ _ d ?_ rfl HG.out.1 HG.out.2 rfl Hlen.out w HB.out (Below.size HB.out) ?_)
    · rfl
    · intro v' w4 hG hK hB hgr
      have H4 := Lib.hid (And.intro (And.intro hG hK) hB)
      have HQ := Lib.hid ((H2.out.1.below H3.out).append (by decide) HG.out.2 hgr)
      clear hG hK hB hgr
      go_wp2_with fail
      refine (bits_n HQ.out).mono ?_
      rintro e w5 ⟨nb, rfl, hnb, hb5⟩
      have H5 := Lib.hid (And.intro hnb hb5)
      clear hnb hb5
      by_cases hq : gk / 1000000000 = 0
      · have h0 : nb = 0 := isBits_none (by have := H5.out.1; rwa [hq] at this)
        subst h0
        have HBK := Lib.hid (by have := HR.out.2.2.1.done hq; rwa [Hd.out] at this)
        clear hq
        have hl : (bs ++ [d]).length ≤ 1025 := by have := HR.out.2.2.1.len_le HA.out.2; simp; omega
        have hrd := (H4.out.1.1.below H5.out.2).rd (by omega)
        obtain ⟨A, c, hv⟩ := hrd.form
        obtain ⟨rfl, _⟩ := hv
        have HRD := Lib.hid (And.intro hrd hl)
        clear hrd hl
        go_wp2_with fail
        go_ret
        exact ⟨A, c, bs ++ [d], by rw [List.length_append]; rfl, HRD.out.1, HBK.out, HRD.out.2, below_trans H4.out.2 H5.out.2⟩
      · have h0 : 0 < nb := isBits_some H5.out.1 (Nat.pos_of_ne_zero hq)
        have hb0 : ((nb : Int) == 0) = false := by rw [beq_eq_false_iff_ne]; omega
        have HCT := Lib.hid (by have := HR.out.2.2.1.next hq; rwa [Hd.out] at this)
        have Hq := Lib.hid hq
        clear hq
        go_wp2_with fail
        go_roundg (gk / 1000000000)
        case rel =>
          exact ⟨bs ++ [d], HQ.out.below H5.out.2, ⟨H4.out.1.1.below H5.out.2, H4.out.1.2.below H5.out.2⟩, HCT.out, below_trans H4.out.2 H5.out.2⟩
        case measure => have := Hq.out; omega

theorem repeat_c (c : Nat) (hc : c ≤ 100000) (w : World) : Calls Tryd.prog 59 #[.string ⟨#[48]⟩, .int .i64 c] w fun e w' => e = .returned (.string ⟨(noughts c).toArray⟩) ∧ Below w.heap.size w w' :=
  (Tryd.strings_Repeat ⟨#[48]⟩ c w (by omega) (by show 1 * c ≤ _; omega)).mono fun _ _ h => by
    obtain ⟨rfl, hb⟩ := h
    exact ⟨by rw [← repeat_nought], hb⟩
theorem byte_size (l : List UInt8) : (⟨l.toArray⟩ : ByteArray).size = l.length := by simp [ByteArray.size]

/-- The decimal digits. -/
def RetText (w : World) (n : Nat) (e : Ending) (w' : World) : Prop := ∃ l : List UInt8, e = .returned (.string ⟨l.toArray⟩) ∧ Dec n l ∧ Below w.heap.size w w'

set_option maxRecDepth 100000 in
set_option maxHeartbeats 4000000 in
theorem text_c (w : World) (hT : Tab10 w) (va : Value) (n : Nat) (ha : Nm w va n) (hn : n < Lim) : Calls Tryd.prog 41 #[va] w (RetText w n) := by
  have hbl := blocksOf_c w va n ha hn
  have HT := Lib.hid hT
  clear hT ha hn
  go_enter Tryd.func41, Tryd.ntmps41
  go_wp2_with fail
  refine hbl.mono ?_
  rintro e w1 ⟨A, c, bs, rfl, hr, hB, hl, hb⟩
  have H1 := Lib.hid (And.intro hr (And.intro hB hb))
  have hpos : 0 < bs.length := List.length_pos_iff.2 hB.1
  clear hr hB hb hbl
  obtain ⟨b0, off, rfl, hb0⟩ := H1.out.1.addr hpos
  have HF := Lib.hid (Built.fresh w1)
  go_wp2_with fail
  go_loopw [11] (fun i wr => ∃ (k : Nat) (l : List UInt8), k ≤ bs.length ∧ i = .int .i64 k ∧ Hid (Built w1.heap.size l wr ∧ (k = 0 → l = []) ∧ (0 < k → Dec (val 1000000000 (bs.drop (bs.length - k))) l) ∧ Below w1.heap.size w1 wr ∧ l.length ≤ 9 * k)) (fun i _ => bs.length - (intOf i).toNat)
  case atStart => exact ⟨0, [], Nat.zero_le _, rfl, HF.out, fun _ => rfl, fun h => absurd h (by omega), (Below.refl _ w1).alloc (Nat.le_refl _) _, by simp⟩
  case round =>
    obtain ⟨k, l, hk, rfl, HR⟩ := hrel
    by_cases hlt : k < bs.length
    · obtain ⟨j, hj⟩ : ∃ j, bs.length - 1 - k = j := ⟨_, rfl⟩
      have hx : bs[j]? = some (bs[j]'(by omega)) := List.getElem?_eq_getElem (by omega)
      obtain ⟨x, hxx⟩ : ∃ x, (bs[j]'(by omega)) = x := ⟨_, rfl⟩
      rw [hxx] at hx
      clear hxx
      have e1 : (bs.length : Int) - 1 - (k : Int) = (j : Int) := by omega
      have hjl : (j : Int) < (bs.length : Int) := by omega
      have hc := (H1.out.1.below HR.out.2.2.2.1).cell hx
      have hxb := H1.out.2.1.2.1 x (List.mem_of_getElem? hx)
      have hds := dec_decDigits x
      have HX := Lib.hid (And.intro hx hj)
      have hft := formatUint_c x (by omega) wr ((HT.out.below H1.out.2.2).below HR.out.2.2.2.1)
      clear hx hj
      generalize Lib.decDigits x = ds at hds hft
      have hdl : ds.length ≤ 9 := hds.len_le (k := 9) (by simpa using hxb) (by omega)
      have HDS := Lib.hid hds
      clear hds
      go_wp2_with fail
      refine hft.mono ?_
      rintro e w2 ⟨rfl, hb2⟩
      have H2 := Lib.hid hb2
      clear hb2 hft hc
      have hsz : (⟨ds.toArray⟩ : ByteArray).size = ds.length := byte_size ds
      rcases Nat.eq_zero_or_pos k with rfl | hp
      · have hb : decide ((0 : Int) > 0) = false := by decide
        go_wp2_with fail
        refine (writeString_c w1.heap.size l ⟨ds.toArray⟩ w2 (HR.out.1.below H2.out) (by have := HR.out.2.2.2.2; rw [hsz]; omega)).mono ?_
        rintro e w3 ⟨rfl, hbt, hb3⟩
        have H3 := Lib.hid (And.intro hbt hb3)
        clear hbt hb3
        go_wp2_with fail
        go_roundw
        case rel =>
          have hl0 : l = [] := by simpa using HR.out.2.1
          have hjx := HX.out.2
          rw [Nat.sub_zero] at hjx
          refine ⟨1, l ++ ds, by omega, by go_num, H3.out.1, fun h => absurd h (by omega), fun _ => ?_, HR.out.2.2.2.1.trans ((H2.out.mono (Below.size HR.out.2.2.2.1)).trans H3.out.2), by rw [hl0]; simpa using hdl⟩
          rw [hl0, List.nil_append]
          exact H1.out.2.1.first (by rw [hjx]; exact HX.out.1) HDS.out
        case measure => simp [intOf]; omega
      · obtain ⟨m, hm⟩ : ∃ m, 9 - ds.length = m := ⟨_, rfl⟩
        have e2 : (9 : Int) - (ds.length : Int) = (m : Int) := by omega
        have Hm := Lib.hid hm
        clear hm
        go_wp2_with fail
        refine (repeat_c m (by have := Hm.out; omega) w2).mono ?_
        rintro e w3 ⟨rfl, hb3⟩
        have hns : (⟨(noughts m).toArray⟩ : ByteArray).size = m := by rw [byte_size]; simp [noughts]
        have H3 := Lib.hid (below_trans H2.out hb3)
        clear hb3
        go_wp2_with fail
        refine (writeString_c w1.heap.size l ⟨(noughts m).toArray⟩ w3 (HR.out.1.below H3.out) (by have := HR.out.2.2.2.2; have := Hm.out; rw [hns]; omega)).mono ?_
        rintro e w4 ⟨rfl, hbt, hb4⟩
        have H4 := Lib.hid (And.intro hbt hb4)
        clear hbt hb4
        go_wp2_with fail
        refine (writeString_c w1.heap.size (l ++ noughts m) ⟨ds.toArray⟩ w4 H4.out.1 (by have := HR.out.2.2.2.2; have := Hm.out; rw [hsz]; simp [noughts]; omega)).mono ?_
        rintro e w5 ⟨rfl, hbt, hb5⟩
        have H5 := Lib.hid (And.intro hbt hb5)
        clear hbt hb5
        go_wp2_with fail
        go_roundw
        case rel =>
          have hjx := HX.out.2
          have hjk : bs.length - k = j + 1 := by omega
          refine ⟨k + 1, l ++ (noughts m ++ ds), by omega, by go_num, ?_, fun h => absurd h (by omega), fun _ => ?_, HR.out.2.2.2.1.trans ((H3.out.mono (Below.size HR.out.2.2.2.1)).trans (H4.out.2.trans H5.out.2)), ?_⟩
          · have := H5.out.1
            rw [List.append_assoc] at this
            exact this
          · have hd := HR.out.2.2.1 hp
            rw [hjk] at hd
            have := H1.out.2.1.step (by omega) HX.out.1 hd HDS.out
            rw [Hm.out] at this
            rw [show bs.length - (k + 1) = j by omega]
            exact this
          · have := HR.out.2.2.2.2
            have := Hm.out
            simp [noughts]; omega
        case measure => simp [intOf]; omega
    · obtain rfl : k = bs.length := by omega
      go_wp2_with fail
      refine (builderString_c w1.heap.size l wr HR.out.1).mono ?_
      rintro e w2 ⟨rfl, hb2⟩
      have H2 := Lib.hid hb2
      clear hb2
      go_wp2_with fail
      go_ret
      have hd := HR.out.2.2.1 hpos
      rw [Nat.sub_self, List.drop_zero, H1.out.2.1.2.2.1] at hd
      exact ⟨l, rfl, hd, below_trans H1.out.2.2 (HR.out.2.2.2.1.trans H2.out)⟩
end Go.Proofs.YtlgfjgkcgimdoaaDoor
