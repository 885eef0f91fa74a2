/- The contracts of layers 1 to 3, as the machine knows them. -/
import Derived.Test.YtlgfjgkcgimdoaaGreatDoorFits
import Derived.Test.YtlgfjgkcgimdoaaGreatDoorWrites
namespace Go.Proofs.YtlgfjgkcgimdoaaGreatDoor
open Go Go.RowKit Go.Shelf AM
theorem cal65 : Callable Tryz.prog 65 := ⟨_, Tryz.func65, by kernel_rfl, by kernel_rfl⟩
theorem add_f {x y : Nat} (h : x + y < Lim) : FitsP 65 [natS x, natS y] [] (.tup [natS (x + y), ok0]) := fits_NN_N0 cal65 fun _ _ _ _ ha hb => add_n ha hb h
theorem cal51 : Callable Tryz.prog 51 := ⟨_, Tryz.func51, by kernel_rfl, by kernel_rfl⟩
theorem mul_f {x y : Nat} (h : x * y < Lim) : FitsP 51 [natS x, natS y] [] (.tup [natS (x * y), ok0]) := fits_NN_N0 cal51 fun _ _ _ _ ha hb => mul_n ha hb h
theorem cal67 : Callable Tryz.prog 67 := ⟨_, Tryz.func67, by kernel_rfl, by kernel_rfl⟩
theorem sub_f {x y : Nat} (h1 : y ≤ x) (h2 : x < Lim) : FitsP 67 [natS x, natS y] [] (.tup [natS (x - y), ok0]) := fits_NN_N0 cal67 fun _ _ _ _ ha hb => sub_n ha hb h1 h2
theorem cal101 : Callable Tryz.prog 101 := ⟨_, Tryz.func101, by kernel_rfl, by kernel_rfl⟩
theorem div_f {x y : Nat} (h1 : 0 < y) (h2 : x < Lim) : FitsP 101 [natS x, natS y] [] (.tup [natS (x / y), natS (x % y), ok0]) := fits_NN_NN0 cal101 fun _ _ _ _ ha hb => div_n ha hb h1 h2
theorem cal45 : Callable Tryz.prog 45 := ⟨_, Tryz.func45, by kernel_rfl, by kernel_rfl⟩
theorem cmp_f {x y : Nat} : FitsP 45 [natS x, natS y] [] (.one (intS (ord3 x y))) := fits_NN_raw cal45 _ fun _ _ _ _ ha hb => cmp_n ha hb
theorem cal46 : Callable Tryz.prog 46 := ⟨_, Tryz.func46, by kernel_rfl, by kernel_rfl⟩
theorem of_f {x : Nat} (h : x < 18446744073709551616) : FitsP 46 [rawS (.int .u64 (x : Int))] [] (.one (natS x)) := fits_raw_N cal46 _ fun w _ => of_n w x h
theorem cal105 : Callable Tryz.prog 105 := ⟨_, Tryz.func105, by kernel_rfl, by kernel_rfl⟩
theorem left_f {x k : Nat} (h1 : k ≤ 9223372036854775807) (h2 : x * 2 ^ k < Lim) : FitsP 105 [natS x, intS (k : Int)] [] (.tup [natS (x * 2 ^ k), ok0]) := fits_Nraw_N0 cal105 _ fun _ _ _ ha => left_nm k ha h1 h2
theorem cal106 : Callable Tryz.prog 106 := ⟨_, Tryz.func106, by kernel_rfl, by kernel_rfl⟩
theorem right_f {x k : Nat} (h1 : k ≤ 9223372036854775807) (h2 : x < Lim) : FitsP 106 [natS x, intS (k : Int)] [] (.tup [natS (x / 2 ^ k), ok0]) := fits_Nraw_N0 cal106 _ fun _ _ _ ha => right_nm k ha h1 h2
theorem cal108 : Callable Tryz.prog 108 := ⟨_, Tryz.func108, by kernel_rfl, by kernel_rfl⟩
theorem small_f {x : Nat} (h : x < 18446744073709551616) : FitsP 108 [natS x] [] (.tup [rawS (.int .u64 (x : Int)), ok0]) := fits_N_raw2 cal108 _ _ fun _ _ _ ha => small_n ha h
theorem smallBig_f {x : Nat} (h : 18446744073709551616 ≤ x) : FitsP 108 [natS x] [] (.tup [rawS (.int .u64 0), intS 11]) := fits_N_raw2 cal108 _ _ fun _ _ _ ha => small_big_n ha h
theorem cal77 : Callable Tryz.prog 77 := ⟨_, Tryz.func77, by kernel_rfl, by kernel_rfl⟩
theorem isBits_leq {n k x : Nat} (h : IsBits n x) (g : IsBits k x) : n ≤ k := by
  rcases h.2 with rfl | h2
  · omega
  · have := (Nat.pow_lt_pow_iff_right (a := 2) (by omega)).1 (Nat.lt_of_le_of_lt h2 g.1)
    omega
theorem isBits_one {n k x : Nat} (h : IsBits n x) (g : IsBits k x) : n = k := Nat.le_antisymm (isBits_leq h g) (isBits_leq g h)
theorem bits_f {x k : Nat} (h : IsBits k x) : FitsP 77 [natS x] [] (.one (intS (k : Int))) := fits_N_raw cal77 _ fun _ _ _ ha => (bits_n ha).mono fun _ _ ⟨n, he, hn, hb⟩ => ⟨by rw [he, isBits_one hn h], hb⟩
theorem bits_ex (x : Nat) : ∃ k, IsBits k x := by
  rcases Nat.eq_zero_or_pos x with rfl | h
  · exact ⟨0, by simp [IsBits]⟩
  · refine ⟨Nat.log2 x + 1, ?_, .inr ?_⟩
    · exact (Nat.log2_lt (by omega)).1 (Nat.lt_succ_self _)
    · exact Nat.log2_self_le (by omega)
theorem cal75 : Callable Tryz.prog 75 := ⟨_, Tryz.func75, by kernel_rfl, by kernel_rfl⟩
theorem check_f {x : Nat} (h : x < Lim) : FitsP 75 [natS x] [] (.one ok0) := fits_N_raw cal75 _ fun w v _ ha => by
  obtain ⟨A, cap, zs, rfl, ho, rfl⟩ := ha
  exact (check_c w _ zs ho.1).mono fun _ _ ⟨he, hw⟩ => by
    subst hw
    exact ⟨by rw [he, checkOf_ok (Nat.not_lt.2 (len_of_lim ho.2.1 h)) ho.2.1.2], Below.refl _ _⟩
theorem cal79 : Callable Tryz.prog 79 := ⟨_, Tryz.func79, by kernel_rfl, by kernel_rfl⟩
theorem clone_f {x : Nat} : FitsP 79 [natS x] [] (.one (natS x)) := fits_N_N cal79 fun _ _ _ ha => clone_n ha
theorem cal81 : Callable Tryz.prog 81 := ⟨_, Tryz.func81, by kernel_rfl, by kernel_rfl⟩
theorem gcd_f {x y : Nat} (h1 : x < Lim) (h2 : y < Lim) : FitsP 81 [natS x, natS y] [] (.one (natS (Nat.gcd x y))) := fits_NN_N cal81 fun w a b _ ha hb => gcd_c w a b x y ha hb h1 h2
theorem cal53 : Callable Tryz.prog 53 := ⟨_, Tryz.func53, by kernel_rfl, by kernel_rfl⟩
theorem dtext_f {x : Nat} (s : ByteArray) (hs : Dec x s.data.toList) (h : x < Lim) : FitsP 53 [natS x] [] (.one (rawS (.string s))) := fits_N_raw cal53 _ fun w a hG ha => text_is w hG.2.1 a x s hs ha h
theorem cal104 : Callable Tryz.prog 104 := ⟨_, Tryz.func104, by kernel_rfl, by kernel_rfl⟩
theorem dparse_f (s : ByteArray) (hD : AllD s.data.toList) (h0 : s.data.toList ≠ []) (hl : s.size ≤ 4900) : FitsP 104 [rawS (.string s)] [] (.tup [natS (decv s.data.toList), ok0]) := fits_raw_N0 cal104 _ fun w _ => parse_ok w s hD h0 hl
theorem cal54 : Callable Tryz.prog 54 := ⟨_, Tryz.func54, by kernel_rfl, by kernel_rfl⟩
theorem ten_f {k : Nat} (h : k ≤ 4900) : FitsP 54 [intS (k : Int)] [] (.tup [natS (10 ^ k), ok0]) := fits_raw_N0 cal54 _ fun w _ => ten_n w k h
theorem dparseBad_f (s : ByteArray) (h : okText s.data.toList = false) : FitsP 104 [rawS (.string s)] [] (.tup [nilS, intS 2]) := fits_of cal104 fun β W w vals _ ha => by
  obtain ⟨u, rfl, h1⟩ := all2_1 ha
  obtain rfl : u = .string s := h1
  exact (parse_bad w s h).mono fun _ _ ⟨he, hb⟩ => ⟨_, he, hb, rel_tup2 rfl rfl⟩
theorem dparseLong_f (s : ByteArray) (h : okText s.data.toList = true) (hl : 4900 < s.size) : FitsP 104 [rawS (.string s)] [] (.tup [nilS, intS 3]) := fits_of cal104 fun β W w vals _ ha => by
  obtain ⟨u, rfl, h1⟩ := all2_1 ha
  obtain rfl : u = .string s := h1
  exact (parse_long w s h hl).mono fun _ _ ⟨he, hb⟩ => ⟨_, he, hb, rel_tup2 rfl rfl⟩
theorem mulBig_f {x y : Nat} (h : Lim ≤ x * y) : FitsP 51 [natS x, natS y] [] (.tup [nilS, intS 11]) := fits_NN_E cal51 fun _ _ _ _ ha hb => mul_big_n ha hb h
theorem addBig_f {x y : Nat} (h : Lim ≤ x + y) : FitsP 65 [natS x, natS y] [] (.tup [nilS, intS 11]) := fits_NN_E cal65 fun _ _ _ _ ha hb => add_big_n ha hb h
theorem cal16 : Callable Tryz.prog 16 := ⟨_, Tryz.func16, by kernel_rfl, by kernel_rfl⟩
theorem addI_f {z1 z2 : Int} (h1 : LimI z1) (h2 : LimI z2) (h : LimI (z1 + z2)) : FitsP 16 [im z1, im z2] [] (.tup [im (z1 + z2), ok0]) := fits_II_I0 cal16 fun w a b _ ha hb => addInt_c w a b z1 z2 ha hb h1 h2 h
theorem cal17 : Callable Tryz.prog 17 := ⟨_, Tryz.func17, by kernel_rfl, by kernel_rfl⟩
theorem subI_f {z1 z2 : Int} (h1 : LimI z1) (h2 : LimI z2) (h : LimI (z1 - z2)) : FitsP 17 [im z1, im z2] [] (.tup [im (z1 - z2), ok0]) := fits_II_I0 cal17 fun w a b _ ha hb => subInt_c w a b z1 z2 ha hb h1 h2 h
theorem cal22 : Callable Tryz.prog 22 := ⟨_, Tryz.func22, by kernel_rfl, by kernel_rfl⟩
theorem mulI_f {z1 z2 : Int} (h : LimI (z1 * z2)) : FitsP 22 [im z1, im z2] [] (.tup [im (z1 * z2), ok0]) := fits_II_I0 cal22 fun w a b _ ha hb => mulInt_c w a b z1 z2 ha hb h
theorem cal56 : Callable Tryz.prog 56 := ⟨_, Tryz.func56, by kernel_rfl, by kernel_rfl⟩
theorem divI_f {z1 z2 : Int} (h1 : LimI z1) (h2 : LimI z2) (h0 : z2 ≠ 0) : FitsP 56 [im z1, im z2] [] (.tup [im (z1 / z2), im (z1 % z2), ok0]) :=
  fits_of cal56 fun β W w vals hp ha => by
    obtain ⟨u, v, rfl, k1, k2⟩ := all2_2 ha
    exact (divInt_c w u v z1 z2 (im_rel hp k1) (im_rel hp k2) h1 h2 h0).mono fun _ _ ⟨r1, r2, he, hn1, hn2, hb⟩ => ⟨_, he, hb, rel_tup3 (im_back (β := β) hp hb hn1) (im_back (β := β) hp hb hn2) rfl⟩
theorem im_zero_rel {β : Nat → Option Nat} {W : World} : RelS β W (.agg #[.bool false, .slice none 0 0]) (im 0) := ⟨[.bool false, .slice none 0 0], rfl, rfl, Nm.nil W, trivial⟩
theorem divIZero_f {z1 : Int} : FitsP 56 [im z1, im 0] [] (.tup [im 0, im 0, intS 10]) :=
  fits_of cal56 fun β W w vals hp ha => by
    obtain ⟨u, v, rfl, k1, k2⟩ := all2_2 ha
    exact (divInt_zero w u v z1 (im_rel hp k1) (im_rel hp k2)).mono fun _ _ ⟨he, hb⟩ => ⟨_, he, hb, rel_tup3 im_zero_rel im_zero_rel rfl⟩
theorem cal27 : Callable Tryz.prog 27 := ⟨_, Tryz.func27, by kernel_rfl, by kernel_rfl⟩
theorem sign_f {z1 : Int} : FitsP 27 [im z1] [] (.one (intS (sign3 z1))) := fits_I_raw cal27 _ fun w a _ ha => sign_c w a z1 ha
theorem cal30 : Callable Tryz.prog 30 := ⟨_, Tryz.func30, by kernel_rfl, by kernel_rfl⟩
theorem nat_f {x : Nat} : FitsP 30 [natS x] [] (.one (im (x : Int))) := fits_N_I cal30 fun w a _ ha => natInt_c w a x ha
theorem cal63 : Callable Tryz.prog 63 := ⟨_, Tryz.func63, by kernel_rfl, by kernel_rfl⟩
theorem absI_f {z1 : Int} : FitsP 63 [im z1] [] (.one (im (z1.natAbs : Int))) := fits_I_I cal63 fun w a _ ha => absInt_c w a z1 ha
theorem cal62 : Callable Tryz.prog 62 := ⟨_, Tryz.func62, by kernel_rfl, by kernel_rfl⟩
theorem negI_f {z1 : Int} : FitsP 62 [im z1] [] (.one (im (-z1))) := fits_I_I cal62 fun w a _ ha => negInt_c w a z1 ha
theorem cal61 : Callable Tryz.prog 61 := ⟨_, Tryz.func61, by kernel_rfl, by kernel_rfl⟩
theorem cmpI_f {z1 z2 : Int} : FitsP 61 [im z1, im z2] [] (.one (intS (ordI z1 z2))) := fits_II_raw cal61 _ fun w a b _ ha hb => cmpInt_c w a b z1 z2 ha hb
theorem cal21 : Callable Tryz.prog 21 := ⟨_, Tryz.func21, by kernel_rfl, by kernel_rfl⟩
theorem sameI_f {z1 z2 : Int} : FitsP 21 [im z1, im z2] [] (.one (boolS (decide (z1 = z2)))) := fits_II_raw cal21 _ fun w a b _ ha hb => same_c w a b z1 z2 ha hb
theorem cal58 : Callable Tryz.prog 58 := ⟨_, Tryz.func58, by kernel_rfl, by kernel_rfl⟩
theorem leftI_f {z1 : Int} {k : Nat} (h1 : k ≤ 9223372036854775807) (h : LimI (z1 * 2 ^ k)) : FitsP 58 [im z1, intS (k : Int)] [] (.tup [im (z1 * 2 ^ k), ok0]) := fits_Iraw_I0 cal58 _ fun w a _ ha => leftInt_c w a z1 k ha h1 h
theorem cal59 : Callable Tryz.prog 59 := ⟨_, Tryz.func59, by kernel_rfl, by kernel_rfl⟩
theorem rightI_f {z1 : Int} {k : Nat} (h1 : k ≤ 9223372036854775807) (h : LimI z1) : FitsP 59 [im z1, intS (k : Int)] [] (.tup [im (z1 / 2 ^ k), ok0]) := fits_Iraw_I0 cal59 _ fun w a hG ha => rightInt_c w hG.1 a z1 k ha h1 h
theorem cal47 : Callable Tryz.prog 47 := ⟨_, Tryz.func47, by kernel_rfl, by kernel_rfl⟩
theorem ofI_f {z1 : Int} (h : inI64 z1) : FitsP 47 [intS z1] [] (.one (im z1)) := fits_raw_I cal47 _ fun w _ => ofInt_c w z1 h.1 h.2
theorem cal60 : Callable Tryz.prog 60 := ⟨_, Tryz.func60, by kernel_rfl, by kernel_rfl⟩
theorem smallI_f {z1 : Int} (h : inI64 z1) : FitsP 60 [im z1] [] (.tup [intS z1, ok0]) := fits_I_raw2 cal60 _ _ fun w a _ ha => (smallInt_c w a z1 ha).mono fun _ _ ⟨hh, hb⟩ => by
  rcases hh with ⟨_, he⟩ | ⟨hn, _⟩
  · exact ⟨he, hb⟩
  · exact absurd h hn
theorem smallIBig_f {z1 : Int} (h : ¬ inI64 z1) : FitsP 60 [im z1] [] (.tup [intS 0, intS 11]) := fits_I_raw2 cal60 _ _ fun w a _ ha => (smallInt_c w a z1 ha).mono fun _ _ ⟨hh, hb⟩ => by
  rcases hh with ⟨hn, _⟩ | ⟨_, he⟩
  · exact absurd hn h
  · exact ⟨he, hb⟩
theorem cal25 : Callable Tryz.prog 25 := ⟨_, Tryz.func25, by kernel_rfl, by kernel_rfl⟩
theorem checkI_f {z1 : Int} (h : LimI z1) : FitsP 25 [im z1] [] (.one ok0) := fits_I_raw cal25 _ fun w a _ ha => checkInt_im w a z1 ha h
theorem cal52 : Callable Tryz.prog 52 := ⟨_, Tryz.func52, by kernel_rfl, by kernel_rfl⟩
theorem DecI.same {z : Int} {s s' : ByteArray} (h : DecI z s.data.toList) (k : DecI z s'.data.toList) : s = s' := by
  have e := h.eq k
  obtain ⟨⟨l⟩⟩ := s
  obtain ⟨⟨l'⟩⟩ := s'
  simp only at e
  subst e; rfl
theorem textI_f {z1 : Int} (s : ByteArray) (hs : DecI z1 s.data.toList) (h : LimI z1) : FitsP 52 [im z1] [] (.one (rawS (.string s))) := fits_I_raw cal52 _ fun w a hG ha =>
  (textInt_c w hG.2.1 a z1 ha h).mono fun _ _ ⟨s', he, hd, hb⟩ => ⟨by rw [he, hs.same hd], hb⟩
/-- The text of a number. -/
def txtI (z : Int) : ByteArray := ⟨(if z < 0 then 45 :: Lib.decDigits z.natAbs else Lib.decDigits z.natAbs).toArray⟩
theorem txtI_dec (z : Int) : DecI z (txtI z).data.toList := ⟨_, dec_decDigits _, by simp [txtI]⟩
theorem parseI_in (w : World) (s : ByteArray) (z : Int) (hs : DecI z s.data.toList) (hl : s.size ≤ 4900) : Calls Tryz.prog 57 #[.string s] w (RetI0 w z) := by
  obtain ⟨d, e, hD, h0, hz⟩ := decI_parse hs
  rw [← hz]
  refine parseInt_c w s _ d e hD h0 ?_
  have := congrArg List.length e
  rw [size_list] at this
  split at this
  · simp at this; omega
  · omega
theorem cal57 : Callable Tryz.prog 57 := ⟨_, Tryz.func57, by kernel_rfl, by kernel_rfl⟩
theorem parseI_f {z : Int} (s : ByteArray) (hs : DecI z s.data.toList) (hl : s.size ≤ 4900) : FitsP 57 [rawS (.string s)] [] (.tup [im z, ok0]) := fits_raw_I0 cal57 _ fun w _ => parseI_in w s z hs hl
end Go.Proofs.YtlgfjgkcgimdoaaGreatDoor
