/- The contracts of layers 1 to 3, as the machine knows them. -/
import Derived.Test.YtlgfjgkcgimdoaaDoorFits
import Derived.Test.YtlgfjgkcgimdoaaDoorWrites
namespace Go.Proofs.YtlgfjgkcgimdoaaDoor
open Go Go.RowKit Go.Shelf AM
theorem cal34 : Callable Tryd.prog 34 := ⟨_, Tryd.func34, by kernel_rfl, by kernel_rfl⟩
theorem add_f {x y : Nat} (h : x + y < Lim) : FitsP 34 [natS x, natS y] [] (.tup [natS (x + y), ok0]) := fits_NN_N0 cal34 fun _ _ _ _ ha hb => add_n ha hb h
theorem cal35 : Callable Tryd.prog 35 := ⟨_, Tryd.func35, by kernel_rfl, by kernel_rfl⟩
theorem mul_f {x y : Nat} (h : x * y < Lim) : FitsP 35 [natS x, natS y] [] (.tup [natS (x * y), ok0]) := fits_NN_N0 cal35 fun _ _ _ _ ha hb => mul_n ha hb h
theorem cal47 : Callable Tryd.prog 47 := ⟨_, Tryd.func47, by kernel_rfl, by kernel_rfl⟩
theorem sub_f {x y : Nat} (h1 : y ≤ x) (h2 : x < Lim) : FitsP 47 [natS x, natS y] [] (.tup [natS (x - y), ok0]) := fits_NN_N0 cal47 fun _ _ _ _ ha hb => sub_n ha hb h1 h2
theorem cal38 : Callable Tryd.prog 38 := ⟨_, Tryd.func38, by kernel_rfl, by kernel_rfl⟩
theorem div_f {x y : Nat} (h1 : 0 < y) (h2 : x < Lim) : FitsP 38 [natS x, natS y] [] (.tup [natS (x / y), natS (x % y), ok0]) := fits_NN_NN0 cal38 fun _ _ _ _ ha hb => div_n ha hb h1 h2
theorem cal46 : Callable Tryd.prog 46 := ⟨_, Tryd.func46, by kernel_rfl, by kernel_rfl⟩
theorem cmp_f {x y : Nat} : FitsP 46 [natS x, natS y] [] (.one (intS (ord3 x y))) := fits_NN_raw cal46 _ fun _ _ _ _ ha hb => cmp_n ha hb
theorem cal8 : Callable Tryd.prog 8 := ⟨_, Tryd.func8, by kernel_rfl, by kernel_rfl⟩
theorem of_f {x : Nat} (h : x < 18446744073709551616) : FitsP 8 [rawS (.int .u64 (x : Int))] [] (.one (natS x)) := fits_raw_N cal8 _ fun w _ => of_n w x h
theorem cal7 : Callable Tryd.prog 7 := ⟨_, Tryd.func7, by kernel_rfl, by kernel_rfl⟩
theorem left_f {x k : Nat} (h1 : k ≤ 9223372036854775807) (h2 : x * 2 ^ k < Lim) : FitsP 7 [natS x, intS (k : Int)] [] (.tup [natS (x * 2 ^ k), ok0]) := fits_Nraw_N0 cal7 _ fun _ _ _ ha => left_nm k ha h1 h2
theorem cal32 : Callable Tryd.prog 32 := ⟨_, Tryd.func32, by kernel_rfl, by kernel_rfl⟩
theorem right_f {x k : Nat} (h1 : k ≤ 9223372036854775807) (h2 : x < Lim) : FitsP 32 [natS x, intS (k : Int)] [] (.tup [natS (x / 2 ^ k), ok0]) := fits_Nraw_N0 cal32 _ fun _ _ _ ha => right_nm k ha h1 h2
theorem cal40 : Callable Tryd.prog 40 := ⟨_, Tryd.func40, by kernel_rfl, by kernel_rfl⟩
theorem small_f {x : Nat} (h : x < 18446744073709551616) : FitsP 40 [natS x] [] (.tup [rawS (.int .u64 (x : Int)), ok0]) := fits_N_raw2 cal40 _ _ fun _ _ _ ha => small_n ha h
theorem smallBig_f {x : Nat} (h : 18446744073709551616 ≤ x) : FitsP 40 [natS x] [] (.tup [rawS (.int .u64 0), intS 11]) := fits_N_raw2 cal40 _ _ fun _ _ _ ha => small_big_n ha h
theorem cal19 : Callable Tryd.prog 19 := ⟨_, Tryd.func19, by kernel_rfl, by kernel_rfl⟩
theorem isBits_leq {n k x : Nat} (h : IsBits n x) (g : IsBits k x) : n ≤ k := by
  rcases h.2 with rfl | h2
  · omega
  · have := (Nat.pow_lt_pow_iff_right (a := 2) (by omega)).1 (Nat.lt_of_le_of_lt h2 g.1)
    omega
theorem isBits_one {n k x : Nat} (h : IsBits n x) (g : IsBits k x) : n = k := Nat.le_antisymm (isBits_leq h g) (isBits_leq g h)
theorem bits_f {x k : Nat} (h : IsBits k x) : FitsP 19 [natS x] [] (.one (intS (k : Int))) := fits_N_raw cal19 _ fun _ _ _ ha => (bits_n ha).mono fun _ _ ⟨n, he, hn, hb⟩ => ⟨by rw [he, isBits_one hn h], hb⟩
theorem bits_ex (x : Nat) : ∃ k, IsBits k x := by
  rcases Nat.eq_zero_or_pos x with rfl | h
  · exact ⟨0, by simp [IsBits]⟩
  · refine ⟨Nat.log2 x + 1, ?_, .inr ?_⟩
    · exact (Nat.log2_lt (by omega)).1 (Nat.lt_succ_self _)
    · exact Nat.log2_self_le (by omega)
theorem cal49 : Callable Tryd.prog 49 := ⟨_, Tryd.func49, by kernel_rfl, by kernel_rfl⟩
theorem check_f {x : Nat} (h : x < Lim) : FitsP 49 [natS x] [] (.one ok0) := fits_N_raw cal49 _ fun w v _ ha => by
  obtain ⟨A, cap, zs, rfl, ho, rfl⟩ := ha
  exact (check_c w _ zs ho.1).mono fun _ _ ⟨he, hw⟩ => by
    subst hw
    exact ⟨by rw [he, checkOf_ok (Nat.not_lt.2 (len_of_lim ho.2.1 h)) ho.2.1.2], Below.refl _ _⟩
theorem cal37 : Callable Tryd.prog 37 := ⟨_, Tryd.func37, by kernel_rfl, by kernel_rfl⟩
theorem clone_f {x : Nat} : FitsP 37 [natS x] [] (.one (natS x)) := fits_N_N cal37 fun _ _ _ ha => clone_n ha
theorem cal41 : Callable Tryd.prog 41 := ⟨_, Tryd.func41, by kernel_rfl, by kernel_rfl⟩
theorem dtext_f {x : Nat} (s : ByteArray) (hs : Dec x s.data.toList) (h : x < Lim) : FitsP 41 [natS x] [] (.one (rawS (.string s))) := fits_N_raw cal41 _ fun w a hG ha => text_is w hG.2.1 a x s hs ha h
theorem cal43 : Callable Tryd.prog 43 := ⟨_, Tryd.func43, by kernel_rfl, by kernel_rfl⟩
theorem dparse_f (s : ByteArray) (hD : AllD s.data.toList) (h0 : s.data.toList ≠ []) (hl : s.size ≤ 4900) : FitsP 43 [rawS (.string s)] [] (.tup [natS (decv s.data.toList), ok0]) := fits_raw_N0 cal43 _ fun w _ => parse_ok w s hD h0 hl
theorem dparseBad_f (s : ByteArray) (h : okText s.data.toList = false) : FitsP 43 [rawS (.string s)] [] (.tup [nilS, intS 2]) := fits_of cal43 fun β W w vals _ ha => by
  obtain ⟨u, rfl, h1⟩ := all2_1 ha
  obtain rfl : u = .string s := h1
  exact (parse_bad w s h).mono fun _ _ ⟨he, hb⟩ => ⟨_, he, hb, rel_tup2 rfl rfl⟩
theorem dparseLong_f (s : ByteArray) (h : okText s.data.toList = true) (hl : 4900 < s.size) : FitsP 43 [rawS (.string s)] [] (.tup [nilS, intS 3]) := fits_of cal43 fun β W w vals _ ha => by
  obtain ⟨u, rfl, h1⟩ := all2_1 ha
  obtain rfl : u = .string s := h1
  exact (parse_long w s h hl).mono fun _ _ ⟨he, hb⟩ => ⟨_, he, hb, rel_tup2 rfl rfl⟩
theorem mulBig_f {x y : Nat} (h : Lim ≤ x * y) : FitsP 35 [natS x, natS y] [] (.tup [nilS, intS 11]) := fits_NN_E cal35 fun _ _ _ _ ha hb => mul_big_n ha hb h
theorem addBig_f {x y : Nat} (h : Lim ≤ x + y) : FitsP 34 [natS x, natS y] [] (.tup [nilS, intS 11]) := fits_NN_E cal34 fun _ _ _ _ ha hb => add_big_n ha hb h
theorem cal20 : Callable Tryd.prog 20 := ⟨_, Tryd.func20, by kernel_rfl, by kernel_rfl⟩
theorem addI_f {z1 z2 : Int} (h1 : LimI z1) (h2 : LimI z2) (h : LimI (z1 + z2)) : FitsP 20 [im z1, im z2] [] (.tup [im (z1 + z2), ok0]) := fits_II_I0 cal20 fun w a b _ ha hb => addInt_c w a b z1 z2 ha hb h1 h2 h
theorem cal21 : Callable Tryd.prog 21 := ⟨_, Tryd.func21, by kernel_rfl, by kernel_rfl⟩
theorem subI_f {z1 z2 : Int} (h1 : LimI z1) (h2 : LimI z2) (h : LimI (z1 - z2)) : FitsP 21 [im z1, im z2] [] (.tup [im (z1 - z2), ok0]) := fits_II_I0 cal21 fun w a b _ ha hb => subInt_c w a b z1 z2 ha hb h1 h2 h
theorem cal11 : Callable Tryd.prog 11 := ⟨_, Tryd.func11, by kernel_rfl, by kernel_rfl⟩
theorem mulI_f {z1 z2 : Int} (h : LimI (z1 * z2)) : FitsP 11 [im z1, im z2] [] (.tup [im (z1 * z2), ok0]) := fits_II_I0 cal11 fun w a b _ ha hb => mulInt_c w a b z1 z2 ha hb h
theorem cal13 : Callable Tryd.prog 13 := ⟨_, Tryd.func13, by kernel_rfl, by kernel_rfl⟩
theorem divI_f {z1 z2 : Int} (h1 : LimI z1) (h2 : LimI z2) (h0 : z2 ≠ 0) : FitsP 13 [im z1, im z2] [] (.tup [im (z1 / z2), im (z1 % z2), ok0]) :=
  fits_of cal13 fun β W w vals hp ha => by
    obtain ⟨u, v, rfl, k1, k2⟩ := all2_2 ha
    exact (divInt_c w u v z1 z2 (im_rel hp k1) (im_rel hp k2) h1 h2 h0).mono fun _ _ ⟨r1, r2, he, hn1, hn2, hb⟩ => ⟨_, he, hb, rel_tup3 (im_back (β := β) hp hb hn1) (im_back (β := β) hp hb hn2) rfl⟩
theorem im_zero_rel {β : Nat → Option Nat} {W : World} : RelS β W (.agg #[.bool false, .slice none 0 0]) (im 0) := ⟨[.bool false, .slice none 0 0], rfl, rfl, Nm.nil W, trivial⟩
theorem divIZero_f {z1 : Int} : FitsP 13 [im z1, im 0] [] (.tup [im 0, im 0, intS 10]) :=
  fits_of cal13 fun β W w vals hp ha => by
    obtain ⟨u, v, rfl, k1, k2⟩ := all2_2 ha
    exact (divInt_zero w u v z1 (im_rel hp k1) (im_rel hp k2)).mono fun _ _ ⟨he, hb⟩ => ⟨_, he, hb, rel_tup3 im_zero_rel im_zero_rel rfl⟩
theorem cal23 : Callable Tryd.prog 23 := ⟨_, Tryd.func23, by kernel_rfl, by kernel_rfl⟩
theorem sign_f {z1 : Int} : FitsP 23 [im z1] [] (.one (intS (sign3 z1))) := fits_I_raw cal23 _ fun w a _ ha => sign_c w a z1 ha
theorem cal12 : Callable Tryd.prog 12 := ⟨_, Tryd.func12, by kernel_rfl, by kernel_rfl⟩
theorem nat_f {x : Nat} : FitsP 12 [natS x] [] (.one (im (x : Int))) := fits_N_I cal12 fun w a _ ha => natInt_c w a x ha
theorem cal26 : Callable Tryd.prog 26 := ⟨_, Tryd.func26, by kernel_rfl, by kernel_rfl⟩
theorem absI_f {z1 : Int} : FitsP 26 [im z1] [] (.one (im (z1.natAbs : Int))) := fits_I_I cal26 fun w a _ ha => absInt_c w a z1 ha
theorem cal25 : Callable Tryd.prog 25 := ⟨_, Tryd.func25, by kernel_rfl, by kernel_rfl⟩
theorem negI_f {z1 : Int} : FitsP 25 [im z1] [] (.one (im (-z1))) := fits_I_I cal25 fun w a _ ha => negInt_c w a z1 ha
theorem cal24 : Callable Tryd.prog 24 := ⟨_, Tryd.func24, by kernel_rfl, by kernel_rfl⟩
theorem cmpI_f {z1 z2 : Int} : FitsP 24 [im z1, im z2] [] (.one (intS (ordI z1 z2))) := fits_II_raw cal24 _ fun w a b _ ha hb => cmpInt_c w a b z1 z2 ha hb
theorem cal14 : Callable Tryd.prog 14 := ⟨_, Tryd.func14, by kernel_rfl, by kernel_rfl⟩
theorem sameI_f {z1 z2 : Int} : FitsP 14 [im z1, im z2] [] (.one (boolS (decide (z1 = z2)))) := fits_II_raw cal14 _ fun w a b _ ha hb => same_c w a b z1 z2 ha hb
theorem cal9 : Callable Tryd.prog 9 := ⟨_, Tryd.func9, by kernel_rfl, by kernel_rfl⟩
theorem leftI_f {z1 : Int} {k : Nat} (h1 : k ≤ 9223372036854775807) (h : LimI (z1 * 2 ^ k)) : FitsP 9 [im z1, intS (k : Int)] [] (.tup [im (z1 * 2 ^ k), ok0]) := fits_Iraw_I0 cal9 _ fun w a _ ha => leftInt_c w a z1 k ha h1 h
theorem cal10 : Callable Tryd.prog 10 := ⟨_, Tryd.func10, by kernel_rfl, by kernel_rfl⟩
theorem rightI_f {z1 : Int} {k : Nat} (h1 : k ≤ 9223372036854775807) (h : LimI z1) : FitsP 10 [im z1, intS (k : Int)] [] (.tup [im (z1 / 2 ^ k), ok0]) := fits_Iraw_I0 cal10 _ fun w a hG ha => rightInt_c w hG.1 a z1 k ha h1 h
theorem cal16 : Callable Tryd.prog 16 := ⟨_, Tryd.func16, by kernel_rfl, by kernel_rfl⟩
theorem ofI_f {z1 : Int} (h : inI64 z1) : FitsP 16 [intS z1] [] (.one (im z1)) := fits_raw_I cal16 _ fun w _ => ofInt_c w z1 h.1 h.2
theorem cal15 : Callable Tryd.prog 15 := ⟨_, Tryd.func15, by kernel_rfl, by kernel_rfl⟩
theorem smallI_f {z1 : Int} (h : inI64 z1) : FitsP 15 [im z1] [] (.tup [intS z1, ok0]) := fits_I_raw2 cal15 _ _ fun w a _ ha => (smallInt_c w a z1 ha).mono fun _ _ ⟨hh, hb⟩ => by
  rcases hh with ⟨_, he⟩ | ⟨hn, _⟩
  · exact ⟨he, hb⟩
  · exact absurd h hn
theorem smallIBig_f {z1 : Int} (h : ¬ inI64 z1) : FitsP 15 [im z1] [] (.tup [intS 0, intS 11]) := fits_I_raw2 cal15 _ _ fun w a _ ha => (smallInt_c w a z1 ha).mono fun _ _ ⟨hh, hb⟩ => by
  rcases hh with ⟨hn, _⟩ | ⟨_, he⟩
  · exact absurd hn h
  · exact ⟨he, hb⟩
theorem cal27 : Callable Tryd.prog 27 := ⟨_, Tryd.func27, by kernel_rfl, by kernel_rfl⟩
theorem checkI_f {z1 : Int} (h : LimI z1) : FitsP 27 [im z1] [] (.one ok0) := fits_I_raw cal27 _ fun w a _ ha => checkInt_im w a z1 ha h
theorem cal17 : Callable Tryd.prog 17 := ⟨_, Tryd.func17, by kernel_rfl, by kernel_rfl⟩
theorem DecI.same {z : Int} {s s' : ByteArray} (h : DecI z s.data.toList) (k : DecI z s'.data.toList) : s = s' := by
  have e := h.eq k
  obtain ⟨⟨l⟩⟩ := s
  obtain ⟨⟨l'⟩⟩ := s'
  simp only at e
  subst e; rfl
theorem textI_f {z1 : Int} (s : ByteArray) (hs : DecI z1 s.data.toList) (h : LimI z1) : FitsP 17 [im z1] [] (.one (rawS (.string s))) := fits_I_raw cal17 _ fun w a hG ha =>
  (textInt_c w hG.2.1 a z1 ha h).mono fun _ _ ⟨s', he, hd, hb⟩ => ⟨by rw [he, hs.same hd], hb⟩
/-- The text of a number. -/
def txtI (z : Int) : ByteArray := ⟨(if z < 0 then 45 :: Lib.decDigits z.natAbs else Lib.decDigits z.natAbs).toArray⟩
theorem txtI_dec (z : Int) : DecI z (txtI z).data.toList := ⟨_, dec_decDigits _, by simp [txtI]⟩
theorem parseI_in (w : World) (s : ByteArray) (z : Int) (hs : DecI z s.data.toList) (hl : s.size ≤ 4900) : Calls Tryd.prog 18 #[.string s] w (RetI0 w z) := by
  obtain ⟨d, e, hD, h0, hz⟩ := decI_parse hs
  rw [← hz]
  refine parseInt_c w s _ d e hD h0 ?_
  have := congrArg List.length e
  rw [size_list] at this
  split at this
  · simp at this; omega
  · omega
theorem cal18 : Callable Tryd.prog 18 := ⟨_, Tryd.func18, by kernel_rfl, by kernel_rfl⟩
theorem parseI_f {z : Int} (s : ByteArray) (hs : DecI z s.data.toList) (hl : s.size ≤ 4900) : FitsP 18 [rawS (.string s)] [] (.tup [im z, ok0]) := fits_raw_I0 cal18 _ fun w _ => parseI_in w s z hs hl
end Go.Proofs.YtlgfjgkcgimdoaaDoor
