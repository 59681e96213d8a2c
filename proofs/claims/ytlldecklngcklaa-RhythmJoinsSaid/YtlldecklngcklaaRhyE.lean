/- Rhythms: how far the vector points; all usage. -/
import Derived.Test.YtlldecklngcklaaRhyD
import Derived.Test.YtlldecklngcklaaSumAS
namespace Go.Proofs.Ytlldecklngcklaa.rhyw
open Go.RowKit mem fltm rhym intm bigm bigw
set_option linter.unusedVariables false

/-- how far: the sum of the squares, if it is an int -/
def stN (x y : Int) : Int := intOr (x * x + y * y)
def stB (x y : Int) : Bool := isInt (x * x + y * y)
theorem sq_nonneg (x : Int) : 0 ≤ x * x := by
  rcases Int.le_total 0 x with h | h
  · exact Int.mul_nonneg h h
  · exact Int.mul_nonneg_of_nonpos_of_nonpos h h
theorem sq_le {x : Int} (h : -1125899906842624 ≤ x ∧ x ≤ 1125899906842624) : x * x ≤ 1125899906842624 * 1125899906842624 := by
  have h1 : x.natAbs ≤ 1125899906842624 := by omega
  have h2 : (x * x).natAbs = x.natAbs * x.natAbs := Int.natAbs_mul x x
  have h3 := Nat.mul_le_mul h1 h1
  have h4 := sq_nonneg x
  omega
theorem st_no {x y : Int} (h : isInt (x * x) = false ∨ isInt (y * y) = false) : stN x y = 0 ∧ stB x y = false := by
  have h1 := sq_nonneg x
  have h2 := sq_nonneg y
  have e : isInt (x * x + y * y) = false := by
    rw [isInt_not, isInt_not] at h
    rw [isInt_not]
    omega
  unfold stN stB intOr
  rw [e]
  exact ⟨rfl, rfl⟩

set_option maxRecDepth 100000 in
theorem strength_yes (a b c d : Int) (h : Q4 a b c d) (w : World) : Calls Try.prog 59 #[.agg #[.int .i64 a, .int .i64 b, .int .i64 c, .int .i64 d]] w fun e w' => e = .returned (.tuple #[.int .i64 (stN (a - c) (b - d)), .bool (stB (a - c) (b - d))]) ∧ Only (fun _ => False) w w' := by
  have HQ := Lib.hid h
  have hx : (-1125899906842624 ≤ a - c ∧ a - c ≤ 1125899906842624) ∧ (-1125899906842624 ≤ b - d ∧ b - d ≤ 1125899906842624) := by
    obtain ⟨⟨_, _⟩, ⟨_, _⟩, ⟨_, _⟩, ⟨_, _⟩⟩ := h
    omega
  have HV := Lib.hid (fun w => vector_yes a b c d h w)
  clear h
  generalize a - c = x at *
  generalize b - d = y at *
  have HX := Lib.hid hx
  have cx := int_fl (v := x) (by omega)
  have cy := int_fl (v := y) (by omega)
  have rx : ∀ w : World, (convert 119 3 (.float .f64 (fl x))).run Try.prog w = .ok (.int .i64 x) w := fun w => run_convert_float_int w 119 3 .f64 .i64 (fl x) x (by rw [Try.underlying119]; rfl) Try.underlying3 cx
  have ry : ∀ w : World, (convert 119 3 (.float .f64 (fl y))).run Try.prog w = .ok (.int .i64 y) w := fun w => run_convert_float_int w 119 3 .f64 .i64 (fl y) y (by rw [Try.underlying119]; rfl) Try.underlying3 cy
  clear cx cy hx
  have HMX := Lib.hid (fun w => amul_any x x (by have := HX.out; omega) (by have := HX.out; omega) w)
  have HMY := Lib.hid (fun w => amul_any y y (by have := HX.out; omega) (by have := HX.out; omega) w)
  have HO : Hid (∀ o, Only (fun _ => False) w (w.alloc o)) := Lib.hid (fun o => (Only.refl _ w).alloc o)
  go_enter Try.func59, Try.ntmps59
  go_wp2_with fail
  refine (isright_any a b c d _).mono ?_
  rintro _ w1 ⟨rfl, ho1⟩
  rw [right_yes HQ.out]
  have p0 := ho1.cell' (p := ⟨w.heap.size, 0, none⟩) (v := .int .i64 a) (alloc_new _ _ _ _ _ _ rfl rfl) (fun f => f)
  have p1 := ho1.cell' (p := ⟨w.heap.size, 1, none⟩) (v := .int .i64 b) (alloc_new _ _ _ _ _ _ rfl rfl) (fun f => f)
  have p2 := ho1.cell' (p := ⟨w.heap.size, 2, none⟩) (v := .int .i64 c) (alloc_new _ _ _ _ _ _ rfl rfl) (fun f => f)
  have p3 := ho1.cell' (p := ⟨w.heap.size, 3, none⟩) (v := .int .i64 d) (alloc_new _ _ _ _ _ _ rfl rfl) (fun f => f)
  have HF := Lib.hid ((HO.out _).trans ho1)
  clear ho1 HO
  go_wp2_with fail
  refine (HV.out _).mono ?_
  rintro _ w2 ⟨rfl, ho2⟩
  have HF2 := Lib.hid (HF.out.trans ho2)
  clear ho2 p0 p1 p2 p3
  go_wp2_with fail
  refine (HMX.out _).mono ?_
  rintro _ _ ⟨rfl, rfl⟩
  go_wp2_with fail
  refine (HMY.out _).mono ?_
  rintro _ _ ⟨rfl, rfl⟩
  have e1 : isInt (x * x) = true → intOr (x * x) = x * x := fun h => by unfold intOr; rw [h]; rfl
  have e2 : isInt (y * y) = true → intOr (y * y) = y * y := fun h => by unfold intOr; rw [h]; rfl
  have HI1 := Lib.hid (isInt_iff (x * x))
  have HI2 := Lib.hid (isInt_iff (y * y))
  cases hxx : isInt (x * x) with
  | false =>
    have HN := Lib.hid (st_no (x := x) (y := y) (.inl hxx))
    generalize intOr (x * x) = q1 at *
    generalize intOr (y * y) = q2 at *
    generalize isInt (y * y) = q3 at *
    clear e1 e2 hxx
    go_wp2_with fail
    go_ret2
    exact ⟨by rw [HN.out.1, HN.out.2]; rfl, HF2.out⟩
  | true =>
    cases hyy : isInt (y * y) with
    | false =>
      have HN := Lib.hid (st_no (x := x) (y := y) (.inr hyy))
      generalize intOr (x * x) = q1 at *
      generalize intOr (y * y) = q2 at *
      clear e1 e2 hxx hyy
      go_wp2_with fail
      go_ret2
      exact ⟨by rw [HN.out.1, HN.out.2]; rfl, HF2.out⟩
    | true =>
      have HA := Lib.hid (fun w => aadd_any (x * x) (y * y) (HI1.out.1 hxx) (HI2.out.1 hyy) w)
      rw [e1 hxx, e2 hyy]
      clear e1 e2 hxx hyy
      have HS : Hid (intOr (x * x + y * y) = stN x y ∧ isInt (x * x + y * y) = stB x y) := Lib.hid ⟨rfl, rfl⟩
      rw [HS.out.1, HS.out.2] at HA
      generalize hn1 : stN x y = n1 at *
      generalize hn2 : stB x y = n2 at *
      replace hn1 := Lib.hid hn1
      replace hn2 := Lib.hid hn2
      generalize x * x = q1 at *
      generalize y * y = q2 at *
      go_wp2_with fail
      refine (HA.out _).mono ?_
      rintro _ _ ⟨rfl, rfl⟩
      go_wp2_with fail
      go_ret2
      exact ⟨by rw [hn1.out, hn2.out]; rfl, HF2.out⟩
set_option maxRecDepth 100000 in
theorem strength_no (a b c d : Int) (h : ¬ Q4 a b c d) (w : World) : Calls Try.prog 59 #[.agg #[.int .i64 a, .int .i64 b, .int .i64 c, .int .i64 d]] w fun e w' => e = .returned (.tuple #[.int .i64 0, .bool false]) ∧ Only (fun _ => False) w w' := by
  have HO : Hid (∀ o, Only (fun _ => False) w (w.alloc o)) := Lib.hid (fun o => (Only.refl _ w).alloc o)
  go_enter Try.func59, Try.ntmps59
  go_wp2_with fail
  refine (isright_any a b c d _).mono ?_
  rintro _ w1 ⟨rfl, ho1⟩
  rw [right_no h]
  have HF := Lib.hid ((HO.out _).trans ho1)
  clear ho1 HO h
  go_wp2_with fail
  go_ret2
  exact ⟨rfl, HF.out⟩

theorem small_nat {x : Int} (h : -1125899906842624 ≤ x ∧ x ≤ 1125899906842624) : x.natAbs ≤ 85070591730234615865843651857942052864 ∧ (x * x).natAbs ≤ 85070591730234615865843651857942052864 ∧ (-9223372036854775808 ≤ x ∧ x ≤ 9223372036854775807) := by
  have := sq_le h
  have := sq_nonneg x
  omega
set_option maxRecDepth 100000 in
theorem rstrength_yes (a b c d : Int) (h : Q4 a b c d) (w : World) : Calls Try.prog 60 #[.agg #[.int .i64 a, .int .i64 b, .int .i64 c, .int .i64 d]] w fun e w' => e = .returned (.tuple #[.int .i64 (stN (a - c) (b - d)), .bool (stB (a - c) (b - d))]) ∧ Only (fun _ => False) w w' := by
  have HQ := Lib.hid h
  have hx : (-1125899906842624 ≤ a - c ∧ a - c ≤ 1125899906842624) ∧ (-1125899906842624 ≤ b - d ∧ b - d ≤ 1125899906842624) := by
    obtain ⟨⟨_, _⟩, ⟨_, _⟩, ⟨_, _⟩, ⟨_, _⟩⟩ := h
    omega
  have HV := Lib.hid (fun w => rvec_yes a b c d h w)
  clear h
  generalize a - c = x at *
  generalize b - d = y at *
  obtain ⟨sx1, sx2, sx3⟩ := small_nat hx.1
  obtain ⟨sy1, sy2, sy3⟩ := small_nat hx.2
  have hs : (x * x + y * y).natAbs ≤ 85070591730234615865843651857942052864 := by
    have := sq_le hx.1
    have := sq_le hx.2
    have := sq_nonneg x
    have := sq_nonneg y
    omega
  have HOX := Lib.hid (fun w => of_sb x sx3 w)
  have HOY := Lib.hid (fun w => of_sb y sy3 w)
  have HTX := Lib.hid (fun w => times_any x x (lt5 sx1) (lt5 sx1) w)
  have HTY := Lib.hid (fun w => times_any y y (lt5 sy1) (lt5 sy1) w)
  have HPL := Lib.hid (fun w => plus_any (x * x) (y * y) (lt9 sx2) (lt9 sy2) w)
  have HIN := Lib.hid (fun w => bint_any (x * x + y * y) (lt10 hs) w)
  clear hx sx1 sx2 sx3 sy1 sy2 sy3 hs
  have HO : Hid (∀ o, Only (fun _ => False) w (w.alloc o)) := Lib.hid (fun o => (Only.refl _ w).alloc o)
  go_enter Try.func60, Try.ntmps60
  go_wp2_with fail
  refine (rright_any a b c d _).mono ?_
  rintro _ w1 ⟨rfl, ho1⟩
  rw [right_yes HQ.out]
  have p0 := ho1.cell' (p := ⟨w.heap.size, 0, none⟩) (v := .int .i64 a) (alloc_new _ _ _ _ _ _ rfl rfl) (fun f => f)
  have p1 := ho1.cell' (p := ⟨w.heap.size, 1, none⟩) (v := .int .i64 b) (alloc_new _ _ _ _ _ _ rfl rfl) (fun f => f)
  have p2 := ho1.cell' (p := ⟨w.heap.size, 2, none⟩) (v := .int .i64 c) (alloc_new _ _ _ _ _ _ rfl rfl) (fun f => f)
  have p3 := ho1.cell' (p := ⟨w.heap.size, 3, none⟩) (v := .int .i64 d) (alloc_new _ _ _ _ _ _ rfl rfl) (fun f => f)
  have HF := Lib.hid ((HO.out _).trans ho1)
  clear ho1 HO
  go_wp2_with fail
  refine (HV.out _).mono ?_
  rintro _ w2 ⟨rfl, ho2⟩
  have HF2 := Lib.hid (HF.out.trans ho2)
  clear ho2 p0 p1 p2 p3
  go_wp2_with fail
  refine (HOX.out _).mono ?_
  rintro _ w3 ⟨rfl, h3⟩
  go_wp2_with fail
  refine (HOX.out _).mono ?_
  rintro _ w4 ⟨rfl, h4⟩
  go_wp2_with fail
  refine (HTX.out _).mono ?_
  rintro _ w5 ⟨rfl, h5⟩
  go_wp2_with fail
  refine (HOY.out _).mono ?_
  rintro _ w6 ⟨rfl, h6⟩
  go_wp2_with fail
  refine (HOY.out _).mono ?_
  rintro _ w7 ⟨rfl, h7⟩
  go_wp2_with fail
  refine (HTY.out _).mono ?_
  rintro _ w8 ⟨rfl, h8⟩
  go_wp2_with fail
  refine (HPL.out _).mono ?_
  rintro _ w9 ⟨rfl, h9⟩
  go_wp2_with fail
  refine (HIN.out _).mono ?_
  rintro _ w10 ⟨rfl, h10⟩
  have HF3 := Lib.hid (HF2.out.trans (h3.trans (h4.trans (h5.trans (h6.trans (h7.trans (h8.trans (h9.trans h10))))))))
  clear h3 h4 h5 h6 h7 h8 h9 h10
  have HS : Hid (intOr (x * x + y * y) = stN x y ∧ isInt (x * x + y * y) = stB x y) := Lib.hid ⟨rfl, rfl⟩
  rw [HS.out.1, HS.out.2]
  generalize hn1 : stN x y = n1 at *
  generalize hn2 : stB x y = n2 at *
  replace hn1 := Lib.hid hn1
  replace hn2 := Lib.hid hn2
  go_wp2_with fail
  go_ret2
  exact ⟨by rw [hn1.out, hn2.out]; rfl, HF3.out⟩
set_option maxRecDepth 100000 in
theorem rstrength_no (a b c d : Int) (h : ¬ Q4 a b c d) (w : World) : Calls Try.prog 60 #[.agg #[.int .i64 a, .int .i64 b, .int .i64 c, .int .i64 d]] w fun e w' => e = .returned (.tuple #[.int .i64 0, .bool false]) ∧ Only (fun _ => False) w w' := by
  have HO : Hid (∀ o, Only (fun _ => False) w (w.alloc o)) := Lib.hid (fun o => (Only.refl _ w).alloc o)
  go_enter Try.func60, Try.ntmps60
  go_wp2_with fail
  refine (rright_any a b c d _).mono ?_
  rintro _ w1 ⟨rfl, ho1⟩
  rw [right_no h]
  have HF := Lib.hid ((HO.out _).trans ho1)
  clear ho1 HO h
  go_wp2_with fail
  go_ret2
  exact ⟨rfl, HF.out⟩

/-- all usage -/
def totN (a b c d : Int) : Int := if rightB a b c d = true then a + b + c + d else 0
set_option maxRecDepth 100000 in
theorem total_yes (a b c d : Int) (h : Q4 a b c d) (w : World) : Calls Try.prog 64 #[.agg #[.int .i64 a, .int .i64 b, .int .i64 c, .int .i64 d]] w fun e w' => e = .returned (.int .i64 (a + b + c + d)) ∧ Only (fun _ => False) w w' := by
  have HQ := Lib.hid h
  have hsum : [a, b, c, d].sum = a + b + c + d := by simp; omega
  have hi : intOr (a + b + c + d) = a + b + c + d ∧ isInt (a + b + c + d) = true := by
    obtain ⟨⟨_, _⟩, ⟨_, _⟩, ⟨_, _⟩, ⟨_, _⟩⟩ := h
    have e : isInt (a + b + c + d) = true := by rw [isInt_iff]; omega
    refine ⟨?_, e⟩
    unfold intOr
    rw [e]; rfl
  have HS : Hid (∀ w' k, ReadsI w' (some k) 4 [a, b, c, d] → Calls Try.prog 119 #[.slice (some k) 4 4] w' fun e w'' => e = .returned (.tuple #[.int .i64 (a + b + c + d), .bool true]) ∧ w' = w'') := Lib.hid (fun w' k hr => by
    have := asum_any (some k) 4 4 [a, b, c, d] w' hr
    rw [hsum, hi.1, hi.2] at this
    exact this)
  clear h hsum hi
  generalize a + b + c + d = t at *
  have HO : Hid (∀ o, Only (fun _ => False) w (w.alloc o)) := Lib.hid (fun o => (Only.refl _ w).alloc o)
  go_enter Try.func64, Try.ntmps64
  go_wp2_with fail
  refine (isright_any a b c d _).mono ?_
  rintro _ w1 ⟨rfl, ho1⟩
  rw [right_yes HQ.out]
  have p0 := ho1.cell' (p := ⟨w.heap.size, 0, none⟩) (v := .int .i64 a) (alloc_new _ _ _ _ _ _ rfl rfl) (fun f => f)
  have p1 := ho1.cell' (p := ⟨w.heap.size, 1, none⟩) (v := .int .i64 b) (alloc_new _ _ _ _ _ _ rfl rfl) (fun f => f)
  have p2 := ho1.cell' (p := ⟨w.heap.size, 2, none⟩) (v := .int .i64 c) (alloc_new _ _ _ _ _ _ rfl rfl) (fun f => f)
  have p3 := ho1.cell' (p := ⟨w.heap.size, 3, none⟩) (v := .int .i64 d) (alloc_new _ _ _ _ _ _ rfl rfl) (fun f => f)
  have HF := Lib.hid ((HO.out _).trans ho1)
  have HP := Lib.hid (And.intro p0 (And.intro p1 (And.intro p2 p3)))
  clear ho1 HO
  go_wp2_with fail
  refine (HS.out _ _ ?_).mono ?_
  · obtain ⟨⟨_, _⟩, ⟨_, _⟩, ⟨_, _⟩, ⟨_, _⟩⟩ := HQ.out
    refine ⟨rfl, by unfold maxLen; omega, ?_, .inr ⟨w.heap.size, 0, rfl, ?_⟩⟩
    · intro x hx
      simp at hx
      rcases hx with rfl | rfl | rfl | rfl <;> omega
    · intro i hi
      have h4 : i = 0 ∨ i = 1 ∨ i = 2 ∨ i = 3 := by omega
      rcases h4 with rfl | rfl | rfl | rfl
      · exact HP.out.1
      · exact HP.out.2.1
      · exact HP.out.2.2.1
      · exact HP.out.2.2.2
  rintro _ _ ⟨rfl, rfl⟩
  clear p0 p1 p2 p3
  go_wp2_with fail
  go_ret
  exact ⟨rfl, HF.out⟩
set_option maxRecDepth 100000 in
theorem total_no (a b c d : Int) (h : ¬ Q4 a b c d) (w : World) : Calls Try.prog 64 #[.agg #[.int .i64 a, .int .i64 b, .int .i64 c, .int .i64 d]] w fun e w' => e = .returned (.int .i64 0) ∧ Only (fun _ => False) w w' := by
  have HO : Hid (∀ o, Only (fun _ => False) w (w.alloc o)) := Lib.hid (fun o => (Only.refl _ w).alloc o)
  go_enter Try.func64, Try.ntmps64
  go_wp2_with fail
  refine (isright_any a b c d _).mono ?_
  rintro _ w1 ⟨rfl, ho1⟩
  rw [right_no h]
  have HF := Lib.hid ((HO.out _).trans ho1)
  clear ho1 HO h
  go_wp2_with fail
  go_ret
  exact ⟨rfl, HF.out⟩
theorem total_any (a b c d : Int) (w : World) : Calls Try.prog 64 #[.agg #[.int .i64 a, .int .i64 b, .int .i64 c, .int .i64 d]] w fun e w' => e = .returned (.int .i64 (totN a b c d)) ∧ Only (fun _ => False) w w' := by
  unfold totN
  by_cases h : Q4 a b c d
  · rw [right_yes h, if_pos rfl]
    exact total_yes a b c d h w
  · rw [right_no h, if_neg (by simp)]
    exact total_no a b c d h w
/-- how far, of every rhythm -/
def stNQ (a b c d : Int) : Int := if rightB a b c d = true then stN (a - c) (b - d) else 0
def stBQ (a b c d : Int) : Bool := if rightB a b c d = true then stB (a - c) (b - d) else false
theorem strength_any (a b c d : Int) (w : World) : Calls Try.prog 59 #[.agg #[.int .i64 a, .int .i64 b, .int .i64 c, .int .i64 d]] w fun e w' => e = .returned (.tuple #[.int .i64 (stNQ a b c d), .bool (stBQ a b c d)]) ∧ Only (fun _ => False) w w' := by
  unfold stNQ stBQ
  by_cases h : Q4 a b c d
  · rw [right_yes h, if_pos rfl, if_pos rfl]
    exact strength_yes a b c d h w
  · rw [right_no h, if_neg (by simp), if_neg (by simp)]
    exact strength_no a b c d h w
theorem rstrength_any (a b c d : Int) (w : World) : Calls Try.prog 60 #[.agg #[.int .i64 a, .int .i64 b, .int .i64 c, .int .i64 d]] w fun e w' => e = .returned (.tuple #[.int .i64 (stNQ a b c d), .bool (stBQ a b c d)]) ∧ Only (fun _ => False) w w' := by
  unfold stNQ stBQ
  by_cases h : Q4 a b c d
  · rw [right_yes h, if_pos rfl, if_pos rfl]
    exact rstrength_yes a b c d h w
  · rw [right_no h, if_neg (by simp), if_neg (by simp)]
    exact rstrength_no a b c d h w
end Go.Proofs.Ytlldecklngcklaa.rhyw
