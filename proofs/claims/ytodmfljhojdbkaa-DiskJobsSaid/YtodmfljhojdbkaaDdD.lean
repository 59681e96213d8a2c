/- The document's disk: DocSync, DocCrash. -/
import Derived.Test.YtodmfljhojdbkaaDdC
namespace Go.Proofs.Ytodmfljhojdbkaa.dskw
open Go.RowKit mem
set_option linter.unusedVariables false

theorem rsync_off (q bL bN bD n cL cN cD : Nat) (La No : Nat → List Nat) (Di : Nat → Bool) (armed : Int) (w : World) (h : DdAt w q bL bN bD n cL cN cD La No Di armed true) :
    Calls Try.prog 13 #[.pointer (some ⟨q, 0, none⟩)] w fun e w' => e = .returned (.int .i64 12) ∧ w = w' := by
  have c4 := h.c4
  clear h
  go_enter Try.func13, Try.ntmps13
  go_wp2_with fail
  go_ret
  exact ⟨rfl, rfl⟩
theorem rsync_on (q bL bN bD n cL cN cD : Nat) (La No : Nat → List Nat) (Di : Nat → Bool) (armed : Int) (w : World) (h : DdAt w q bL bN bD n cL cN cD La No Di armed false) :
    Calls Try.prog 13 #[.pointer (some ⟨q, 0, none⟩)] w fun e w' => e = .returned (.int .i64 0) ∧ DdAt w' q bL bN bD n cL cN cD (midA true [] La No Di n) (midM true [] La No Di n) (midD Di n) armed false ∧ Only (Dd4 q bL bN bD) w w' := by
  have c4 := h.c4
  have HS := Lib.hid (settle_any q bL bN bD n cL cN cD La No Di armed false true none 0 0 [] w h ⟨rfl, by omega, .inl rfl⟩ (fun h => by omega))
  clear h
  go_enter Try.func13, Try.ntmps13
  go_wp2_with fail
  refine HS.out.mono ?_
  rintro _ w' ⟨rfl, hd, ho⟩
  have HD := Lib.hid hd
  have HO := Lib.hid ho
  clear hd ho HS
  go_wp2_with fail
  go_ret
  exact ⟨rfl, HD.out, HO.out⟩
theorem rcrash_any (q bL bN bD n cL cN cD : Nat) (La No : Nat → List Nat) (Di : Nat → Bool) (armed : Int) (off : Bool) (a : Option Addr) (len cap : Nat) (kl : List Bool) (w : World) (h : DdAt w q bL bN bD n cL cN cD La No Di armed off) (hk : Bools w a len kl) (ha : 0 < len → ∀ x, a = some x → ¬ Dd4 q bL bN bD x.block) :
    Calls Try.prog 16 #[.pointer (some ⟨q, 0, none⟩), .slice a len cap] w fun e w' => e = .returned (.tuple #[]) ∧ DdAt w' q bL bN bD n cL cN cD (midA false kl La No Di n) (midM false kl La No Di n) (midD Di n) 0 false ∧ Only (Dd4 q bL bN bD) w w' := by
  have HS := Lib.hid (settle_any q bL bN bD n cL cN cD La No Di armed off false a len cap kl w h hk ha)
  clear h hk ha
  go_enter Try.func16, Try.ntmps16
  go_wp2_with fail
  refine HS.out.mono ?_
  rintro _ w1 ⟨rfl, hd, ho⟩
  have c4 := hd.c4
  have f4 := hd.f4
  have f3 := hd.f3
  have c3 := hd.c3
  have HD := Lib.hid ((hd.setO false).setA 0 (by omega))
  have HO : Hid (Only (Dd4 q bL bN bD) w ((w1.setCell ⟨q, 4, none⟩ (.bool false)).setCell ⟨q, 3, none⟩ (.int .i64 0))) := Lib.hid (ho.trans (((Only.refl _ w1).setCell (p := ⟨q, 4, none⟩) (.inl (.inl rfl)) _).setCell (p := ⟨q, 3, none⟩) (.inl (.inl rfl)) _))
  clear hd ho HS
  go_wp2_with fail
  go_end0
  exact ⟨rfl, HD.out, HO.out⟩
end Go.Proofs.Ytodmfljhojdbkaa.dskw
