/- FundsBack, for its frame. -/
import Derived.Test.YtfpeimihlihphaaFuV
namespace Go.Proofs.Ytfpeimihlihphaa.fnd
open Go.RowKit mem
def ActD.cs3 (d : ActD) : Array Value := #[.int .i64 d.what, .int .i64 d.node, .slice d.pa d.pn d.pc, .slice d.la d.ln d.lc, .int .i64 d.amt, .bool d.carry, .int .i64 d.x.t, .int .i64 d.x.c, .int .i64 d.x.e, .int .i64 d.x.u, .int .i64 d.x.h]
section
variable {H : Type} {enc : TypeId × Value → H} {w : World} {base : Nat}
theorem act_open3 {fuel : Nat} {cs : Array Value} (hsz : cs.size = 11) {x : DataW H × List MemPlace} (h : DataW.trod enc Try.prog w base (fun _ => true) true fuel 74 (Value.agg cs).cells.toList = some x) : ∃ d : ActD, cs = d.cs3 ∧ ActIn w d := by
  obtain ⟨d, hd, hi⟩ := act_open hsz h
  exact ⟨d, by unfold ActD.v aggAct at hd; injection hd, hi⟩
end
theorem back_walk (a1 : Option Addr) (l1 c1 : Nat) (d : ActD) (part : Int) (w : World) (h1 : RowF w a1 l1) (h2 : ActIn w d) :
    Calls Try.prog 9 #[.slice a1 l1 c1, .agg d.cs3, .int .i64 part] w fun e w' => e = .returned (.bool true) ∧ Below w.heap.size w w' :=
  (back_any a1 l1 c1 d part w h1 h2).mono fun _ _ ⟨p, q⟩ => ⟨p, q.none⟩
end Go.Proofs.Ytfpeimihlihphaa.fnd
