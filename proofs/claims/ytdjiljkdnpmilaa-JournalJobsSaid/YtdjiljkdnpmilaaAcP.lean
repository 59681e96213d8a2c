/- The journal's Accounts. -/
import Derived.Test.YtdjiljkdnpmilaaAcO
import Derived.Test.YtdjiljkdnpmilaaJnH
import Derived.Sort.OwnSorted
namespace Go.Proofs.Ytdjiljkdnpmilaa.acck
open Go.RowKit mem Go.WideShapes Go.ChangeMaps Go.WideMaps Go.Maps accm accn entw entm Go.Sort jnw
set_option linter.unusedVariables false
set_option maxRecDepth 100000

theorem keysOf_nil : KeysOf (fun _ => none) [] := ⟨List.nodup_nil, fun i => by simp, fun i h => by cases h⟩
set_option maxHeartbeats 1000000 in
theorem keys1_nil (F : Fence) (k : Nat) (hf : F.fn 56) (hro : F.round = none) (l Bm : Nat) (J : List Ac → World → Prop)
    (W : World) (hJ : AbidesFrom W.heap.size J) (hm : W.cell? ⟨Bm, 0, none⟩ = some (.map none)) (h0 : J [] W) :
    CallsIn F k Try.prog 56 #[.func (.yield l) #[] #[], .pointer (some ⟨Bm, 0, none⟩)] W fun e W' => (∃ v, e = .returned v) ∧ ∃ ss, (KeysOf (fun _ => none) ss ∧ ss.length ≤ 0) ∧ J ss W' := by
  have hrun := run_range_nilMap (P := Try.prog) W _ _ _ Try.underlying81
  have HJ0 := Lib.hid (hJ [] W (W.alloc (.mapIter none 0 #[] 0)) none h0 (World.grownBy_alloc W _ none) (fun r e => by cases e))
  have hnx : ∀ ty, (Instr.next (.pointer (some ⟨W.heap.size, 0, none⟩)) false ty).run Try.prog (W.alloc (.mapIter none 0 #[] 0)) = .ok (.tuple #[.bool false]) (W.alloc (.mapIter none 0 #[] 0)) := fun ty => run_next_nilMap W ty 0 0 #[]
  clear h0 hJ
  refine callsIn_of_wp Try.func56 rfl hf ?_ hro
  simp only [Try.ntmps56, List.size_toArray, List.length_cons, List.length_nil, Nat.reduceAdd, Nat.reduceSub, Array.replicate_succ, Array.replicate_zero, List.push_toArray, List.append_toArray, List.nil_append, List.cons_append]
  gi_wp2
  gi_loopw [3] (fun _ wr => wr = W.alloc (.mapIter none 0 #[] 0)) (fun _ wr => 0)
  case atStart => rfl
  case round =>
    subst hrel
    gi_wp2
    go_end0
    exact ⟨⟨_, rfl⟩, [], ⟨keysOf_nil, Nat.le_refl _⟩, HJ0.out⟩
theorem keys_give_nil (F : Fence) (k : Nat) (hf : F.fn 56) (hro : F.round = none) (Bm n : Nat) (w : World) (hBm : Bm < w.heap.size)
    (hm : w.cell? ⟨Bm, 0, none⟩ = some (.map none)) :
    SeqGives F k Try.prog 56 #[.pointer (some ⟨Bm, 0, none⟩)] acc (fun ss => KeysOf (fun _ => none) ss ∧ ss.length ≤ n) n w := fun l J W hW hJ hY h0 =>
  (keys1_nil F k hf hro l Bm J W hJ ((hW.cell (p := ⟨Bm, 0, none⟩) hBm).trans hm) h0).mono (fun e W' h => ⟨h.1, by obtain ⟨ss, ⟨h1, h2⟩, h3⟩ := h.2; exact ⟨ss, ⟨h1, by omega⟩, h3⟩⟩)

/-- accounts in order, read -/
def AccsAt (C : Ac → Option (List Int)) (w : World) (v : Value) (w' : World) : Prop := ∃ a cap ss, v = .slice a (List.length ss) cap ∧ ReadsA w' a ss.length ss ∧ KeysOf C ss ∧ SortedC ss ∧ ss.length ≤ cap ∧ cap ≤ maxLen ∧ Only (fun _ => False) w w'
theorem keysOf_perm {C : Ac → Option (List Int)} {a b : List Ac} (h : KeysOf C a) (hp : b.Perm a) : KeysOf C b := ⟨hp.nodup_iff.2 h.1, fun i => (hp.mem_iff).trans (h.2.1 i), fun i hi => h.2.2 i (hp.mem_iff.1 hi)⟩
set_option maxHeartbeats 1000000 in
theorem sortedF_any (g : Nat) (lb : Array Value) (eg : ∀ args w, (callFunc g args).run Try.prog w = .ok (.enter g args) w) (C : Ac → Option (List Int)) (n : Nat) (hn : n ≤ 20000000) (w : World)
    (hseq : SeqGives Fence.wide 1 Try.prog g lb acc (fun ss => KeysOf C ss ∧ ss.length ≤ n) n w) :
    Calls Try.prog 37 #[.func (.func g) #[] lb, .func (.func 39) #[] #[]] w fun e w' => ∃ v, e = .returned v ∧ AccsAt C w v w' := by
  have HC := Lib.hid (callsIn_wide.1 (collect_in Fence.wide 3 trivial trivial rfl (Nat.le_refl _) g lb trivial eg (fun ss => KeysOf C ss ∧ ss.length ≤ n) n hn w hseq))
  clear hseq
  go_enter Try.func37, Try.ntmps37
  go_wp2_with fail
  refine (HC.out).mono ?_
  rintro e w1 ⟨v, ss, rfl, ⟨hS, hSn⟩, hrow, hnil, hbl⟩
  have HS := Lib.hid hS
  have HO := Lib.hid (Only.of_below hbl)
  rcases hrow.2 with ⟨rfl, hz⟩ | ⟨gb, cap, cur, rfl, hbase, hgb, r1, r2, r3, r4⟩
  · have hss : ss = [] := List.eq_nil_of_length_eq_zero hz
    subst hss
    have HSO := Lib.hid (AnyF.slices_SortFunc_none Try.sortAccs none 0 (.func (.func 39) #[] #[]) w1)
    clear hrow hnil hbl hS hz
    go_wp2_with fail
    refine (HSO.out).mono ?_
    rintro e w' ⟨rfl, rfl⟩
    go_wp2_with fail
    go_ret
    exact ⟨_, rfl, none, 0, [], rfl, ⟨rfl, .inl rfl⟩, HS.out, List.Pairwise.nil, Nat.le_refl _, by unfold maxLen; omega, HO.out⟩
  · have HSO := Lib.hid (sortA_any w.heap.size gb ss.length cap ss w1 hrow rfl (by omega))
    have HB := Lib.hid hbase
    clear hrow hnil hbl hS hgb r3 r4
    go_wp2_with fail
    refine (HSO.out).mono ?_
    rintro e w' ⟨ls', rfl, hp, hso, hrd, ho⟩
    have HP := Lib.hid hp
    have HSS := Lib.hid hso
    have HRD := Lib.hid hrd
    have HO2 : Hid (Only (fun _ => False) w w') := Lib.hid (HO.out.then ho (fun q hq e => by have := HB.out; omega))
    have hl : ss.length = ls'.length := hp.length_eq.symm
    have HL := Lib.hid hl
    clear hp hso hrd ho hl
    go_wp2_with fail
    go_ret
    exact ⟨_, rfl, some ⟨gb, 0, none⟩, cap, ls', by rw [← HL.out]; rfl, by have := HRD.out; rw [HL.out] at this; exact this, keysOf_perm HS.out HP.out, HSS.out, by have := HL.out; omega, r2, HO2.out⟩

theorem keys_any (mb : Option Nat) (w : World) :
    Calls Try.prog 38 #[.map mb] w fun e w' => e = .returned (.func (.func 56) #[] #[.pointer (some ⟨w.heap.size, 0, none⟩)]) ∧ w' = w.alloc (.cells #[.map mb] 81) := callsIn_wide.1 (keys_in Fence.wide 1 trivial rfl mb w)
theorem accounts_any {S : Nat → Prop} (p op : Nat) (v : Value) (m : Option Nat) (nn : Nat) (C : Ac → Option (List Int)) (L : List Ps) (w : World) (h : JnAt S w p v op m nn C L) :
    Calls Try.prog 22 #[.pointer (some ⟨p, 0, none⟩)] w fun e w' => ∃ v, e = .returned v ∧ AccsAt C w v w' := by
  have e2 := h.jc.c2
  have eg : ∀ args w, (callFunc 56 args).run Try.prog w = .ok (.enter 56 args) w := enters_of Try.func56 (by kernel_rfl) rfl
  have hlen := h.len
  have hnb := h.nb
  have HSG : Hid (SeqGives Fence.wide 1 Try.prog 56 #[.pointer (some ⟨w.heap.size, 0, none⟩)] acc (fun ss => KeysOf C ss ∧ ss.length ≤ nn) nn (w.alloc (.cells #[.map m] 81))) := Lib.hid (by
    have hc : (w.alloc (.cells #[.map m] 81)).cell? ⟨w.heap.size, 0, none⟩ = some (.map m) := alloc_newA _ _ _ _ _ _ rfl rfl
    cases m with
    | none =>
      have hC : C = fun _ => none := funext h.mp
      subst hC
      exact keys_give_nil Fence.wide 1 trivial rfl _ nn _ (by simp) hc
    | some b => exact keys_give Fence.wide 1 trivial rfl (Nat.le_refl _) _ b nn C _ (by simp) hc (MapA.only (S := fun _ => False) h.mp ((Only.refl _ _).alloc _) (fun f => f)))
  have HSF := Lib.hid (sortedF_any _ _ eg C nn (by omega) _ HSG.out)
  clear h HSG eg
  go_enter Try.func22, Try.ntmps22
  go_wp2_with fail
  refine (keys_any m w).mono ?_
  rintro _ w1 ⟨rfl, rfl⟩
  go_wp2_with fail
  refine HSF.out.mono ?_
  rintro _ w2 ⟨v', rfl, hacc⟩
  have HA : Hid (AccsAt C w v' w2) := Lib.hid (by
    obtain ⟨a, cap, ss, h1, h2, h3, h4, h5, h6, h7⟩ := hacc
    exact ⟨a, cap, ss, h1, h2, h3, h4, h5, h6, ((Only.refl _ _).alloc _).trans h7⟩)
  clear hacc HSF
  obtain ⟨a9, c9, s9, rfl, -⟩ := HA.out
  go_wp2_with fail
  go_ret
  exact ⟨_, rfl, HA.out⟩
end Go.Proofs.Ytdjiljkdnpmilaa.acck
