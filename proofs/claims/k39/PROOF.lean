import PyProof.Rows.All
import Wide.All
import OpenK.AllK
import Wide.FinOn
import KE.OsRunLaw
import HandS.ForMost
import HandS.TupAny
import HandS.TupMul
import HandS.IsInst
import HandS.SortInts
import HandS.Wide
import HandS.Style
import HandS.Flow
import HandS.Deep
import HandS.SetFor
import HandS.Conv
import HandS.SortRule
import HandS.RaiseMore
import HandS.Zip
import KE.GoesMore
import KE.GoesEnum
import HandS.Strs
import HandS.NoneIn
import HandS.List
import HandS.SortOrd
import HandS.Text
import HandS.FStr
import KE.KDictZip
import PyProof.TupleOfGen
import HandS.DictEq
import HandS.ForExc
import HandS.ExcInit
import HandS.ExcField
import HandS.ExcIs
import HandS.TryMany
import KE.KExcIs
import KE.KIsAll
import KE.KCallOwn
import HandS.SlotsOwn
import HandS.MakeKwOnly
import HandS.More
import HandS.CallLocal
import HandS.HeadHook3
import HandS.TryOnly
import KE.KExcPX
import KE.KIndexOf
import HandS.GenBody
import PyProof.GenComp
import HandS.GenYield
import HandS.GenList
import KE.LtData
import HandS.StrMore
import HandS.Codes
import HandS.Iter
import HandS.ClsMeth
import HandS.HotCalls
import PyProof.FString3
import KE.KxField
import PySem.Challenge.RW_shoeparty_k39_versions_and_numbers
set_option Elab.async false
set_option linter.all false
set_option maxRecDepth 100000
namespace DL
open PySem PySem.W PySem.Calls PyProof.Rows
abbrev headR : OpenRow := OpenLaw.row PySem.Challenge.rw_shoeparty_k39_versions_and_numbers
def headQ : Program := view headR.prog (([0, 1, 2, 3, 4, 6, 7, 8, 9, 10, 11, 12, 13, 14, 15, 16, 17, 18, 19, 20, 21, 22, 23, 25, 26, 27, 28, 29, 30, 31] : List Nat) ++ ([33, 34, 35, 36, 37, 38, 40, 41, 42, 43, 44, 46, 47, 48, 49, 50, 51, 52, 54, 55, 56, 57, 58, 59, 60, 62, 63, 65, 66, 67] : List Nat) ++ ([68, 69, 70, 71, 72, 73, 74, 75, 76, 77, 78] : List Nat))
def headL : List PySem.Str := (["CHANGES", "Party"] : List PySem.Str)
def headD (p : Program) (i : Nat) : DefRec := match p.main.body[i]? with
  | some (.FunctionDef n a b _ _ _ sc _ _ pos) => ⟨n, a, b, sc, pos⟩
  | _ => ⟨"law", ⟨[], [], none, [], [], none, []⟩, [], ⟨.function, [], false, false, []⟩, default⟩
theorem by_row {F : World → OsState → Prop} (row : String) (hf : ∀ (w : World) (os : OsState), F (w.withFollow row false) os) (ht : ∀ (w : World) (os : OsState), F (w.withFollow row true) os) : ∀ (w : World) (os : OsState), F w os := fun w => byRow2 row (P := fun w => ∀ os, F w os) hf ht w
end DL
namespace DL
theorem map3 {S A B C : Type} {o : Option S} {f : S → A} {g : S → B} {h : S → C} {a : A} {b : B} {c : C} (h1 : o.map f = some a) (h2 : o.map g = some b) (h3 : o.map h = some c) : o.map (fun s => (f s, g s, h s)) = some (a, b, c) := by
  cases o with
  | none => cases h1
  | some s =>
    cases Option.some.inj h1
    cases Option.some.inj h2
    cases Option.some.inj h3
    rfl
theorem spl1 {S A B : Type} {o : Option S} {f : S → A} {g : S → B} {a : A} {b : B} (h : o.map (fun s => (f s, g s)) = some (a, b)) : o.map f = some a := by
  cases o with
  | none => cases h
  | some s => exact congrArg some (Prod.mk.inj (Option.some.inj h)).1
theorem spl2 {S A B : Type} {o : Option S} {f : S → A} {g : S → B} {a : A} {b : B} (h : o.map (fun s => (f s, g s)) = some (a, b)) : o.map g = some b := by
  cases o with
  | none => cases h
  | some s => exact congrArg some (Prod.mk.inj (Option.some.inj h)).2
theorem comb9 {S A1 A2 A3 A4 A5 A6 A7 A8 A9 : Type} {F : S → A1 × A2 × A3 × A4 × A5 × A6 × A7 × A8 × A9} {o : Option S} {a1 : A1} {a2 : A2} {a3 : A3} {a4 : A4} {a5 : A5} {a6 : A6} {a7 : A7} {a8 : A8} {a9 : A9}
    (h1 : o.map (fun s => (F s).1) = some a1) (h2 : o.map (fun s => (F s).2.1) = some a2) (h3 : o.map (fun s => (F s).2.2.1) = some a3) (h4 : o.map (fun s => (F s).2.2.2.1) = some a4) (h5 : o.map (fun s => (F s).2.2.2.2.1) = some a5) (h6 : o.map (fun s => (F s).2.2.2.2.2.1) = some a6) (h7 : o.map (fun s => (F s).2.2.2.2.2.2.1) = some a7) (h8 : o.map (fun s => (F s).2.2.2.2.2.2.2.1) = some a8) (h9 : o.map (fun s => (F s).2.2.2.2.2.2.2.2) = some a9) :
    o.map F = some (a1, a2, a3, a4, a5, a6, a7, a8, a9) := by
  cases o with
  | none => cases h1
  | some s =>
    cases Option.some.inj h1
    cases Option.some.inj h2
    cases Option.some.inj h3
    cases Option.some.inj h4
    cases Option.some.inj h5
    cases Option.some.inj h6
    cases Option.some.inj h7
    cases Option.some.inj h8
    cases Option.some.inj h9
    rfl
end DL
open PySem PySem.W PySem.Calls PyProof.Rows in
set_option maxRecDepth 100000 in
set_option maxHeartbeats 0 in
theorem DL.part_false_a : ∀ (w : World) (os : OsState), (HeadRun.endF (HeadRun.stepQ (HeadRun.denQ HeadRun.tabQ) DL.headR.prog (w.withFollow "special-get-raises" false)) 13436 DL.headR.prog (w.withFollow "special-get-raises" false) os).map (fun s => (HeadRun.looksF DL.headR.prog (boot_heap (w.withFollow "special-get-raises" false).params) s.abs, (HeadRun.seenQ DL.headQ DL.headL (importedModules DL.headR.prog.main.body) (fun s => xlAt DL.headQ [] s && recOk (RowW.records (OpenRow.toRowW DL.headR)) s) s.abs).1, (HeadRun.seenQ DL.headQ DL.headL (importedModules DL.headR.prog.main.body) (fun s => xlAt DL.headQ [] s && recOk (RowW.records (OpenRow.toRowW DL.headR)) s) s.abs).2.1)) = some (true, expectedOf DL.headQ, bltViewBooted) := by
  intro w os
  kernel_rfl
open PySem PySem.W PySem.Calls PyProof.Rows in
set_option maxRecDepth 100000 in
set_option maxHeartbeats 0 in
theorem DL.part_false_b : ∀ (w : World) (os : OsState), (HeadRun.endF (HeadRun.stepQ (HeadRun.denQ HeadRun.tabQ) DL.headR.prog (w.withFollow "special-get-raises" false)) 13436 DL.headR.prog (w.withFollow "special-get-raises" false) os).map (fun s => ((HeadRun.seenQ DL.headQ DL.headL (importedModules DL.headR.prog.main.body) (fun s => xlAt DL.headQ [] s && recOk (RowW.records (OpenRow.toRowW DL.headR)) s) s.abs).2.2.1, (HeadRun.seenQ DL.headQ DL.headL (importedModules DL.headR.prog.main.body) (fun s => xlAt DL.headQ [] s && recOk (RowW.records (OpenRow.toRowW DL.headR)) s) s.abs).2.2.2.1)) = some (true, true) := by
  intro w os
  kernel_rfl
open PySem PySem.W PySem.Calls PyProof.Rows in
set_option maxRecDepth 100000 in
set_option maxHeartbeats 0 in
theorem DL.part_false_c : ∀ (w : World) (os : OsState), (HeadRun.endF (HeadRun.stepQ (HeadRun.denQ HeadRun.tabQ) DL.headR.prog (w.withFollow "special-get-raises" false)) 13436 DL.headR.prog (w.withFollow "special-get-raises" false) os).map (fun s => ((HeadRun.seenQ DL.headQ DL.headL (importedModules DL.headR.prog.main.body) (fun s => xlAt DL.headQ [] s && recOk (RowW.records (OpenRow.toRowW DL.headR)) s) s.abs).2.2.2.2.1, (HeadRun.seenQ DL.headQ DL.headL (importedModules DL.headR.prog.main.body) (fun s => xlAt DL.headQ [] s && recOk (RowW.records (OpenRow.toRowW DL.headR)) s) s.abs).2.2.2.2.2.1, (HeadRun.seenQ DL.headQ DL.headL (importedModules DL.headR.prog.main.body) (fun s => xlAt DL.headQ [] s && recOk (RowW.records (OpenRow.toRowW DL.headR)) s) s.abs).2.2.2.2.2.2.1)) = some (pinGoodD (drecsOf DL.headQ), plainGoodE DL.headQ (looseW DL.headQ DL.headL), plainGoodD DL.headQ DL.headL) := by
  intro w os
  kernel_rfl
open PySem PySem.W PySem.Calls PyProof.Rows in
set_option maxRecDepth 100000 in
set_option maxHeartbeats 0 in
theorem DL.part_false_d : ∀ (w : World) (os : OsState), (HeadRun.endF (HeadRun.stepQ (HeadRun.denQ HeadRun.tabQ) DL.headR.prog (w.withFollow "special-get-raises" false)) 13436 DL.headR.prog (w.withFollow "special-get-raises" false) os).map (fun s => ((HeadRun.seenQ DL.headQ DL.headL (importedModules DL.headR.prog.main.body) (fun s => xlAt DL.headQ [] s && recOk (RowW.records (OpenRow.toRowW DL.headR)) s) s.abs).2.2.2.2.2.2.2.1, (HeadRun.seenQ DL.headQ DL.headL (importedModules DL.headR.prog.main.body) (fun s => xlAt DL.headQ [] s && recOk (RowW.records (OpenRow.toRowW DL.headR)) s) s.abs).2.2.2.2.2.2.2.2)) = some (wideGood DL.headQ, clsGoodW DL.headQ DL.headL) := by
  intro w os
  kernel_rfl
open PySem PySem.W PySem.Calls PyProof.Rows in
set_option maxRecDepth 100000 in
set_option maxHeartbeats 0 in
theorem DL.part_true_a : ∀ (w : World) (os : OsState), (HeadRun.endF (HeadRun.stepQ (HeadRun.denQ HeadRun.tabQ) DL.headR.prog (w.withFollow "special-get-raises" true)) 13436 DL.headR.prog (w.withFollow "special-get-raises" true) os).map (fun s => (HeadRun.looksF DL.headR.prog (boot_heap (w.withFollow "special-get-raises" true).params) s.abs, (HeadRun.seenQ DL.headQ DL.headL (importedModules DL.headR.prog.main.body) (fun s => xlAt DL.headQ [] s && recOk (RowW.records (OpenRow.toRowW DL.headR)) s) s.abs).1, (HeadRun.seenQ DL.headQ DL.headL (importedModules DL.headR.prog.main.body) (fun s => xlAt DL.headQ [] s && recOk (RowW.records (OpenRow.toRowW DL.headR)) s) s.abs).2.1)) = some (true, expectedOf DL.headQ, bltViewBooted) := by
  intro w os
  kernel_rfl
open PySem PySem.W PySem.Calls PyProof.Rows in
set_option maxRecDepth 100000 in
set_option maxHeartbeats 0 in
theorem DL.part_true_b : ∀ (w : World) (os : OsState), (HeadRun.endF (HeadRun.stepQ (HeadRun.denQ HeadRun.tabQ) DL.headR.prog (w.withFollow "special-get-raises" true)) 13436 DL.headR.prog (w.withFollow "special-get-raises" true) os).map (fun s => ((HeadRun.seenQ DL.headQ DL.headL (importedModules DL.headR.prog.main.body) (fun s => xlAt DL.headQ [] s && recOk (RowW.records (OpenRow.toRowW DL.headR)) s) s.abs).2.2.1, (HeadRun.seenQ DL.headQ DL.headL (importedModules DL.headR.prog.main.body) (fun s => xlAt DL.headQ [] s && recOk (RowW.records (OpenRow.toRowW DL.headR)) s) s.abs).2.2.2.1)) = some (true, true) := by
  intro w os
  kernel_rfl
open PySem PySem.W PySem.Calls PyProof.Rows in
set_option maxRecDepth 100000 in
set_option maxHeartbeats 0 in
theorem DL.part_true_c : ∀ (w : World) (os : OsState), (HeadRun.endF (HeadRun.stepQ (HeadRun.denQ HeadRun.tabQ) DL.headR.prog (w.withFollow "special-get-raises" true)) 13436 DL.headR.prog (w.withFollow "special-get-raises" true) os).map (fun s => ((HeadRun.seenQ DL.headQ DL.headL (importedModules DL.headR.prog.main.body) (fun s => xlAt DL.headQ [] s && recOk (RowW.records (OpenRow.toRowW DL.headR)) s) s.abs).2.2.2.2.1, (HeadRun.seenQ DL.headQ DL.headL (importedModules DL.headR.prog.main.body) (fun s => xlAt DL.headQ [] s && recOk (RowW.records (OpenRow.toRowW DL.headR)) s) s.abs).2.2.2.2.2.1, (HeadRun.seenQ DL.headQ DL.headL (importedModules DL.headR.prog.main.body) (fun s => xlAt DL.headQ [] s && recOk (RowW.records (OpenRow.toRowW DL.headR)) s) s.abs).2.2.2.2.2.2.1)) = some (pinGoodD (drecsOf DL.headQ), plainGoodE DL.headQ (looseW DL.headQ DL.headL), plainGoodD DL.headQ DL.headL) := by
  intro w os
  kernel_rfl
open PySem PySem.W PySem.Calls PyProof.Rows in
set_option maxRecDepth 100000 in
set_option maxHeartbeats 0 in
theorem DL.part_true_d : ∀ (w : World) (os : OsState), (HeadRun.endF (HeadRun.stepQ (HeadRun.denQ HeadRun.tabQ) DL.headR.prog (w.withFollow "special-get-raises" true)) 13436 DL.headR.prog (w.withFollow "special-get-raises" true) os).map (fun s => ((HeadRun.seenQ DL.headQ DL.headL (importedModules DL.headR.prog.main.body) (fun s => xlAt DL.headQ [] s && recOk (RowW.records (OpenRow.toRowW DL.headR)) s) s.abs).2.2.2.2.2.2.2.1, (HeadRun.seenQ DL.headQ DL.headL (importedModules DL.headR.prog.main.body) (fun s => xlAt DL.headQ [] s && recOk (RowW.records (OpenRow.toRowW DL.headR)) s) s.abs).2.2.2.2.2.2.2.2)) = some (wideGood DL.headQ, clsGoodW DL.headQ DL.headL) := by
  intro w os
  kernel_rfl
open PySem PySem.W PySem.Calls PyProof.Rows in
set_option hygiene false in
local macro_rules | `(tactic| o_head $H:term) => `(tactic| (refine holds_open (r := DL.headR) (q := DL.headQ) (loose := DL.headL) (Xt := fun s => xlAt DL.headQ [] s && recOk (RowW.records (OpenRow.toRowW DL.headR)) s) (XP := XL DL.headQ []) (Yf := Hook.obs $H) (Ya := Hook.val $H) (YP := Hook.says $H) (d := DL.headD DL.headR.prog 78) (kwd := []) (N := 14136) ?hl (Hook.of $H) (Hook.keeps $H) (fun s e => xl_of s (Bool.and_eq_true_iff.mp e).1) XL.keeps (by kernel_rfl) (by kernel_rfl) (by kernel_rfl) (fun s e => recFacts_of (Bool.and_eq_true_iff.mp e).2) (by rfl) (by first | assumption | decide +kernel) (by decide +kernel) ⟨rfl, rfl, rfl, rfl, rfl, by decide +kernel⟩ ?hw ?hc; (case hl => (refine HeadRun.left_oneK (M := 13436) (by kernel_rfl) (by rfl) (fun s => by kernel_rfl) (by rfl) ?_; refine DL.by_row "special-get-raises" ?_ ?_; (exact h1); (exact h2)))))
open PySem PySem.W PySem.Calls PyProof.Rows in
set_option maxRecDepth 100000 in
set_option maxHeartbeats 0 in
def DL.pre : (P : Prop) ×' (Q : Prop) ×' (R : Prop) ×' (P → Q → R → PySem.Challenge.rw_shoeparty_k39_versions_and_numbers.Holds) := ⟨_, _, _, fun h1 h2 h3 => by
  w_on; o_law; k_head; (case hw => w_witness2)
  exact h3
  ⟩
open PySem PySem.W PySem.Calls PyProof.Rows in
set_option maxRecDepth 100000 in
set_option maxHeartbeats 0 in
theorem DL.run1 : DL.pre.1 := by
  intro w os
  refine DL.map3 (DL.spl1 (DL.part_false_a w os)) (DL.comb9 (DL.spl1 (DL.spl2 (DL.part_false_a w os))) (DL.spl2 (DL.spl2 (DL.part_false_a w os))) (DL.spl1 (DL.part_false_b w os)) (DL.spl2 (DL.part_false_b w os)) (DL.spl1 (DL.part_false_c w os)) (DL.spl1 (DL.spl2 (DL.part_false_c w os))) (DL.spl2 (DL.spl2 (DL.part_false_c w os))) (DL.spl1 (DL.part_false_d w os)) (DL.spl2 (DL.part_false_d w os))) ?_
  kernel_rfl
open PySem PySem.W PySem.Calls PyProof.Rows in
set_option maxRecDepth 100000 in
set_option maxHeartbeats 0 in
theorem DL.run2 : DL.pre.2.1 := by
  intro w os
  refine DL.map3 (DL.spl1 (DL.part_true_a w os)) (DL.comb9 (DL.spl1 (DL.spl2 (DL.part_true_a w os))) (DL.spl2 (DL.spl2 (DL.part_true_a w os))) (DL.spl1 (DL.part_true_b w os)) (DL.spl2 (DL.part_true_b w os)) (DL.spl1 (DL.part_true_c w os)) (DL.spl1 (DL.spl2 (DL.part_true_c w os))) (DL.spl2 (DL.spl2 (DL.part_true_c w os))) (DL.spl1 (DL.part_true_d w os)) (DL.spl2 (DL.part_true_d w os))) ?_
  kernel_rfl
namespace DL
open PySem PySem.Spec PyProof.Rows L2
def keyD : Key → PyData
  | .inl i => .int i
  | .inr s => .str s
/-- a dict of ints under plain keys -/
def DctR (kvs : List (PyData × PyData)) (ks : List (Key × V)) : Prop :=
  ∃ ps : List (Key × Int), ks = ps.map (fun p => (p.1, V.int p.2)) ∧ kvs = ps.map (fun p => (keyD p.1, PyData.int p.2))
/-- a thing with a life of its own, named by its address -/
def refD (a : Addr) : PyData := .dict [(.none, .int (((2 : Nat) ^ 2000 + a : Nat) : Int))]
/-- a tuple of ints whose dict is known to be none -/
def clnD (ns : List Int) : PyData := .dict [(.none, .tuple (.int (((2 : Nat) ^ 2000 : Nat) : Int) :: ns.map .int))]
theorem rdS {F H : Hp} (e : Same F H) {a : Addr} {u : HO} (h : Rd F a u) : Rd H a u := h.imp (e _ _) fun ⟨o, q⟩ => ⟨o, e _ _ q⟩
theorem tupOk {X : Cx} {pins : List (Addr × Obj)} {σ : L2.St} {H : Hp} {s : Shared} (I : Inv X pins σ H s) {a : Addr} {xs : List V} (h : Rd H a (.tup xs)) : xs.length ≤ sizeLine ∧ ∃ its, Vals xs its ∧ IsTup s.heap a its.toArray := by
  rcases h with h | ⟨o, h⟩
  · exact I.hok a _ h
  · exact (I.hok a _ h).2
theorem sqtR {K : PySem.W.Frag} {H : Hp} {a : Addr} {xs : List V} (h : Rd H a (.tup xs)) : SqT K H a xs := .inl h
mutual
def Rp (K : PySem.W.Frag) (F : Hp) : PyData → V → Prop
  | .none, v => v = .non
  | .bool b, v => v = .bl b
  | .int i, v => v = .int i
  | .str s, v => v = .str s
  | .list ds, v => ∃ a xs, v = .ref a ∧ F a = some (.lst xs) ∧ Rps K F ds xs
  | .tuple ds, v => ∃ a xs, v = .ref a ∧ Rd F a (.tup xs) ∧ Rps K F ds xs
  | .dict kvs, v => (∃ a ks, v = .ref a ∧ F a = some (.dK ks) ∧ DctR kvs ks) ∨ (∃ a : Addr, PyData.dict kvs = refD a ∧ v = .ref a) ∨ ∃ (a : Addr) (ns : List Int) (o : Obj), PyData.dict kvs = clnD ns ∧ v = .ref a ∧ F a = some (.frz o (.tup (ns.map V.int))) ∧ o.cls = .type "tuple" ∧ o.dict = none
def Rps (K : PySem.W.Frag) (F : Hp) : List PyData → List V → Prop
  | [], vs => vs = []
  | d :: ds, vs => ∃ v r, vs = v :: r ∧ Rp K F d v ∧ Rps K F ds r
end
section
variable {K : PySem.W.Frag} {F F' H H' : Hp}
mutual
theorem Rp.mono (e : Same F F') : ∀ (d : PyData) (v : V), Rp K F d v → Rp K F' d v
  | .none, _, h => by simpa only [Rp] using h
  | .bool _, _, h => by simpa only [Rp] using h
  | .int _, _, h => by simpa only [Rp] using h
  | .str _, _, h => by simpa only [Rp] using h
  | .list ds, _, h => by
    simp only [Rp] at h ⊢
    obtain ⟨a, xs, rfl, h1, h2⟩ := h
    exact ⟨a, xs, rfl, e _ _ h1, Rps.mono e ds xs h2⟩
  | .tuple ds, _, h => by
    simp only [Rp] at h ⊢
    obtain ⟨a, xs, rfl, h1, h2⟩ := h
    exact ⟨a, xs, rfl, rdS e h1, Rps.mono e ds xs h2⟩
  | .dict kvs, _, h => by
    simp only [Rp] at h ⊢
    rcases h with ⟨a, ks, rfl, h1, h2⟩ | h | ⟨a, ns, o, e1, rfl, h1, h2⟩
    · exact .inl ⟨a, ks, rfl, e _ _ h1, h2⟩
    · exact .inr (.inl h)
    · exact .inr (.inr ⟨a, ns, o, e1, rfl, e _ _ h1, h2⟩)
theorem Rps.mono (e : Same F F') : ∀ (ds : List PyData) (vs : List V), Rps K F ds vs → Rps K F' ds vs
  | [], _, h => by simpa only [Rps] using h
  | d :: ds, _, h => by
    simp only [Rps] at h ⊢
    obtain ⟨v, r, rfl, h1, h2⟩ := h
    exact ⟨v, r, rfl, Rp.mono e d v h1, Rps.mono e ds r h2⟩
end
theorem rp_ref {a : Addr} : Rp K F (refD a) (.ref a) := by
  have : Rp K F (.dict [(.none, .int (((2 : Nat) ^ 2000 + a : Nat) : Int))]) (.ref a) := by
    simp only [Rp]
    exact .inr (.inl ⟨a, rfl, rfl⟩)
  exact this
theorem refD_inj {a b : Addr} (h : refD a = refD b) : a = b := by
  unfold refD at h
  injection h with h
  injection h with h
  injection h with _ h
  injection h with h
  exact Nat.add_left_cancel (Int.ofNat.inj h)
theorem keyD_ne {k : Key} : keyD k ≠ .none := by cases k <;> nofun
theorem ref_no {kvs : List (PyData × PyData)} {ks : List (Key × V)} {a : Addr} (h : DctR kvs ks) (e : PyData.dict kvs = refD a) : False := by
  obtain ⟨ps, _, e2⟩ := h
  unfold refD at e
  injection e with e
  rw [e2] at e
  cases ps with
  | nil => cases e
  | cons q ps =>
    rw [List.map_cons] at e
    injection e with e _
    injection e with e _
    exact absurd e keyD_ne
theorem Rp.ref {a : Addr} {v : V} (h : Rp K F (refD a) v) : v = .ref a := by
  have h : Rp K F (.dict [(.none, .int (((2 : Nat) ^ 2000 + a : Nat) : Int))]) v := h
  simp only [Rp] at h
  rcases h with ⟨_, _, _, _, q⟩ | ⟨b, e, rfl⟩ | ⟨_, _, _, e, _⟩
  · exact (ref_no (a := a) q rfl).elim
  · rw [refD_inj (show refD a = refD b from e)]
  · unfold clnD at e
    injection e with e
    injection e with e
    injection e with _ e
    cases e
def isRefD : PyData → Bool
  | .dict [(.none, _)] => true
  | _ => false
theorem rps_nil : Rps K F [] [] := by simp [Rps]
theorem rps_cons {d : PyData} {ds : List PyData} {v : V} {vs : List V} (h1 : Rp K F d v) (h2 : Rps K F ds vs) : Rps K F (d :: ds) (v :: vs) := by
  simp only [Rps]; exact ⟨v, vs, rfl, h1, h2⟩
theorem Rps.length : ∀ {ds : List PyData} {vs : List V}, Rps K F ds vs → ds.length = vs.length
  | [], _, h => by simp only [Rps] at h; subst h; rfl
  | d :: ds, _, h => by
    simp only [Rps] at h
    obtain ⟨v, r, rfl, _, h2⟩ := h
    simp [Rps.length h2]
theorem Rps.get : ∀ {ds : List PyData} {vs : List V} {i : Nat} {d : PyData}, Rps K F ds vs → ds[i]? = some d → ∃ v, vs[i]? = some v ∧ Rp K F d v
  | [], _, i, d, _, e => by simp at e
  | d :: ds, _, 0, d', h, e => by
    simp only [Rps] at h
    obtain ⟨v, r, rfl, h1, _⟩ := h
    simp at e; subst e
    exact ⟨v, rfl, h1⟩
  | d :: ds, _, i + 1, d', h, e => by
    simp only [Rps] at h
    obtain ⟨v, r, rfl, _, h2⟩ := h
    obtain ⟨w, e1, e2⟩ := Rps.get (i := i) h2 (by simpa using e)
    exact ⟨w, by simpa using e1, e2⟩
theorem Rps.append : ∀ {ds es : List PyData} {vs us : List V}, Rps K F ds vs → Rps K F es us → Rps K F (ds ++ es) (vs ++ us)
  | [], _, _, _, h, h' => by simp only [Rps] at h; subst h; exact h'
  | d :: ds, es, _, us, h, h' => by
    simp only [Rps] at h
    obtain ⟨v, r, rfl, h1, h2⟩ := h
    exact rps_cons h1 (Rps.append h2 h')
theorem Rps.take : ∀ (n : Nat) {ds : List PyData} {vs : List V}, Rps K F ds vs → Rps K F (ds.take n) (vs.take n)
  | 0, _, _, _ => by simp [Rps]
  | n + 1, [], _, h => by simp only [Rps] at h; subst h; simp [Rps]
  | n + 1, d :: ds, _, h => by
    simp only [Rps] at h
    obtain ⟨v, r, rfl, h1, h2⟩ := h
    exact rps_cons h1 (Rps.take n h2)
theorem Rps.drop : ∀ (n : Nat) {ds : List PyData} {vs : List V}, Rps K F ds vs → Rps K F (ds.drop n) (vs.drop n)
  | 0, _, _, h => h
  | n + 1, [], _, h => by simp only [Rps] at h; subst h; simp [Rps]
  | n + 1, d :: ds, _, h => by
    simp only [Rps] at h
    obtain ⟨v, r, rfl, h1, h2⟩ := h
    exact Rps.drop n h2
theorem Rps.rev : ∀ {ds : List PyData} {vs : List V}, Rps K F ds vs → Rps K F ds.reverse vs.reverse
  | [], _, h => by simp only [Rps] at h; subst h; simp [Rps]
  | d :: ds, _, h => by
    simp only [Rps] at h
    obtain ⟨v, r, rfl, h1, h2⟩ := h
    rw [List.reverse_cons, List.reverse_cons]
    exact (Rps.rev h2).append (rps_cons h1 rps_nil)
theorem rps_ints : ∀ (ns : List Int), Rps K F (ns.map PyData.int) (ns.map V.int)
  | [] => rps_nil
  | n :: ns => rps_cons (by simp [Rp]) (rps_ints ns)
theorem Rps.ints : ∀ {ns : List Int} {vs : List V}, Rps K F (ns.map PyData.int) vs → vs = ns.map V.int
  | [], _, h => by simpa only [List.map_nil, Rps] using h
  | n :: ns, _, h => by
    simp only [List.map_cons, Rps, Rp] at h
    obtain ⟨v, r, rfl, rfl, h2⟩ := h
    rw [Rps.ints h2]; rfl
end
/-- an object: its class, its fields -/
structure Ob where
  C : Addr
  fs : List (Str × PyData)
/-- an error that is being handled: its class, its own dict, its fields -/
structure Xo where
  cls : Value
  d : Option Addr
  fs : List (Str × PyData)
/-- the world: how many draws, what objects there are -/
structure Wo where
  n : Nat
  ob : Addr → Option Ob
  xs : Addr → Option Xo
def Wo.put (w : Wo) (a : Addr) (o : Ob) : Wo := { w with ob := fun b => if b = a then some o else w.ob b }
def Wo.putX (w : Wo) (a : Addr) (o : Xo) : Wo := { w with xs := fun b => if b = a then some o else w.xs b }
instance : HAdd Wo Nat Wo := ⟨fun w k => { w with n := w.n + k }⟩
/-- later: some draws more -/
instance : LE Wo := ⟨fun w w' => w.n ≤ w'.n ∧ w.ob = w'.ob ∧ w.xs = w'.xs⟩
theorem Wo.add0 (w : Wo) (d : Nat) : w = w + 0 * d := by rw [Nat.zero_mul]; rfl
theorem Wo.le0 (w : Wo) (d : Nat) : w ≤ w + 0 * d := by
  rw [← Wo.add0]
  exact ⟨Nat.le_refl _, rfl, rfl⟩
abbrev FsR (K : PySem.W.Frag) (F : Hp) : List (Str × PyData) → List (Str × V) → Prop := Paired fun p q => p.1 = q.1 ∧ Rp K F p.2 q.2
structure DkS where
  own : List Addr
  at0 : Hp → Nat → Prop
  stay : ∀ (H H' : Hp) (n : Nat), (∀ a, a ∈ own → H' a = H a) → at0 H n → at0 H' n
  lsts : ∀ (H : Hp) (n : Nat), at0 H n → ∀ a, a ∈ own → ∃ xs, H a = some (.lst xs)
def XoAt (K : PySem.W.Frag) (F : Hp) (x : Xo) : Prop := (x.d = none ∧ x.fs = []) ∨ ∃ dd vs, x.d = some dd ∧ F dd = some (.xd vs) ∧ FsR K F x.fs vs
def Obs (K : PySem.W.Frag) (F H : Hp) (w : Wo) : Prop := (∀ a o, w.ob a = some o → F a = none ∧ ∃ dx vs, H a = some (.ins o.C dx vs) ∧ FsR K F o.fs vs) ∧ ∀ a x, w.xs a = some x → XoAt K F x
def DkS.at_ (δ : DkS) (K : PySem.W.Frag) (F H : Hp) (w : Wo) : Prop := δ.at0 H w.n ∧ Obs K F H w
/-- [cells, count] -/
def dkA (a b : Addr) : DkS := ⟨[a, b], fun H n => ∃ cells : List Int, H a = some (.lst [.ref b, .int n]) ∧ H b = some (.lst (cells.map V.int)) ∧ cells.length ≤ 63 ∧ ∀ c ∈ cells, 0 ≤ c, fun H H' n h ⟨cells, h1, h2, h3⟩ =>
  ⟨cells, by rw [h a (by simp)]; exact h1, by rw [h b (by simp)]; exact h2, h3⟩, fun H n ⟨cells, h1, h2, _⟩ x hx => by
  rcases List.mem_cons.mp hx with rfl | hx
  · exact ⟨_, h1⟩
  · rw [List.mem_singleton.mp hx]; exact ⟨_, h2⟩⟩
/-- [cells, count, rests] -/
def dkB (a b c : Addr) : DkS := ⟨[a, b, c], fun H n => ∃ cells rests : List Int, H a = some (.lst [.ref b, .int n, .ref c]) ∧ H b = some (.lst (cells.map V.int)) ∧ H c = some (.lst (rests.map V.int)) ∧ rests.length = cells.length ∧ 1 ≤ cells.length ∧ cells.length ≤ 63 ∧ (∀ c ∈ cells, c = c) ∧ ∀ c ∈ rests, 0 ≤ c,
  fun H H' n h ⟨cells, rests, h1, h2, h3, h4⟩ => ⟨cells, rests, by rw [h a (by simp)]; exact h1, by rw [h b (by simp)]; exact h2, by rw [h c (by simp)]; exact h3, h4⟩, fun H n ⟨cells, rests, h1, h2, h3, _⟩ x hx => by
  rcases List.mem_cons.mp hx with rfl | hx
  · exact ⟨_, h1⟩
  rcases List.mem_cons.mp hx with rfl | hx
  · exact ⟨_, h2⟩
  · rw [List.mem_singleton.mp hx]; exact ⟨_, h3⟩⟩
def IsDk : Bool → DkS → Addr → Prop
  | false, δ, a => ∃ b, δ = dkA a b
  | true, δ, a => ∃ b c, δ = dkB a b c
/-- F0, H0: the entry; δ: the deck -/
structure Fx where
  F0 : Hp
  H0 : Hp
  δ : DkS
inductive Dv where
  | dat (d : PyData) | vw (ds : List PyData) | mt (ds : List PyData) | deck (b : Bool) | md (a : Addr) (ks : List (Key × V))
def Dv.toD : Dv → PyData
  | .dat d => d
  | .vw ds => .list ds
  | .mt ds => .list ds
  | .deck _ => .none
  | .md _ _ => .none
def Dv.isL : Dv → Bool
  | .vw _ => true
  | .mt _ => true
  | _ => false
def Dv.isDk : Dv → Bool
  | .deck _ => true
  | _ => false
abbrev Rho := List (Option Dv)
/-- a value that an expression hands on -/
def VR (K : PySem.W.Frag) (δ : DkS) (F H : Hp) : Dv → V → Prop
  | .dat d, v => Rp K F d v
  | .vw ds, v => ∃ a vs, v = .ref a ∧ H a = some (.lst vs) ∧ Rps K F ds vs ∧ a ∉ δ.own
  | .mt _, _ => False
  | .deck k, v => ∃ a, v = .ref a ∧ IsDk k δ a
  | .md _ _, _ => False
def SlotV (K : PySem.W.Frag) (Z : Fx) (F H : Hp) : Dv → V → Prop
  | .mt ds, v => ∃ a vs, v = .ref a ∧ Z.H0 a = none ∧ F a = none ∧ H a = some (.lst vs) ∧ Rps K F ds vs ∧ a ∉ Z.δ.own
  | .md a ks, v => v = .ref a ∧ Z.H0 a = none ∧ F a = none ∧ H a = some (.dK ks) ∧ a ∉ Z.δ.own
  | .dat d, v => VR K Z.δ F H (.dat d) v
  | .vw ds, v => VR K Z.δ F H (.vw ds) v
  | .deck k, v => VR K Z.δ F H (.deck k) v
def isIns : HO → Bool
  | .ins _ _ _ => true
  | _ => false
/-- one expression's growth -/
structure Gr (δ : DkS) (F H F' H' : Hp) : Prop where
  sF : Same F F'
  nF : ∀ a, H a ≠ none → F a = none → F' a = none
  kH : ∀ a o, a ∉ δ.own → H a = some o → isIns o = false → H' a = some o
  iH : ∀ a C dx fs, H a = some (.ins C dx fs) → ∃ fs', H' a = some (.ins C dx fs')
  dH : ∀ a, H a ≠ none → H' a ≠ none
structure Base (K : PySem.W.Frag) (Z : Fx) (F H : Hp) (n : Wo) : Prop where
  sub : Same F H
  dk : Z.δ.at_ K F H n
  dkF : ∀ a, a ∈ Z.δ.own → F a = none ∧ H a ≠ none
  gF : Same Z.F0 F
  gN : ∀ a, Z.H0 a ≠ none → Z.F0 a = none → F a = none
  gH : ∀ a o, a ∉ Z.δ.own → Z.H0 a = some o → isIns o = false → H a = some o
  gI : ∀ a C dx fs, Z.H0 a = some (.ins C dx fs) → ∃ fs', H a = some (.ins C dx fs')
structure SR (Y : Fx) (K : PySem.W.Frag) (Z : Fx) (F H : Hp) (σ : L2.St) (ρ : Rho) (n : Wo) : Prop where
  b : Base K Z F H n
  de : Z.δ = Y.δ
  he : Z.H0 = Y.H0
  gr : Gr Y.δ Y.F0 Y.H0 F H
  len : ρ.length = σ.length
  slot : ∀ (i : Nat) (x : Dv), ρ[i]? = some (some x) → ∃ v, σ[i]? = some (some v) ∧ SlotV K Z F H x v
  apart : ∀ (i j : Nat) (a : Addr) (ds : List PyData) (y : Dv), i ≠ j → ρ[i]? = some (some (.mt ds)) → σ[i]? = some (some (.ref a)) → ρ[j]? = some (some y) → y.isL = true → σ[j]? ≠ some (some (.ref a))
/-- .. that changes nothing -/
structure Gp (F H F' H' : Hp) : Prop where
  sF : Same F F'
  nF : ∀ a, H a ≠ none → F a = none → F' a = none
  sH : Same H H'
section
variable {K : PySem.W.Frag} {Y Z : Fx} {δ : DkS} {F F' F'' H H' H'' : Hp} {σ : L2.St} {ρ : Rho} {n n' : Wo}
theorem some_of_ne {H : Hp} {a : Addr} (h : H a ≠ none) : ∃ o, H a = some o := by
  cases e : H a with
  | none => exact absurd e h
  | some o => exact ⟨o, rfl⟩
theorem Gr.refl : Gr δ F H F H := ⟨Same.refl _, fun _ _ h => h, fun _ _ _ h _ => h, fun _ _ _ _ h => ⟨_, h⟩, fun _ h => h⟩
theorem Gr.trans (a : Gr δ F H F' H') (b : Gr δ F' H' F'' H'') : Gr δ F H F'' H'' :=
  ⟨a.sF.trans b.sF, fun x h1 h2 => b.nF x (a.dH x h1) (a.nF x h1 h2), fun x o h1 h2 h3 => b.kH x o h1 (a.kH x o h1 h2 h3) h3, fun x C dx fs h => by
    obtain ⟨fs', h'⟩ := a.iH x C dx fs h
    exact b.iH x C dx fs' h', fun x h => b.dH x (a.dH x h)⟩
theorem Gp.refl : Gp F H F H := ⟨Same.refl _, fun _ _ h => h, Same.refl _⟩
theorem Gp.ne (g : Gp F H F' H') {a : Addr} (h : H a ≠ none) : H' a ≠ none := by
  obtain ⟨o, e⟩ := some_of_ne h
  rw [g.sH _ _ e]; nofun
theorem Gp.trans (a : Gp F H F' H') (b : Gp F' H' F'' H'') : Gp F H F'' H'' :=
  ⟨a.sF.trans b.sF, fun x h1 h2 => b.nF x (a.ne h1) (a.nF x h1 h2), a.sH.trans b.sH⟩
theorem Gp.gr (g : Gp F H F' H') : Gr δ F H F' H' := ⟨g.sF, g.nF, fun _ _ _ h _ => g.sH _ _ h, fun _ _ _ _ h => ⟨_, g.sH _ _ h⟩, fun _ h => g.ne h⟩
theorem FsR.mono (e : Same F F') {fs : List (Str × PyData)} {vs : List (Str × V)} (h : FsR K F fs vs) : FsR K F' fs vs := Paired.mapP h fun p q r => ⟨r.1, Rp.mono e _ _ r.2⟩
theorem XoAt.mono (e : Same F F') {x : Xo} (h : XoAt K F x) : XoAt K F' x := by
  rcases h with h | ⟨dd, vs, h1, h2, h3⟩
  · exact .inl h
  · exact .inr ⟨dd, vs, h1, e _ _ h2, h3.mono e⟩
theorem Obs.grow (h : Obs K F H n) (hn : ∀ a, H a ≠ none → F a = none → F' a = none) (hF : Same F F') (hH : ∀ a C dx fs, H a = some (.ins C dx fs) → H' a = some (.ins C dx fs)) : Obs K F' H' n := ⟨fun a o e => by
  obtain ⟨h1, dx, vs, h2, h3⟩ := h.1 a o e
  exact ⟨hn a (by rw [h2]; nofun) h1, dx, vs, hH _ _ _ _ h2, h3.mono hF⟩, fun a x e => (h.2 a x e).mono hF⟩
theorem Gp.dk (g : Gp F H F' H') (b : Base K Z F H n) : Z.δ.at_ K F' H' n := ⟨Z.δ.stay H H' n.n (fun a ha => by
  obtain ⟨o, e⟩ := some_of_ne (b.dkF a ha).2
  rw [e]; exact g.sH _ _ e) b.dk.1, b.dk.2.grow g.nF g.sF fun _ _ _ _ h => g.sH _ _ h⟩
/-- a frozen new object -/
theorem Gp.new {p : Addr} {o : HO} (h : H p = none) (hs : Same F H) : Gp F H (upd F p o) (upd H p o) ∧ Same (upd F p o) (upd H p o) := by
  have hF : F p = none := hs.free h
  refine ⟨⟨fun a u e => ?_, fun a h1 h2 => ?_, fun a u e => ?_⟩, fun a u e => ?_⟩
  · rw [upd_ne (ne_of_none e hF)]; exact e
  · rw [upd_ne (fun q => h1 (by rw [q]; exact h))]; exact h2
  · rw [upd_ne (ne_of_none e h)]; exact e
  · by_cases q : a = p
    · subst q; rw [upd_same] at e ⊢; exact e
    · rw [upd_ne q] at e ⊢; exact hs _ _ e
/-- a new object, not frozen -/
theorem Gp.newM {p : Addr} {o : HO} (h : H p = none) (hs : Same F H) : Gp F H F (upd H p o) ∧ Same F (upd H p o) := by
  refine ⟨⟨Same.refl _, fun _ _ h => h, fun a u e => ?_⟩, fun a u e => ?_⟩
  · rw [upd_ne (ne_of_none e h)]; exact e
  · rw [upd_ne (ne_of_none (hs _ _ e) h)]; exact hs _ _ e
theorem VR.step {x : Dv} {v : V} (g : Gr δ F H F' H') (h : VR K δ F H x v) : VR K δ F' H' x v := by
  cases x with
  | dat d => exact Rp.mono g.sF d v h
  | vw ds =>
    obtain ⟨a, vs, rfl, h1, h2, h3⟩ := h
    exact ⟨a, vs, rfl, g.kH _ _ h3 h1 rfl, Rps.mono g.sF ds vs h2, h3⟩
  | mt ds => exact h
  | deck _ => exact h
  | md _ _ => exact h
theorem SlotV.step {x : Dv} {v : V} (g : Gr Z.δ F H F' H') (h : SlotV K Z F H x v) : SlotV K Z F' H' x v := by
  cases x with
  | mt ds =>
    obtain ⟨a, vs, rfl, h0, h1, h2, h3, h4⟩ := h
    exact ⟨a, vs, rfl, h0, g.nF a (by rw [h2]; nofun) h1, g.kH _ _ h4 h2 rfl, Rps.mono g.sF ds vs h3, h4⟩
  | dat d => exact VR.step (x := .dat d) g h
  | vw ds => exact VR.step (x := .vw ds) g h
  | deck _ => exact h
  | md a ks =>
    obtain ⟨e, h0, h1, h2, h3⟩ := h
    exact ⟨e, h0, g.nF a (by rw [h2]; nofun) h1, g.kH _ _ h3 h2 rfl, h3⟩
theorem Base.gD (b : Base K Z F H n) (a : Addr) (h : Z.H0 a ≠ none) : H a ≠ none := by
  by_cases ha : a ∈ Z.δ.own
  · exact (b.dkF a ha).2
  · obtain ⟨o, e⟩ := some_of_ne h
    by_cases hi : isIns o = false
    · rw [b.gH a o ha e hi]; nofun
    · cases o with
      | ins C dx fs =>
        obtain ⟨fs', h'⟩ := b.gI a C dx fs e
        rw [h']; nofun
      | _ => exact absurd rfl hi
theorem Base.step (b : Base K Z F H n) (g : Gr Z.δ F H F' H') (hs : Same F' H') (hd : Z.δ.at_ K F' H' n') : Base K Z F' H' n' where
  sub := hs
  dk := hd
  dkF := fun a ha => ⟨g.nF a (b.dkF a ha).2 (b.dkF a ha).1, g.dH a (b.dkF a ha).2⟩
  gF := b.gF.trans g.sF
  gN := fun a h1 h2 => by
    by_cases ha : a ∈ Z.δ.own
    · exact g.nF a (b.dkF a ha).2 (b.dkF a ha).1
    · exact g.nF a (b.gD a h1) (b.gN a h1 h2)
  gH := fun a o h1 h2 h3 => g.kH a o h1 (b.gH a o h1 h2 h3) h3
  gI := fun a C dx fs h => by
    obtain ⟨fs', h'⟩ := b.gI a C dx fs h
    exact g.iH a C dx fs' h'
theorem SR.step (r : SR Y K Z F H σ ρ n) (g : Gr Z.δ F H F' H') (hs : Same F' H') (hd : Z.δ.at_ K F' H' n') : SR Y K Z F' H' σ ρ n' where
  b := r.b.step g hs hd
  de := r.de
  he := r.he
  gr := r.gr.trans (r.de ▸ g)
  len := r.len
  slot := fun i x e => by
    obtain ⟨v, e1, e2⟩ := r.slot i x e
    exact ⟨v, e1, e2.step g⟩
  apart := r.apart
/-- what stands as data -/
def needD (x : Dv) (R : PyData → Prop) : Prop :=
  match x with
  | .dat d => R d
  | _ => False
/-- a view is data in the heap itself -/
theorem VR.rp {x : Dv} {v : V} (h : VR K δ F H x v) (hs : Same F H) (hx : x.isDk = false) : Rp K H x.toD v := by
  cases x with
  | dat d => exact Rp.mono hs d v h
  | vw ds =>
    obtain ⟨a, vs, rfl, h1, h2, _⟩ := h
    simp only [Dv.toD, Rp]
    exact ⟨a, vs, rfl, h1, Rps.mono hs ds vs h2⟩
  | mt ds => exact h.elim
  | deck _ => exact absurd hx (by simp [Dv.isDk])
  | md _ _ => exact h.elim
end
abbrev DTE := Rho → Wo → (Dv → Wo → Prop) → Prop
abbrev DTA := Rho → Wo → (List Dv → Wo → Prop) → Prop
abbrev DTT := Rho → Wo → (Bool → Wo → Prop) → Prop
def up (Y : Fx) (K : PySem.W.Frag) (t : DTE) : TE := fun σ H Q => ∃ Z F ρ n R, SR Y K Z F H σ ρ n ∧ t ρ n R ∧
  ∀ x n' F' H' v, R x n' → Gr Z.δ F H F' H' → Same F' H' → Z.δ.at_ K F' H' n' → VR K Z.δ F' H' x v → Q v H'
def VRs (K : PySem.W.Frag) (δ : DkS) (F H : Hp) : List Dv → List V → Prop := Paired (VR K δ F H)
def upA (Y : Fx) (K : PySem.W.Frag) (t : DTA) : TA := fun σ H Q => ∃ Z F ρ n R, SR Y K Z F H σ ρ n ∧ t ρ n R ∧
  ∀ xs n' F' H' vs, R xs n' → Gr Z.δ F H F' H' → Same F' H' → Z.δ.at_ K F' H' n' → VRs K Z.δ F' H' xs vs → Q vs H'
def upT (Y : Fx) (K : PySem.W.Frag) (t : DTT) : TT := fun σ H Q => ∃ Z F ρ n R, SR Y K Z F H σ ρ n ∧ t ρ n R ∧
  ∀ c n' F' H', R c n' → Gr Z.δ F H F' H' → Same F' H' → Z.δ.at_ K F' H' n' → Q c H'
/-- a fresh list -/
abbrev DTM := Rho → Wo → (List PyData → Wo → Prop) → Prop
def upM (Y : Fx) (K : PySem.W.Frag) (t : DTM) : TE := fun σ H Q => ∃ Z F ρ n R, SR Y K Z F H σ ρ n ∧ t ρ n R ∧
  ∀ ds n' F' H' p vs, R ds n' → Gr Z.δ F H F' H' → Same F' H' → Z.δ.at_ K F' H' n' → H p = none → F' p = none → H' p = some (.lst vs) → Rps K F' ds vs → Q (.ref p) H'
abbrev WE (Y : Fx) (X : Cx) (e : Expr) (t : DTE) : Prop := PE X e (up Y X.K t)
abbrev WA (Y : Fx) (X : Cx) (es : List Expr) (t : DTA) : Prop := PA X es (upA Y X.K t)
abbrev WT (Y : Fx) (X : Cx) (e : Expr) (t : DTT) : Prop := PT X e (upT Y X.K t)
abbrev ME (Y : Fx) (X : Cx) (e : Expr) (t : DTM) : Prop := PE X e (upM Y X.K t)
theorem pe_imp {X : Cx} {e : Expr} {t t' : TE} (h : PE X e t) (q : ∀ σ H Q, t' σ H Q → t σ H Q) : PE X e t' := ⟨fun p s σ H Q I w => h.run p s σ H Q I (q σ H Q w)⟩
theorem pa_imp {X : Cx} {es : List Expr} {t t' : TA} (h : PA X es t) (q : ∀ σ H Q, t' σ H Q → t σ H Q) : PA X es t' := ⟨fun c p s σ H Q I w => h.run c p s σ H Q I (q σ H Q w)⟩
theorem pt_imp {X : Cx} {e : Expr} {t t' : TT} (h : PT X e t) (q : ∀ σ H Q, t' σ H Q → t σ H Q) : PT X e t' := ⟨fun p s σ H Q I w => h.run p s σ H Q I (q σ H Q w)⟩
theorem ps_imp {X : Cx} {st : Stmt} {t t' : TS} (h : PS X st t) (q : ∀ D σ H, t' D σ H → t D σ H) : PS X st t' := ⟨fun p s σ H D I w => h.run p s σ H D I (q D σ H w)⟩
theorem pss_imp {X : Cx} {st : List Stmt} {t t' : TS} (h : PSs X st t) (q : ∀ D σ H, t' D σ H → t D σ H) : PSs X st t' := ⟨fun p s σ H D I w => h.run p s σ H D I (q D σ H w)⟩
theorem DkS.at_.fz {K : PySem.W.Frag} {δ : DkS} {F H : Hp} {n : Wo} {p : Addr} {o : HO} (h : δ.at_ K F H n) (hp : H p = some o) (ho : isIns o = false) (hF : F p = none) : δ.at_ K (upd F p o) H n :=
  ⟨h.1, ⟨fun a ob e => by
    obtain ⟨h1, dx, vs, h2, h3⟩ := h.2.1 a ob e
    have ne : a ≠ p := fun q => by
      rw [q, hp] at h2
      cases h2
      cases ho
    exact ⟨by rw [upd_ne ne]; exact h1, dx, vs, h2, h3.mono fun b u e => by rw [upd_ne (ne_of_none e hF)]; exact e⟩, fun a x e => (h.2.2 a x e).mono fun b u e => by rw [upd_ne (ne_of_none e hF)]; exact e⟩⟩
/-- a thing of one's own (no object) is changed -/
theorem DkS.at_.chg {K : PySem.W.Frag} {δ : DkS} {F H : Hp} {n : Wo} {p : Addr} {o u : HO} (h : δ.at_ K F H n) (na : p ∉ δ.own) (hp : H p = some o) (ho : isIns o = false) : δ.at_ K F (upd H p u) n :=
  ⟨δ.stay H _ n.n (fun b hb => upd_ne fun q => na (by rw [← q]; exact hb)) h.1, ⟨fun a ob e => by
    obtain ⟨h1, dx, vs, h2, h3⟩ := h.2.1 a ob e
    have ne : a ≠ p := fun q => by
      rw [q, hp] at h2
      cases h2
      cases ho
    exact ⟨h1, dx, vs, by rw [upd_ne ne]; exact h2, h3⟩, h.2.2⟩⟩
theorem DkS.at_.lay {K : PySem.W.Frag} {δ : DkS} {F H : Hp} {n : Wo} {p : Addr} {u : HO} (h : δ.at_ K F H n) (na : p ∉ δ.own) (hp : H p = none) : δ.at_ K F (upd H p u) n :=
  ⟨δ.stay H _ n.n (fun b hb => upd_ne fun q => na (by rw [← q]; exact hb)) h.1, ⟨fun a ob e => by
    obtain ⟨h1, dx, vs, h2, h3⟩ := h.2.1 a ob e
    exact ⟨h1, dx, vs, by rw [upd_ne (ne_of_none h2 hp)]; exact h2, h3⟩, h.2.2⟩⟩
theorem Gr.chg {δ : DkS} {F H F' H' : Hp} {p : Addr} {u : HO} (g : Gr δ F H F' H') (hp : H p = none) : Gr δ F H F' (upd H' p u) :=
  ⟨g.sF, g.nF, fun a o na e hi => by rw [upd_ne (ne_of_none e hp)]; exact g.kH a o na e hi, fun a C dx fs e => by rw [upd_ne (ne_of_none e hp)]; exact g.iH a C dx fs e, fun a e => by
    rw [upd_ne (fun q => e (by rw [q]; exact hp))]; exact g.dH a e⟩
/-- a fresh list, frozen -/
def dOfM (t : DTM) : DTE := fun ρ n R => t ρ n fun ds n' => R (.dat (.list ds)) n'
theorem freeze {K : PySem.W.Frag} {δ : DkS} {F H F' H' : Hp} {p : Addr} {vs : List V} {ds : List PyData} (g : Gr δ F H F' H') (hs : Same F' H') (hp : H p = none) (hF : F' p = none) (hH : H' p = some (.lst vs)) (r : Rps K F' ds vs) :
    Gr δ F H (upd F' p (.lst vs)) H' ∧ Same (upd F' p (.lst vs)) H' ∧ Rp K (upd F' p (.lst vs)) (.list ds) (.ref p) := by
  have s1 : Same F' (upd F' p (.lst vs)) := fun a o e => by rw [upd_ne (ne_of_none e hF)]; exact e
  refine ⟨⟨g.sF.trans s1, fun a h1 h2 => ?_, g.kH, g.iH, g.dH⟩, fun a o e => ?_, ?_⟩
  · rw [upd_ne (fun q => h1 (by rw [q]; exact hp))]; exact g.nF a h1 h2
  · by_cases q : a = p
    · subst q; rw [upd_same] at e; cases e; exact hH
    · rw [upd_ne q] at e; exact hs _ _ e
  · simp only [Rp]
    exact ⟨p, vs, rfl, upd_same, Rps.mono s1 ds vs r⟩
theorem we_ofM {X : Cx} {e : Expr} {t : DTM} (h : ME Y X e t) : WE Y X e (dOfM t) := pe_imp h fun σ H Q ⟨Z, F, ρ, n, R, r, ht, k⟩ =>
  ⟨Z, F, ρ, n, _, r, ht, fun ds n' F' H' p vs hR g hs hd hp hF hH hr => by
    obtain ⟨g2, s2, r2⟩ := freeze g hs hp hF hH hr
    exact k _ _ _ _ _ hR g2 s2 (hd.fz hH rfl hF) r2⟩
end DL
namespace DL
open PySem PySem.Spec PyProof.Rows L2
variable {X : Cx} {Y : Fx}
def dView (x : Dv) (R : Dv → Prop) : Prop :=
  match x with
  | .mt ds => R (.vw ds)
  | .md _ _ => False
  | y => R y
def dVar (i : Nat) : DTE := fun ρ n R => ∃ x, ρ[i]? = some (some x) ∧ dView x fun y => R y n
theorem we_var (i : Nat) {x : Str} {pos : Pos} (hN : X.N[i]? = some x := by rfl) (hv : Vis X.env.scope x := by first | exact Or.inl rfl | exact Or.inr (Or.inl rfl) | exact Or.inr (Or.inr rfl))
    (hd : (x == ("__debug__" : Str)) = false := by decide) (hcd : (x == ("__classdict__" : Str)) = false := by decide) : WE Y X (.Name x pos) (dVar i) :=
  pe_imp (pe_var hN hv hd hcd) fun σ H Q ⟨Z, F, ρ, n, R, r, ⟨y, e, hy⟩, k⟩ => by
    obtain ⟨v, e1, e2⟩ := r.slot i y e
    refine ⟨v, e1, ?_⟩
    cases y with
    | mt ds =>
      obtain ⟨a, vs, rfl, _, _, h2, h3, h4⟩ := e2
      exact k _ _ _ _ _ hy Gr.refl r.b.sub r.b.dk ⟨a, vs, rfl, h2, h3, h4⟩
    | dat d => exact k _ _ _ _ _ hy Gr.refl r.b.sub r.b.dk e2
    | vw ds => exact k _ _ _ _ _ hy Gr.refl r.b.sub r.b.dk e2
    | deck _ => exact k _ _ _ _ _ hy Gr.refl r.b.sub r.b.dk e2
    | md _ _ => exact hy.elim
def dC (d : PyData) : DTE := fun _ n R => R (.dat d) n
theorem we_c {e : Expr} {v : V} {d : PyData} (h : PE X e (tC v)) (hd : ∀ F, Rp X.K F d v) : WE Y X e (dC d) :=
  pe_imp h fun σ H Q ⟨Z, F, ρ, n, R, r, hr, k⟩ => k _ _ _ _ _ hr Gr.refl r.b.sub r.b.dk (hd F)
theorem we_int {i j pos} : WE Y X (.Constant (.int i) j pos) (dC (.int i)) := we_c pe_int fun _ => by simp [Rp]
theorem we_bl {i j pos} : WE Y X (.Constant (.bool i) j pos) (dC (.bool i)) := we_c pe_bl fun _ => by simp [Rp]
theorem we_non {j pos} : WE Y X (.Constant .none j pos) (dC .none) := we_c pe_non fun _ => by simp [Rp]
theorem we_str {i j pos} : WE Y X (.Constant (.str i) j pos) (dC (.str i)) := we_c pe_str fun _ => by simp [Rp]
/-- a module's int -/
theorem we_gint {x : Str} {i : Int} {t : Tok} {pos : Pos} (hg : Gl X x) (hm : X.mg x = some (.int i t)) (hd : (x == ("__debug__" : Str)) = false := by decide) : WE Y X (.Name x pos) (dC (.int i)) :=
  we_c (pe_glob (v := .int i) hg hm ⟨_, rfl⟩ hd) fun _ => by simp [Rp]
def dNil : DTA := fun _ n R => R [] n
def dCons (t : DTE) (u : DTA) : DTA := fun ρ n R => t ρ n fun x n1 => u ρ n1 fun xs n2 => R (x :: xs) n2
theorem wa_nil : WA Y X [] dNil := pa_imp pa_nil fun σ H Q ⟨Z, F, ρ, n, R, r, hr, k⟩ => k _ _ _ _ _ hr Gr.refl r.b.sub r.b.dk .nil
theorem wa_cons {e : Expr} {es : List Expr} {t : DTE} {u : DTA} (ha : WE Y X e t) (hr : WA Y X es u) (hs : starEach (e :: es) X.env = (false, eval e X.env) :: starEach es X.env := by rfl) : WA Y X (e :: es) (dCons t u) :=
  pa_imp (pa_cons ha hr hs) fun σ H Q ⟨Z, F, ρ, n, R, r, ht, k⟩ =>
    ⟨Z, F, ρ, n, _, r, ht, fun x n1 F1 H1 v hx g1 s1 d1 w1 => ⟨Z, F1, ρ, n1, _, r.step g1 s1 d1, hx, fun xs n2 F2 H2 vs hxs g2 s2 d2 w2 =>
      k _ _ _ _ _ hxs (g1.trans g2) s2 d2 (.cons (w1.step g2) w2)⟩⟩
/-- all of them data -/
def needDs : List Dv → (List PyData → Prop) → Prop
  | [], R => R []
  | x :: xs, R => needD x fun d => needDs xs fun ds => R (d :: ds)
theorem needD_is {x : Dv} {R : PyData → Prop} (h : needD x R) : ∃ d, x = .dat d ∧ R d := by
  cases x with
  | dat d => exact ⟨d, rfl, h⟩
  | vw _ => exact h.elim
  | mt _ => exact h.elim
  | deck _ => exact h.elim
  | md _ _ => exact h.elim
theorem needDs_is {K : PySem.W.Frag} {δ : DkS} {F H : Hp} : ∀ {xs : List Dv} {vs : List V} {R : List PyData → Prop}, VRs K δ F H xs vs → needDs xs R → ∃ ds, R ds ∧ Rps K F ds vs
  | [], _, R, .nil, h => ⟨[], h, rps_nil⟩
  | x :: xs, _, R, .cons a b, h => by
    obtain ⟨d, rfl, h⟩ := needD_is h
    obtain ⟨ds, h1, h2⟩ := needDs_is b h
    exact ⟨d :: ds, h1, rps_cons a h2⟩
def dTup (t : DTA) : DTE := fun ρ n R => t ρ n fun xs n' => needDs xs fun ds => ds.length ≤ sizeLine ∧ R (.dat (.tuple ds)) n'
theorem we_tup {es : List Expr} {t : DTA} {x1} {pos : Pos} (h : WA Y X es t) : WE Y X (.Tuple es x1 pos) (dTup t) :=
  pe_imp (pe_tup h) fun σ H Q ⟨Z, F, ρ, n, R, r, ht, k⟩ => ⟨Z, F, ρ, n, _, r, ht, fun xs n1 F1 H1 vs hx g1 s1 d1 w1 => by
    obtain ⟨ds, ⟨hl, hR⟩, hr⟩ := needDs_is w1 hx
    refine ⟨by rw [← hr.length]; exact hl, fun p hp => ?_⟩
    obtain ⟨g2, s2⟩ := Gp.new (o := .tup vs) hp s1
    refine k _ _ _ _ _ hR (g1.trans g2.gr) s2 (g2.dk ((r.step g1 s1 d1).b)) ?_
    simp only [VR, Rp]
    exact ⟨p, vs, rfl, .inl upd_same, Rps.mono g2.sF ds vs hr⟩⟩
def mLst (t : DTA) : DTM := fun ρ n R => t ρ n fun xs n' => needDs xs fun ds => ds.length ≤ sizeLine ∧ R ds n'
theorem me_lst {es : List Expr} {t : DTA} {pos : Pos} (h : WA Y X es t) : ME Y X (.List es pos) (mLst t) :=
  pe_imp (pe_lst h) fun σ H Q ⟨Z, F, ρ, n, R, r, ht, k⟩ => ⟨Z, F, ρ, n, _, r, ht, fun xs n1 F1 H1 vs hx g1 s1 d1 w1 => by
    obtain ⟨ds, ⟨hl, hR⟩, hr⟩ := needDs_is w1 hx
    refine ⟨by rw [← hr.length]; exact hl, fun p hp => ?_⟩
    obtain ⟨g2, s2⟩ := Gp.newM (o := .lst vs) hp s1
    have hp0 : H p = none := by
      cases e : H p with
      | none => rfl
      | some o => exact absurd hp (g1.dH p (by rw [e]; nofun))
    exact k _ _ _ _ _ _ hR (g1.trans g2.gr) s2 (g2.dk ((r.step g1 s1 d1).b)) hp0 (s1.free hp) upd_same hr⟩
abbrev D2 := Dv → Dv → (PyData → Prop) → Prop
abbrev Back (K : PySem.W.Frag) (F H : Hp) (R : PyData → Prop) (Q : VK) : Prop := ∀ d F' H' v, R d → Gp F H F' H' → Same F' H' → Rp K F' d v → Q v H'
def BinOk (K : PySem.W.Frag) (r : R2) (o : D2) : Prop := ∀ δ F H x y v u R Q, Same F H → VR K δ F H x v → VR K δ F H y u → o x y R → Back K F H R Q → r v u H Q
theorem Back.here {K : PySem.W.Frag} {F H : Hp} {R : PyData → Prop} {Q : VK} (b : Back K F H R Q) (hs : Same F H) {d : PyData} {v : V} (h : R d) (r : Rp K F d v) : Q v H := b d F H v h Gp.refl hs r
theorem Back.int {K : PySem.W.Frag} {F H : Hp} {R : PyData → Prop} {Q : VK} (b : Back K F H R Q) (hs : Same F H) {i : Int} (h : R (.int i)) : Q (.int i) H := b.here hs h (by simp [Rp])
theorem Back.bl {K : PySem.W.Frag} {F H : Hp} {R : PyData → Prop} {Q : VK} (b : Back K F H R Q) (hs : Same F H) {i : Bool} (h : R (.bool i)) : Q (.bl i) H := b.here hs h (by simp [Rp])
theorem Back.tup {K : PySem.W.Frag} {F H : Hp} {R : PyData → Prop} {Q : VK} (b : Back K F H R Q) (hs : Same F H) {ds : List PyData} {vs : List V} (h : R (.tuple ds)) (r : Rps K F ds vs) {p : Addr} (hp : H p = none) : Q (.ref p) (upd H p (.tup vs)) := by
  obtain ⟨g, s⟩ := Gp.new (o := .tup vs) hp hs
  refine b _ _ _ _ h g s ?_
  simp only [Rp]
  exact ⟨p, vs, rfl, .inl upd_same, Rps.mono g.sF ds vs r⟩
theorem Back.lst {K : PySem.W.Frag} {F H : Hp} {R : PyData → Prop} {Q : VK} (b : Back K F H R Q) (hs : Same F H) {ds : List PyData} {vs : List V} (h : R (.list ds)) (r : Rps K F ds vs) {p : Addr} (hp : H p = none) : Q (.ref p) (upd H p (.lst vs)) := by
  obtain ⟨g, s⟩ := Gp.new (o := .lst vs) hp hs
  refine b _ _ _ _ h g s ?_
  simp only [Rp]
  exact ⟨p, vs, rfl, upd_same, Rps.mono g.sF ds vs r⟩
def dBin (o : D2) (t u : DTE) : DTE := fun ρ n R => t ρ n fun x n1 => u ρ n1 fun y n2 => o x y fun z => R (.dat z) n2
/-- the two operands, then o -/
theorem two {K : PySem.W.Frag} {r : R2} {o : D2} {t u : DTE} (hr : BinOk K r o) : ∀ σ H Q, up Y K (dBin o t u) σ H Q → tOp r (up Y K t) (up Y K u) σ H Q := fun σ H Q ⟨Z, F, ρ, n, R, s, ht, k⟩ =>
  ⟨Z, F, ρ, n, _, s, ht, fun x n1 F1 H1 v hx g1 s1 d1 w1 => ⟨Z, F1, ρ, n1, _, s.step g1 s1 d1, hx, fun y n2 F2 H2 u hy g2 s2 d2 w2 =>
    hr Z.δ F2 H2 x y v u _ Q s2 (w1.step g2) w2 hy fun d F3 H3 v3 h3 g3 s3 w3 =>
      k _ _ _ _ _ h3 ((g1.trans g2).trans g3.gr) s3 (g3.dk (((s.step g1 s1 d1).step g2 s2 d2).b)) w3⟩⟩
theorem we_bin {op : Operator} {r : R2} {o : D2} {a b : Expr} {t u : DTE} {pos : Pos} (ho : OpR X (binaryOp op) r) (hr : BinOk X.K r o) (ha : WE Y X a t) (hb : WE Y X b u) : WE Y X (.BinOp a op b pos) (dBin o t u) :=
  pe_imp (pe_op ho ha hb) (two hr)
def dTst (t : DTE) : DTT := fun ρ n R => t ρ n fun x n1 => ∃ c, x = .dat (.bool c) ∧ R c n1
theorem tst {K : PySem.W.Frag} {te : TE} {t : DTE} (h : ∀ σ H Q, up Y K t σ H Q → te σ H Q) : ∀ σ H Q, upT Y K (dTst t) σ H Q → tTest te σ H Q := fun σ H Q ⟨Z, F, ρ, n, R, s, ht, k⟩ => by
  refine h _ _ _ ⟨Z, F, ρ, n, _, s, ht, fun x n1 F1 H1 v ⟨c, e, hx⟩ g1 s1 d1 w1 => ?_⟩
  subst e
  simp only [VR, Rp] at w1
  exact ⟨c, w1, k _ _ _ _ hx g1 s1 d1⟩
theorem wt_cmp {op : CmpOp} {r : R2} {o : D2} {a b : Expr} {t u : DTE} {pos : Pos} (ho : OpR X (compareOp op) r) (hr : BinOk X.K r o) (ha : WE Y X a t) (hb : WE Y X b u) (hm : behindInMarks op b = false) : WT Y X (.Compare a [op] [b] pos) (dTst (dBin o t u)) :=
  pt_imp (pt_cmpR ho ha hb hm) (tst (two hr))
def dChain (o o' : D2) (t u w : DTE) : DTE := fun ρ n R => t ρ n fun x n1 => u ρ n1 fun y n2 => o x y fun c => ∃ k, c = .bool k ∧ (if k = true then w ρ n2 fun z n3 => o' y z fun d => R (.dat d) n3 else R (.dat (.bool false)) n2)
theorem chn {K : PySem.W.Frag} {r r' : R2} {o o' : D2} {t u w : DTE} (hr : BinOk K r o) (hr' : BinOk K r' o') : ∀ σ H Q, up Y K (dChain o o' t u w) σ H Q → tChain r r' (up Y K t) (up Y K u) (up Y K w) σ H Q := fun σ H Q ⟨Z, F, ρ, n, R, s, ht, k⟩ =>
  ⟨Z, F, ρ, n, _, s, ht, fun x n1 F1 H1 v hx g1 s1 d1 w1 => ⟨Z, F1, ρ, n1, _, s.step g1 s1 d1, hx, fun y n2 F2 H2 u hy g2 s2 d2 w2 => by
    refine hr Z.δ F2 H2 x y v u _ _ s2 (w1.step g2) w2 hy fun d F3 H3 v3 ⟨c, e, h3⟩ g3 s3 w3 => ?_
    subst e
    simp only [Rp] at w3
    refine ⟨c, w3, ?_⟩
    have S3 := ((s.step g1 s1 d1).step g2 s2 d2).step g3.gr s3 (g3.dk (((s.step g1 s1 d1).step g2 s2 d2).b))
    cases c with
    | false => exact k _ _ _ _ _ h3 ((g1.trans g2).trans g3.gr) s3 S3.b.dk (by simp [VR, Rp])
    | true =>
      refine ⟨Z, F3, ρ, n2, _, S3, h3, fun z n4 F4 H4 v4 h4 g4 s4 d4 w4 => ?_⟩
      refine hr' Z.δ F4 H4 y z u v4 _ Q s4 ((w2.step g3.gr).step g4) w4 h4 fun d F5 H5 v5 h5 g5 s5 w5 => ?_
      exact k _ _ _ _ _ h5 ((((g1.trans g2).trans g3.gr).trans g4).trans g5.gr) s5 (g5.dk ((S3.step g4 s4 d4).b)) w5⟩⟩
theorem we_chain {op op' : CmpOp} {r r' : R2} {o o' : D2} {a b c : Expr} {t u w : DTE} {pos : Pos} (ho : OpR X (compareOp op) r) (ho' : OpR X (compareOp op') r') (hr : BinOk X.K r o) (hr' : BinOk X.K r' o') (ha : WE Y X a t) (hb : WE Y X b u) (hc : WE Y X c w)
    (hm : lastMarks [op, op'] [b, c] = false := by with_unfolding_all rfl) : WE Y X (.Compare a [op, op'] [b, c] pos) (dChain o o' t u w) :=
  pe_imp (pe_chain ho ho' ha hb hc hm) (chn hr hr')
def oI0 (g : Int → Int → PyData) : D2 := fun x y R =>
  match x, y with
  | .dat (.int i), .dat (.int j) => R (g i j)
  | _, _ => False
def oI (C : Int → Int → Prop) (g : Int → Int → PyData) : D2 := fun x y R =>
  match x, y with
  | .dat (.int i), .dat (.int j) => C i j ∧ R (g i j)
  | _, _ => False
theorem oI_is {C : Int → Int → Prop} {g : Int → Int → PyData} {x y : Dv} {R : PyData → Prop} (h : oI C g x y R) : ∃ i j, x = .dat (.int i) ∧ y = .dat (.int j) ∧ C i j ∧ R (g i j) := by
  unfold oI at h
  split at h
  · exact ⟨_, _, rfl, rfl, h⟩
  · exact h.elim
theorem oI0_is {g : Int → Int → PyData} {x y : Dv} {R : PyData → Prop} (h : oI0 g x y R) : ∃ i j, x = .dat (.int i) ∧ y = .dat (.int j) ∧ R (g i j) := by
  unfold oI0 at h
  split at h
  · exact ⟨_, _, rfl, rfl, h⟩
  · exact h.elim
section
variable {K : PySem.W.Frag}
theorem bi_I {C : Int → Int → Prop} {g : Int → Int → Int} : BinOk K (rI C fun i j => .int (g i j)) (oI C fun i j => .int (g i j)) := fun δ F H x y v u R Q hs hx hy h b => by
  obtain ⟨i, j, rfl, rfl, hc, hr⟩ := oI_is h
  simp only [VR, Rp] at hx hy
  exact ⟨i, j, hx, hy, hc, b.int hs hr⟩
theorem bi_I0 {g : Int → Int → Int} : BinOk K (rI0 fun i j => .int (g i j)) (oI0 fun i j => .int (g i j)) := fun δ F H x y v u R Q hs hx hy h b => by
  obtain ⟨i, j, rfl, rfl, hr⟩ := oI0_is h
  simp only [VR, Rp] at hx hy
  exact ⟨i, j, hx, hy, b.int hs hr⟩
theorem bi_B0 {g : Int → Int → Bool} : BinOk K (rI0 fun i j => .bl (g i j)) (oI0 fun i j => .bool (g i j)) := fun δ F H x y v u R Q hs hx hy h b => by
  obtain ⟨i, j, rfl, rfl, hr⟩ := oI0_is h
  simp only [VR, Rp] at hx hy
  exact ⟨i, j, hx, hy, b.bl hs hr⟩
end
end DL
namespace DL
open PySem PySem.Spec PyProof.Rows L2
variable {X : Cx} {Y : Fx}
section
variable {K : PySem.W.Frag} {F H : Hp}
mutual
theorem Rp.dp : ∀ (d : PyData) (v : V), d.canLay0 = true → Rp K H d v → Dp K H v d
  | .none, _, _, h => by simp only [Rp] at h; subst h; exact .non
  | .bool _, _, _, h => by simp only [Rp] at h; subst h; exact .bl _
  | .int _, _, _, h => by simp only [Rp] at h; subst h; exact .int _
  | .str _, _, _, h => by simp only [Rp] at h; subst h; exact .str _
  | .list ds, _, c, h => by
    simp only [Rp] at h
    obtain ⟨a, xs, rfl, h1, h2⟩ := h
    exact .lst (SqL.of h1) (Rps.dp ds xs (by simpa only [PyData.canLay0] using c) h2)
  | .tuple ds, _, c, h => by
    simp only [Rp] at h
    obtain ⟨a, xs, rfl, h1, h2⟩ := h
    exact .tup (sqtR h1) (Rps.dp ds xs (by simpa only [PyData.canLay0] using c) h2)
  | .dict _, _, c, _ => by simp [PyData.canLay0] at c
theorem Rps.dp : ∀ (ds : List PyData) (vs : List V), PyData.canLayAll0 ds = true → Rps K H ds vs → DpAll K H vs ds
  | [], _, _, h => by simp only [Rps] at h; subst h; exact .nil
  | d :: ds, _, c, h => by
    simp only [Rps] at h
    obtain ⟨v, r, rfl, h1, h2⟩ := h
    simp only [PyData.canLayAll0, Bool.and_eq_true] at c
    exact .cons (Rp.dp d v c.1 h1) (Rps.dp ds r c.2 h2)
end
end
/-- what may be compared: no dict, not too deep -/
abbrev Sh (d : PyData) : Prop := SeqAt.shaped d = true
def oEq (neg : Bool) : D2 := fun x y R => x.isDk = false ∧ y.isDk = false ∧ Sh x.toD ∧ Sh y.toD ∧ R (.bool (if neg then !PyData.eqv x.toD y.toD else PyData.eqv x.toD y.toD))
section
variable {K : PySem.W.Frag}
theorem bi_eq : BinOk K (rEqD K) (oEq false) := fun δ F H x y v u R Q hs hx hy ⟨n1, n2, s1, s2, hr⟩ b =>
  ⟨_, _, Rp.dp _ _ (SeqAt.canLay_of_shaped s1) (hx.rp hs n1), Rp.dp _ _ (SeqAt.canLay_of_shaped s2) (hy.rp hs n2), s1, s2, b.bl hs hr⟩
theorem bi_ne : BinOk K (rNeD K) (oEq true) := fun δ F H x y v u R Q hs hx hy ⟨n1, n2, s1, s2, hr⟩ b =>
  ⟨_, _, Rp.dp _ _ (SeqAt.canLay_of_shaped s1) (hx.rp hs n1), Rp.dp _ _ (SeqAt.canLay_of_shaped s2) (hy.rp hs n2), s1, s2, b.bl hs hr⟩
/-- is None, is not None; bools -/
def isN : PyData → Bool
  | .none => true
  | _ => false
def oIsN (neg : Bool) : D2 := fun x y R => y = .dat .none ∧ x.isDk = false ∧ R (.bool (if neg then !isN x.toD else isN x.toD))
theorem isN_of {F : Hp} {d : PyData} {v : V} (h : Rp K F d v) : isN d = decide (v = .non) := by
  cases d <;> simp only [Rp] at h
  case list => obtain ⟨a, xs, rfl, _⟩ := h; rfl
  case tuple => obtain ⟨a, xs, rfl, _⟩ := h; rfl
  case dict => rcases h with ⟨a, xs, rfl, _⟩ | ⟨a, _, rfl⟩ | ⟨a, _, _, _, rfl, _⟩ <;> rfl
  all_goals (subst h; rfl)
theorem bi_isN : BinOk K (fun x y H Q => y = .non ∧ Q (.bl (decide (x = .non))) H) (oIsN false) := fun δ F H x y v u R Q hs hx hy ⟨e, n, hr⟩ b => by
  subst e
  simp only [VR, Rp] at hy
  refine ⟨hy, b.bl hs ?_⟩
  rw [← isN_of (hx.rp hs n)]; exact hr
theorem bi_notN : BinOk K (fun x y H Q => y = .non ∧ Q (.bl (!decide (x = .non))) H) (oIsN true) := fun δ F H x y v u R Q hs hx hy ⟨e, n, hr⟩ b => by
  subst e
  simp only [VR, Rp] at hy
  refine ⟨hy, b.bl hs ?_⟩
  rw [← isN_of (hx.rp hs n)]; exact hr
/-- + : ints, tuples, lists -/
def oAdd : D2 := fun x y R =>
  match x.toD, y.toD with
  | .int i, .int j => R (.int (i + j))
  | .tuple xs, .tuple ys => xs.length + ys.length ≤ sizeLine ∧ R (.tuple (xs ++ ys))
  | .list xs, .list ys => xs.length + ys.length ≤ sizeLine ∧ R (.list (xs ++ ys))
  | _, _ => False
abbrev rAddA (K : PySem.W.Frag) : R2 := fun x y H Q => (rI0 (fun i j => .int (i + j)) x y H Q ∨ rCatA K x y H Q) ∨ rCat x y H Q
theorem or_addA : OpR X (binaryOp .Add) (rAddA X.K) := OpR.or (OpR.or op_add op_catA) op_cat
theorem notDeck_of {x : Dv} {d : PyData} (h : x.toD = d) (hd : d ≠ .none) : x.isDk = false := by
  cases x with
  | deck _ => exact absurd h.symm hd
  | _ => rfl
theorem bi_add : BinOk K (rAddA K) oAdd := fun δ F H x y v u R Q hs hx hy h b => by
  unfold oAdd at h
  split at h
  · rename_i i j e1 e2
    have r1 := hx.rp hs (notDeck_of e1 nofun); have r2 := hy.rp hs (notDeck_of e2 nofun)
    rw [e1] at r1; rw [e2] at r2
    simp only [Rp] at r1 r2
    exact .inl (.inl ⟨i, j, r1, r2, b.int hs h⟩)
  · rename_i xs ys e1 e2
    cases x with
    | dat d =>
      cases y with
      | dat d' =>
        simp only [Dv.toD] at e1 e2
        subst e1 e2
        simp only [VR, Rp] at hx hy
        obtain ⟨a1, l1, rfl, h1, p1⟩ := hx
        obtain ⟨a2, l2, rfl, h2, p2⟩ := hy
        have z1 := p1.length; have z2 := p2.length
        refine .inl (.inr ⟨a1, a2, l1, l2, rfl, rfl, sqtR (rdS hs h1), sqtR (rdS hs h2), by omega, fun e => ?_, fun _ e => ?_, fun _ _ p hp => ?_⟩)
        · subst e
          have : xs = [] := by simpa using z1
          subst this
          exact b.here hs h.2 (by simp only [Rp]; exact ⟨a2, l2, rfl, h2, p2⟩)
        · subst e
          have : ys = [] := by simpa using z2
          subst this
          exact b.here hs (by simpa using h.2) (by simp only [Rp]; exact ⟨a1, l1, rfl, h1, p1⟩)
        · exact b.tup hs h.2 (p1.append p2) hp
      | vw _ => simp [Dv.toD] at e2
      | mt _ => simp [Dv.toD] at e2
      | deck _ => simp [Dv.toD] at e2
      | md _ _ => simp [Dv.toD] at e2
    | vw _ => simp [Dv.toD] at e1
    | mt _ => simp [Dv.toD] at e1
    | deck _ => simp [Dv.toD] at e1
    | md _ _ => simp [Dv.toD] at e1
  · rename_i xs ys e1 e2
    have lst : ∀ {z : Dv} {w : V} {zs : List PyData}, VR K δ F H z w → z.toD = .list zs → ∃ a l, w = .ref a ∧ H a = some (.lst l) ∧ Rps K F zs l := by
      intro z w zs hz e
      cases z with
      | dat d =>
        simp only [Dv.toD] at e; subst e
        simp only [VR, Rp] at hz
        obtain ⟨a, l, e1, e2, e3⟩ := hz
        exact ⟨a, l, e1, hs _ _ e2, e3⟩
      | vw ds =>
        simp only [Dv.toD, PyData.list.injEq] at e; subst e
        obtain ⟨a, l, e1, e2, e3, _⟩ := hz
        exact ⟨a, l, e1, e2, e3⟩
      | mt _ => exact hz.elim
      | deck _ => simp [Dv.toD] at e
      | md _ _ => exact hz.elim
    obtain ⟨a1, l1, rfl, h1, p1⟩ := lst hx e1
    obtain ⟨a2, l2, rfl, h2, p2⟩ := lst hy e2
    have z1 := p1.length; have z2 := p2.length
    exact .inr ⟨a1, a2, l1, l2, rfl, rfl, h1, h2, by omega, fun p hp => b.lst hs h.2 (p1.append p2) hp⟩
  · exact h.elim
/-- the list that a value is -/
theorem VR.lst {δ : DkS} {F H : Hp} {z : Dv} {w : V} {zs : List PyData} (hs : Same F H) (hz : VR K δ F H z w) (e : z.toD = .list zs) : ∃ a l, w = .ref a ∧ H a = some (.lst l) ∧ Rps K F zs l := by
  cases z with
  | dat d =>
    simp only [Dv.toD] at e; subst e
    simp only [VR, Rp] at hz
    obtain ⟨a, l, e1, e2, e3⟩ := hz
    exact ⟨a, l, e1, hs _ _ e2, e3⟩
  | vw ds =>
    simp only [Dv.toD, PyData.list.injEq] at e; subst e
    obtain ⟨a, l, e1, e2, e3, _⟩ := hz
    exact ⟨a, l, e1, e2, e3⟩
  | mt _ => exact hz.elim
  | deck _ => simp [Dv.toD] at e
  | md _ _ => exact hz.elim
theorem VR.tpl {δ : DkS} {F H : Hp} {z : Dv} {w : V} {zs : List PyData} (hs : Same F H) (hz : VR K δ F H z w) (e : z.toD = .tuple zs) : ∃ a l, w = .ref a ∧ Rd F a (.tup l) ∧ Rps K F zs l := by
  cases z with
  | dat d =>
    simp only [Dv.toD] at e; subst e
    simpa only [VR, Rp] using hz
  | vw ds => simp [Dv.toD] at e
  | mt _ => exact hz.elim
  | deck _ => simp [Dv.toD] at e
  | md _ _ => exact hz.elim
theorem Rps.at {F : Hp} {ds : List PyData} {vs : List V} (r : Rps K F ds vs) {i : Int} {d : PyData} (h : atI ds i = some d) : ∃ v, atI vs i = some v ∧ Rp K F d v := by
  unfold atI at h ⊢
  rw [← r.length]
  obtain ⟨j, e1, e2⟩ := Option.bind_eq_some_iff.mp h
  obtain ⟨v, e3, e4⟩ := r.get e2
  exact ⟨v, by rw [e1]; exact e3, e4⟩
def oIx : D2 := fun x y R =>
  match x.toD with
  | .list ds => ∃ i d, y = .dat (.int i) ∧ atI ds i = some d ∧ R d
  | .tuple ds => ∃ i d, y = .dat (.int i) ∧ atI ds i = some d ∧ R d
  | _ => False
theorem bi_ix : BinOk K (rIx K) oIx := fun δ F H x y v u R Q hs hx hy h b => by
  unfold oIx at h
  split at h
  · rename_i ds e
    obtain ⟨a, l, rfl, h1, h2⟩ := hx.lst hs e
    obtain ⟨i, d, rfl, h3, hr⟩ := h
    simp only [VR, Rp] at hy
    obtain ⟨w, e1, e2⟩ := h2.at h3
    exact .inl ⟨a, l, i, w, rfl, hy, SqL.of h1, e1, b.here hs hr e2⟩
  · rename_i ds e
    obtain ⟨a, l, rfl, h1, h2⟩ := hx.tpl hs e
    obtain ⟨i, d, rfl, h3, hr⟩ := h
    simp only [VR, Rp] at hy
    obtain ⟨w, e1, e2⟩ := h2.at h3
    exact .inr (.inl ⟨a, l, i, w, rfl, hy, sqtR (rdS hs h1), e1, b.here hs hr e2⟩)
  · exact h.elim
end
theorem we_ix {a b : Expr} {t u : DTE} {pos : Pos} (ha : WE Y X a t) (hb : WE Y X b u) (hs : PlainIx b) : WE Y X (.Subscript a b pos) (dBin oIx t u) := pe_imp (pe_ix ix_seq ha hb hs) (two bi_ix)
abbrev DTO := Rho → Wo → (Option Int → Wo → Prop) → Prop
def upO (Y : Fx) (K : PySem.W.Frag) (t : DTO) : TO := fun σ H Q => ∃ Z F ρ n R, SR Y K Z F H σ ρ n ∧ t ρ n R ∧
  ∀ x n' F' H', R x n' → Gr Z.δ F H F' H' → Same F' H' → Z.δ.at_ K F' H' n' → Q x H'
abbrev WO (Y : Fx) (X : Cx) (e : Option Expr) (t : DTO) : Prop := PO X e (upO Y X.K t)
theorem po_imp {e : Option Expr} {t t' : TO} (h : PO X e t) (q : ∀ σ H Q, t' σ H Q → t σ H Q) : PO X e t' := ⟨fun p s σ H Q I w => h.run p s σ H Q I (q σ H Q w)⟩
def dNo : DTO := fun _ n R => R none n
def dSome (t : DTE) : DTO := fun ρ n R => t ρ n fun x n' => ∃ i, x = .dat (.int i) ∧ R (some i) n'
theorem wo_none : WO Y X none dNo := po_imp po_none fun σ H Q ⟨Z, F, ρ, n, R, r, hr, k⟩ => k _ _ _ _ hr Gr.refl r.b.sub r.b.dk
theorem wo_some {e : Expr} {t : DTE} (h : WE Y X e t) : WO Y X (some e) (dSome t) := po_imp (po_some h) fun σ H Q ⟨Z, F, ρ, n, R, r, ht, k⟩ =>
  ⟨Z, F, ρ, n, _, r, ht, fun x n1 F1 H1 v ⟨i, e, hx⟩ g1 s1 d1 w1 => by
    subst e
    simp only [VR, Rp] at w1
    exact ⟨i, w1, k _ _ _ _ hx g1 s1 d1⟩⟩
def cutG {α : Type} (xs : List α) (lo hi : Option Int) : List α := (xs.drop (HT.sIx xs.length 0 lo)).take (HT.sIx xs.length xs.length hi - HT.sIx xs.length 0 lo)
theorem Rps.cut {K : PySem.W.Frag} {F : Hp} {ds : List PyData} {vs : List V} (r : Rps K F ds vs) (lo hi : Option Int) : Rps K F (cutG ds lo hi) (cutV vs lo hi) := by
  unfold cutG cutV
  rw [r.length]
  exact Rps.take _ (Rps.drop _ r)
def oSl (x : Dv) (lo hi : Option Int) (R : PyData → Prop) : Prop :=
  match x.toD with
  | .list ds => R (.list (cutG ds lo hi))
  | .tuple ds => R (.tuple (cutG ds lo hi))
  | _ => False
def dSl (t : DTE) (l h : DTO) : DTE := fun ρ n R => t ρ n fun x n1 => l ρ n1 fun lo n2 => h ρ n2 fun hi n3 => oSl x lo hi fun d => R (.dat d) n3
theorem cut_whole {α : Type} {xs : List α} {lo hi : Option Int} (h : HT.sIx xs.length 0 lo = 0 ∧ HT.sIx xs.length xs.length hi = xs.length) : cutG xs lo hi = xs := by
  unfold cutG
  rw [h.1, h.2]
  simp
theorem we_slice {e : Expr} {lo hi : Option Expr} {t : DTE} {l h : DTO} {pos p2 : Pos} (he : WE Y X e t) (hl : WO Y X lo l) (hh : WO Y X hi h) : WE Y X (.Subscript e (.Slice lo hi none p2) pos) (dSl t l h) :=
  pe_imp (pe_slice (SlR.or sl_list sl_tupA) he hl hh) fun σ H Q ⟨Z, F, ρ, n, R, r, ht, k⟩ =>
    ⟨Z, F, ρ, n, _, r, ht, fun x n1 F1 H1 v hx g1 s1 d1 w1 => ⟨Z, F1, ρ, n1, _, r.step g1 s1 d1, hx, fun lo n2 F2 H2 hlo g2 s2 d2 => ⟨Z, F2, ρ, n2, _, (r.step g1 s1 d1).step g2 s2 d2, hlo, fun hi n3 F3 H3 hhi g3 s3 d3 => by
      have w3 : VR X.K Z.δ F3 H3 x v := (w1.step g2).step g3
      have b : Back X.K F3 H3 (fun d => R (.dat d) n3) Q := fun d F4 H4 v4 h4 g4 s4 w4 =>
        k _ _ _ _ _ h4 (((g1.trans g2).trans g3).trans g4.gr) s4 (g4.dk ((((r.step g1 s1 d1).step g2 s2 d2).step g3 s3 d3).b)) w4
      unfold oSl at hhi
      split at hhi
      · rename_i ds e
        obtain ⟨a, xs, rfl, h1, h2⟩ := w3.lst s3 e
        exact .inl ⟨a, xs, rfl, SqL.of h1, fun p hp => b.lst s3 hhi (h2.cut lo hi) hp⟩
      · rename_i ds e
        obtain ⟨a, xs, rfl, h1, h2⟩ := w3.tpl s3 e
        refine .inr ⟨a, xs, rfl, sqtR (rdS s3 h1), fun q => ?_, fun _ p hp => b.tup s3 hhi (h2.cut lo hi) hp⟩
        rw [cut_whole (by rw [h2.length]; exact q)] at hhi
        exact b.here s3 hhi (by simp only [Rp]; exact ⟨a, xs, rfl, h1, h2⟩)
      · exact hhi.elim⟩⟩⟩
/-- xs[::-1] of a list -/
def oRevL (x : Dv) (R : PyData → Prop) : Prop := ∃ ds, x.toD = .list ds ∧ R (.list ds.reverse)
def dUn (o : Dv → (PyData → Prop) → Prop) (t : DTE) : DTE := fun ρ n R => t ρ n fun x n1 => o x fun d => R (.dat d) n1
theorem one {K : PySem.W.Frag} {r : V → Hp → VK → Prop} {o : Dv → (PyData → Prop) → Prop} {t : DTE} (hr : ∀ δ F H x v R Q, Same F H → VR K δ F H x v → o x R → Back K F H R Q → r v H Q) :
    ∀ σ H Q, up Y K (dUn o t) σ H Q → up Y K t σ H fun x H1 => r x H1 Q := fun σ H Q ⟨Z, F, ρ, n, R, s, ht, k⟩ =>
  ⟨Z, F, ρ, n, _, s, ht, fun x n1 F1 H1 v hx g1 s1 d1 w1 => hr Z.δ F1 H1 x v _ Q s1 w1 hx fun d F2 H2 v2 h2 g2 s2 w2 =>
    k _ _ _ _ _ h2 (g1.trans g2.gr) s2 (g2.dk ((s.step g1 s1 d1).b)) w2⟩
theorem we_revL {e : Expr} {t : DTE} {pos p1 p2 p3 : Pos} {k : Nat} (he : WE Y X e t) : WE Y X (.Subscript e (.Slice none none (some (.UnaryOp .USub (.Constant (.int 1) k p1) p2)) p3) pos) (dUn oRevL t) :=
  pe_imp (pe_revL he) (one (r := fun x H1 Q => ∃ a xs, x = .ref a ∧ SqL X.K H1 a xs ∧ ∀ p, H1 p = none → Q (.ref p) (upd H1 p (.lst xs.reverse))) fun δ F H x v R Q hs hx ⟨ds, e, hr⟩ b => by
    obtain ⟨a, xs, rfl, h1, h2⟩ := hx.lst hs e
    exact ⟨a, xs, rfl, SqL.of h1, fun p hp => b.lst hs hr h2.rev hp⟩)
def asB (x : Dv) (R : Bool → Prop) : Prop :=
  match x with
  | .dat (.bool c) => R c
  | _ => False
theorem asB_is {x : Dv} {R : Bool → Prop} (h : asB x R) : ∃ c, x = .dat (.bool c) ∧ R c := by
  unfold asB at h
  split at h
  · exact ⟨_, rfl, h⟩
  · exact h.elim
def dAnd (t u : DTE) : DTE := fun ρ n R => t ρ n fun x n1 => asB x fun c => if c = true then u ρ n1 R else R (.dat (.bool false)) n1
theorem we_one {op} {a : Expr} {t : DTE} {pos : Pos} (h : WE Y X a t) : WE Y X (.BoolOp op [a] pos) t := pe_one h
theorem we_and {a b : Expr} {rest : List Expr} {t u : DTE} {pos : Pos} (ha : WE Y X a t) (hb : WE Y X (.BoolOp .And (b :: rest) pos) u) : WE Y X (.BoolOp .And (a :: b :: rest) pos) (dAnd t u) :=
  pe_imp (pe_and ha hb) fun σ H Q ⟨Z, F, ρ, n, R, r, ht, k⟩ => ⟨Z, F, ρ, n, _, r, ht, fun x n1 F1 H1 v hx g1 s1 d1 w1 => by
    obtain ⟨c, rfl, hx⟩ := asB_is hx
    simp only [VR, Rp] at w1
    refine ⟨c, w1, ?_⟩
    cases c with
    | true => exact ⟨Z, F1, ρ, n1, _, r.step g1 s1 d1, hx, fun y n2 F2 H2 v2 hy g2 s2 d2 w2 => k _ _ _ _ _ hy (g1.trans g2) s2 d2 w2⟩
    | false => exact k _ _ _ _ _ hx g1 s1 d1 (by simp [VR, Rp])⟩
def oNot (x : Dv) (R : PyData → Prop) : Prop := asB x fun c => R (.bool (!c))
theorem we_not {a : Expr} {t : DTE} {pos : Pos} (ha : WE Y X a t) : WE Y X (.UnaryOp .Not a pos) (dUn oNot t) :=
  pe_imp (pe_not ha) (one (r := fun x H1 Q => ∃ c, x = .bl c ∧ Q (.bl (!c)) H1) fun δ F H x v R Q hs hx h b => by
    obtain ⟨c, rfl, hr⟩ := asB_is h
    simp only [VR, Rp] at hx
    exact ⟨c, hx, b.bl hs hr⟩)
def dIf (c : DTT) (t u : DTE) : DTE := fun ρ n R => c ρ n fun b n1 => if b = true then t ρ n1 R else u ρ n1 R
theorem we_if {c a b : Expr} {tc : DTT} {t u : DTE} {pos : Pos} (hc : WT Y X c tc) (ha : WE Y X a t) (hb : WE Y X b u) : WE Y X (.IfExp c a b pos) (dIf tc t u) :=
  pe_imp (pe_ifExp hc ha hb) fun σ H Q ⟨Z, F, ρ, n, R, r, ht, k⟩ => ⟨Z, F, ρ, n, _, r, ht, fun c n1 F1 H1 hx g1 s1 d1 => by
    cases c with
    | true => exact ⟨Z, F1, ρ, n1, _, r.step g1 s1 d1, hx, fun y n2 F2 H2 v2 hy g2 s2 d2 w2 => k _ _ _ _ _ hy (g1.trans g2) s2 d2 w2⟩
    | false => exact ⟨Z, F1, ρ, n1, _, r.step g1 s1 d1, hx, fun y n2 F2 H2 v2 hy g2 s2 d2 w2 => k _ _ _ _ _ hy (g1.trans g2) s2 d2 w2⟩⟩
abbrev WW (Y : Fx) (X : Cx) (e : Expr) (t : DTT) : Prop := PW X e (upT Y X.K t)
theorem pw_imp {e : Expr} {t t' : TT} (h : PW X e t) (q : ∀ σ H Q, t' σ H Q → t σ H Q) : PW X e t' := ⟨fun wh p s σ H Q I w => h.run wh p s σ H Q I (q σ H Q w)⟩
theorem wt_val {e : Expr} {t : DTE} (h : WE Y X e t) (he : ∀ whole, isTrue e X.env whole = (do let v ← whole; standAt e.pos; holding [v] (truthy v)) := by intro _; rfl) : WT Y X e (dTst t) :=
  pt_imp (pt_val h he) fun σ H Q ⟨Z, F, ρ, n, R, s, ht, k⟩ => ⟨Z, F, ρ, n, _, s, ht, fun x n1 F1 H1 v ⟨c, e, hx⟩ g1 s1 d1 w1 => by
    subst e
    simp only [VR, Rp] at w1
    exact ⟨c, w1, k _ _ _ _ hx g1 s1 d1⟩⟩
def oTru (x : Dv) (R : Bool → Prop) : Prop :=
  match x.toD with
  | .list ds => R (!ds.isEmpty)
  | .tuple ds => R (!ds.isEmpty)
  | .bool b => R b
  | .int i => R (i != 0)
  | _ => False
def dTru (t : DTE) : DTT := fun ρ n R => t ρ n fun x n1 => oTru x fun c => R c n1
theorem Rps.isEmpty {K : PySem.W.Frag} {F : Hp} {ds : List PyData} {vs : List V} (r : Rps K F ds vs) : ds.isEmpty = vs.isEmpty := by
  have h := r.length
  cases ds <;> cases vs <;> simp at h ⊢
theorem wt_tru {e : Expr} {t : DTE} (h : WE Y X e t) (he : ∀ whole, isTrue e X.env whole = (do let v ← whole; standAt e.pos; holding [v] (truthy v)) := by intro _; rfl) : WT Y X e (dTru t) :=
  pt_imp (pt_truth h he) fun σ H Q ⟨Z, F, ρ, n, R, s, ht, k⟩ => ⟨Z, F, ρ, n, _, s, ht, fun x n1 F1 H1 v hx g1 s1 d1 w1 => by
    unfold oTru at hx
    split at hx
    · rename_i ds e
      obtain ⟨a, xs, rfl, h1, h2⟩ := w1.lst s1 e
      exact ⟨_, .inl ⟨xs, SqL.of h1, rfl⟩, by rw [← h2.isEmpty]; exact k _ _ _ _ hx g1 s1 d1⟩
    · rename_i ds e
      obtain ⟨a, xs, rfl, h1, h2⟩ := w1.tpl s1 e
      exact ⟨_, .inr (.inl ⟨xs, sqtR (rdS s1 h1), rfl⟩), by rw [← h2.isEmpty]; exact k _ _ _ _ hx g1 s1 d1⟩
    · rename_i b e
      have r1 := w1.rp s1 (notDeck_of e nofun)
      rw [e] at r1; simp only [Rp] at r1; subst r1
      exact ⟨_, rfl, k _ _ _ _ hx g1 s1 d1⟩
    · rename_i i e
      have r1 := w1.rp s1 (notDeck_of e nofun)
      rw [e] at r1; simp only [Rp] at r1; subst r1
      exact ⟨_, rfl, k _ _ _ _ hx g1 s1 d1⟩
    · exact hx.elim⟩
def dTAnd (t u : DTT) : DTT := fun ρ n R => t ρ n fun c n1 => if c = true then u ρ n1 R else R false n1
def dTOr (t u : DTT) : DTT := fun ρ n R => t ρ n fun c n1 => if c = true then R true n1 else u ρ n1 R
def dTNot (t : DTT) : DTT := fun ρ n R => t ρ n fun c n1 => R (!c) n1
theorem ww_and1 {a : Expr} {t : DTT} {pos : Pos} (ha : WT Y X a t) : WW Y X (.BoolOp .And [a] pos) t := pw_and1 ha
theorem ww_or1 {a : Expr} {t : DTT} {pos : Pos} (ha : WT Y X a t) : WW Y X (.BoolOp .Or [a] pos) t := pw_or1 ha
theorem ww_and {a b : Expr} {rest : List Expr} {t u : DTT} {pos : Pos} (ha : WT Y X a t) (hb : WW Y X (.BoolOp .And (b :: rest) pos) u) : WW Y X (.BoolOp .And (a :: b :: rest) pos) (dTAnd t u) :=
  pw_imp (pw_and ha hb) fun σ H Q ⟨Z, F, ρ, n, R, r, ht, k⟩ => ⟨Z, F, ρ, n, _, r, ht, fun c n1 F1 H1 hx g1 s1 d1 => by
    cases c with
    | true => exact ⟨Z, F1, ρ, n1, _, r.step g1 s1 d1, hx, fun y n2 F2 H2 hy g2 s2 d2 => k _ _ _ _ hy (g1.trans g2) s2 d2⟩
    | false => exact k _ _ _ _ hx g1 s1 d1⟩
theorem ww_or {a b : Expr} {rest : List Expr} {t u : DTT} {pos : Pos} (ha : WT Y X a t) (hb : WW Y X (.BoolOp .Or (b :: rest) pos) u) : WW Y X (.BoolOp .Or (a :: b :: rest) pos) (dTOr t u) :=
  pw_imp (pw_or ha hb) fun σ H Q ⟨Z, F, ρ, n, R, r, ht, k⟩ => ⟨Z, F, ρ, n, _, r, ht, fun c n1 F1 H1 hx g1 s1 d1 => by
    cases c with
    | false => exact ⟨Z, F1, ρ, n1, _, r.step g1 s1 d1, hx, fun y n2 F2 H2 hy g2 s2 d2 => k _ _ _ _ hy (g1.trans g2) s2 d2⟩
    | true => exact k _ _ _ _ hx g1 s1 d1⟩
theorem wt_w {e : Expr} {t : DTT} (h : WW Y X e t) : WT Y X e t := h.pt
theorem wt_not {a : Expr} {t : DTT} {pos : Pos} (ha : WT Y X a t) : WT Y X (.UnaryOp .Not a pos) (dTNot t) :=
  pt_imp (pt_not ha) fun σ H Q ⟨Z, F, ρ, n, R, r, ht, k⟩ => ⟨Z, F, ρ, n, _, r, ht, fun c n1 F1 H1 hx g1 s1 d1 => k _ _ _ _ hx g1 s1 d1⟩
end DL
namespace DL
open PySem PySem.Spec PyProof.Rows L2
variable {X : Cx} {Y : Fx}
def VX (K : PySem.W.Frag) (Hs F H : Hp) : Dv → V → Prop
  | .dat d, v => Rp K F d v
  | .mt ds, v => ∃ p vs, v = .ref p ∧ Hs p = none ∧ F p = none ∧ H p = some (.lst vs) ∧ Rps K F ds vs
  | .md a ks, v => v = .ref a ∧ Hs a = none ∧ F a = none ∧ H a = some (.dK ks)
  | _, _ => False
def upX (Y : Fx) (K : PySem.W.Frag) (t : DTE) : TE := fun σ H Q => ∃ Z F ρ n R, SR Y K Z F H σ ρ n ∧ t ρ n R ∧
  ∀ x n' F' H' v, R x n' → Gr Z.δ F H F' H' → Same F' H' → Z.δ.at_ K F' H' n' → VX K H F' H' x v → Q v H'
abbrev XE (Y : Fx) (X : Cx) (e : Expr) (t : DTE) : Prop := PE X e (upX Y X.K t)
def xD (t : DTE) : DTE := fun ρ n R => t ρ n fun x n' => needD x fun d => R (.dat d) n'
def xM (t : DTM) : DTE := fun ρ n R => t ρ n fun ds n' => R (.mt ds) n'
theorem xe_d {e : Expr} {t : DTE} (h : WE Y X e t) : XE Y X e (xD t) := pe_imp h fun σ H Q ⟨Z, F, ρ, n, R, r, ht, k⟩ =>
  ⟨Z, F, ρ, n, _, r, ht, fun x n1 F1 H1 v hx g1 s1 d1 w1 => by
    obtain ⟨d, rfl, hx⟩ := needD_is hx
    exact k _ _ _ _ _ hx g1 s1 d1 w1⟩
theorem xe_m {e : Expr} {t : DTM} (h : ME Y X e t) : XE Y X e (xM t) := pe_imp h fun σ H Q ⟨Z, F, ρ, n, R, r, ht, k⟩ =>
  ⟨Z, F, ρ, n, _, r, ht, fun ds n1 F1 H1 p vs hx g1 s1 d1 a b c d => k _ _ _ _ _ hx g1 s1 d1 ⟨p, vs, rfl, a, b, c, d⟩⟩
theorem VX.step {K : PySem.W.Frag} {δ : DkS} {Hs F H F' H' : Hp} {x : Dv} {v : V} (hs : ∀ a, a ∈ δ.own → Hs a ≠ none) (g : Gr δ F H F' H') (h : VX K Hs F H x v) : VX K Hs F' H' x v := by
  cases x with
  | dat d => exact Rp.mono g.sF d v h
  | mt ds =>
    obtain ⟨p, vs, rfl, a, b, c, d⟩ := h
    exact ⟨p, vs, rfl, a, g.nF p (by rw [c]; nofun) b, g.kH p _ (fun q => hs p q a) c rfl, Rps.mono g.sF ds vs d⟩
  | vw _ => exact h
  | deck _ => exact h
  | md a ks =>
    obtain ⟨e, h1, h2, h3⟩ := h
    exact ⟨e, h1, g.nF a (by rw [h3]; nofun) h2, g.kH a _ (fun q => hs a q h1) h3 rfl⟩
section
variable {K : PySem.W.Frag} {Y Z : Fx} {F H : Hp} {σ : L2.St} {ρ : Rho} {n : Wo}
theorem SR.set (r : SR Y K Z F H σ ρ n) (i : Nat) {x : Dv} {v : V} {Hs : Hp} (hx : VX K Hs F H x v) (h0 : ∀ p, Hs p = none → Z.H0 p = none ∧ p ∉ Z.δ.own) (hi : ∀ p, Hs p = none → ∀ (j : Nat) (y : Dv), j ≠ i → ρ[j]? = some (some y) → y.isL = true → σ[j]? ≠ some (some (.ref p))) :
    SR Y K Z F H (σ.set i (some v)) (ρ.set i (some x)) n where
  b := r.b
  de := r.de
  he := r.he
  gr := r.gr
  len := by simp [r.len]
  slot := fun j y e => by
    by_cases q : i = j
    · subst q
      by_cases hl : i < ρ.length
      · rw [List.getElem?_set_self hl] at e
        cases e
        refine ⟨v, List.getElem?_set_self (by rw [← r.len]; exact hl), ?_⟩
        cases x with
        | dat d => exact hx
        | mt ds =>
          obtain ⟨p, vs, rfl, a, b, c, d⟩ := hx
          exact ⟨p, vs, rfl, (h0 p a).1, b, c, d, (h0 p a).2⟩
        | vw _ => exact hx.elim
        | deck _ => exact hx.elim
        | md a ks =>
          obtain ⟨e, h1, h2, h3⟩ := hx
          exact ⟨e, (h0 a h1).1, h2, h3, (h0 a h1).2⟩
      · rw [List.getElem?_eq_none (by rw [List.length_set]; omega)] at e
        cases e
    · rw [List.getElem?_set_ne q] at e
      obtain ⟨w, e1, e2⟩ := r.slot j y e
      exact ⟨w, by rw [List.getElem?_set_ne q]; exact e1, e2⟩
  apart := fun j k a ds y hjk e1 e2 e3 hy e4 => by
    by_cases q : i = j
    · subst q
      by_cases hl : i < ρ.length
      · rw [List.getElem?_set_self hl] at e1
        rw [List.getElem?_set_self (by rw [← r.len]; exact hl)] at e2
        cases e1; cases e2
        rw [List.getElem?_set_ne hjk] at e3 e4
        obtain ⟨p, vs, e5, a', b, c, d⟩ := hx
        cases e5
        exact hi _ a' k y (Ne.symm hjk) e3 hy e4
      · rw [List.getElem?_eq_none (by rw [List.length_set]; omega)] at e1
        cases e1
    · rw [List.getElem?_set_ne q] at e1 e2
      by_cases q2 : i = k
      · subst q2
        by_cases hl : i < ρ.length
        · rw [List.getElem?_set_self hl] at e3
          rw [List.getElem?_set_self (by rw [← r.len]; exact hl)] at e4
          cases e3; cases e4
          cases x with
          | dat d => simp [Dv.isL] at hy
          | mt ds' =>
            obtain ⟨p, vs, e5, a', b, c, d⟩ := hx
            cases e5
            exact hi _ a' j (.mt ds) hjk e1 rfl e2
          | vw _ => exact hx.elim
          | deck _ => exact hx.elim
          | md _ _ => simp [Dv.isL] at hy
        · rw [List.getElem?_eq_none (by rw [List.length_set]; omega)] at e3
          cases e3
      · rw [List.getElem?_set_ne q2] at e3 e4
        exact r.apart j k a ds y hjk e1 e2 e3 hy e4
/-- a slot that is a list's lies in the heap -/
theorem SR.inH (r : SR Y K Z F H σ ρ n) {j : Nat} {y : Dv} {p : Addr} (e : ρ[j]? = some (some y)) (hy : y.isL = true) (e2 : σ[j]? = some (some (.ref p))) : H p ≠ none := by
  obtain ⟨v, e3, e4⟩ := r.slot j y e
  rw [e2] at e3; cases e3
  cases y with
  | dat _ => simp [Dv.isL] at hy
  | deck _ => simp [Dv.isL] at hy
  | md _ _ => simp [Dv.isL] at hy
  | vw ds =>
    obtain ⟨a, vs, q, h, _⟩ := e4
    cases q; rw [h]; nofun
  | mt ds =>
    obtain ⟨a, vs, q, _, _, h, _⟩ := e4
    cases q; rw [h]; nofun
/-- .. where it was made in an expression that began at Hs -/
theorem SR.fresh (r : SR Y K Z F H σ ρ n) {p : Addr} (h : H p = none) : Z.H0 p = none ∧ p ∉ Z.δ.own := by
  have n1 : p ∉ Z.δ.own := fun q => (r.b.dkF p q).2 h
  refine ⟨?_, n1⟩
  cases e : Z.H0 p with
  | none => rfl
  | some o => exact absurd h (r.b.gD p (by rw [e]; nofun))
theorem SR.setX (r0 : SR Y K Z F H σ ρ n) {F' H' : Hp} {n' : Wo} (r : SR Y K Z F' H' σ ρ n') (i : Nat) {x : Dv} {v : V} (hx : VX K H F' H' x v) : SR Y K Z F' H' (σ.set i (some v)) (ρ.set i (some x)) n' :=
  r.set i hx (fun p h => r0.fresh h) fun p h j y _ e hy e2 => r0.inH e hy e2 h
end
structure DEnds where
  nx : Rho → Wo → Prop
  rt : PyData → Wo → Prop
  bk : Rho → Wo → Prop := fun _ _ => False
  ct : Rho → Wo → Prop := fun _ _ => False
abbrev DTS := DEnds → Rho → Wo → Prop
structure EndsOk (Y : Fx) (K : PySem.W.Frag) (Z : Fx) (E : DEnds) (D : Ends) : Prop where
  nx : ∀ F H σ ρ n, E.nx ρ n → SR Y K Z F H σ ρ n → D.nx σ H
  rt : ∀ d n F H v, E.rt d n → Base K Z F H n → Rp K F d v → D.rt v H
  bk : ∀ F H σ ρ n, E.bk ρ n → SR Y K Z F H σ ρ n → D.bk σ H
  ct : ∀ F H σ ρ n, E.ct ρ n → SR Y K Z F H σ ρ n → D.ct σ H
def upS (Y : Fx) (K : PySem.W.Frag) (t : DTS) : TS := fun D σ H => ∃ Z F ρ n E, SR Y K Z F H σ ρ n ∧ t E ρ n ∧ EndsOk Y K Z E D
abbrev DS (Y : Fx) (X : Cx) (st : Stmt) (t : DTS) : Prop := PS X st (upS Y X.K t)
abbrev DSs (Y : Fx) (X : Cx) (st : List Stmt) (t : DTS) : Prop := PSs X st (upS Y X.K t)
def dSkip : DTS := fun E ρ n => E.nx ρ n
def dSeq (t u : DTS) : DTS := fun E ρ n => t { E with nx := u E } ρ n
theorem dss_nil : DSs Y X [] dSkip := pss_imp pss_nil fun D σ H ⟨Z, F, ρ, n, E, r, ht, k⟩ => k.nx _ _ _ _ _ ht r
theorem dss_cons {st : Stmt} {rest : List Stmt} {t u : DTS} (h1 : DS Y X st t) (h2 : DSs Y X rest u) : DSs Y X (st :: rest) (dSeq t u) :=
  pss_imp (pss_cons h1 h2) fun D σ H ⟨Z, F, ρ, n, E, r, ht, k⟩ => ⟨Z, F, ρ, n, _, r, ht, ⟨fun F' H' σ' ρ' n' h r' => ⟨Z, F', ρ', n', E, r', h, k⟩, k.rt, k.bk, k.ct⟩⟩
theorem dss_one {st : Stmt} {t : DTS} (h : DS Y X st t) : DSs Y X [st] t := pss_one h
theorem ds_pass {pos : Pos} : DS Y X (.Pass pos) dSkip := ps_imp ps_pass fun D σ H ⟨Z, F, ρ, n, E, r, ht, k⟩ => k.nx _ _ _ _ _ ht r
def dRet (t : DTE) : DTS := fun E ρ n => t ρ n fun x n' => needD x fun d => E.rt d n'
theorem ds_ret {e : Expr} {t : DTE} {pos : Pos} (he : WE Y X e t) : DS Y X (.Return (some e) pos) (dRet t) :=
  ps_imp (ps_ret he) fun D σ H ⟨Z, F, ρ, n, E, r, ht, k⟩ => ⟨Z, F, ρ, n, _, r, ht, fun x n1 F1 H1 v hx g1 s1 d1 w1 => by
    obtain ⟨d, rfl, hx⟩ := needD_is hx
    exact k.rt _ _ _ _ _ hx (r.b.step g1 s1 d1) w1⟩
def dDrop (t : DTE) : DTS := fun E ρ n => t ρ n fun _ n' => E.nx ρ n'
theorem ds_expr {e : Expr} {t : DTE} {pos : Pos} (he : WE Y X e t) (hs : swapsWith e none pos.line X.env = pure false := by rfl) : DS Y X (.Expr e pos) (dDrop t) :=
  ps_imp (ps_expr he hs) fun D σ H ⟨Z, F, ρ, n, E, r, ht, k⟩ => ⟨Z, F, ρ, n, _, r, ht, fun x n1 F1 H1 v hx g1 s1 d1 w1 => k.nx _ _ _ _ _ hx (r.step g1 s1 d1)⟩
def dIfS (c : DTT) (t u : DTS) : DTS := fun E ρ n => c ρ n fun b n' => if b = true then t E ρ n' else u E ρ n'
theorem ds_if {c : Expr} {a b : List Stmt} {tc : DTT} {t u : DTS} {pos : Pos} (hc : WT Y X c tc) (ha : DSs Y X a t) (hb : DSs Y X b u) : DS Y X (.If c a b pos) (dIfS tc t u) :=
  ps_imp (ps_if hc ha hb) fun D σ H ⟨Z, F, ρ, n, E, r, ht, k⟩ => ⟨Z, F, ρ, n, _, r, ht, fun c n1 F1 H1 hx g1 s1 d1 => by
    cases c with
    | true => exact ⟨Z, F1, ρ, n1, E, r.step g1 s1 d1, hx, k⟩
    | false => exact ⟨Z, F1, ρ, n1, E, r.step g1 s1 d1, hx, k⟩⟩
/-- name = value -/
def dAsg (i : Nat) (t : DTE) : DTS := fun E ρ n => t ρ n fun x n' => E.nx (ρ.set i (some x)) n'
theorem asg_im {i : Nat} {K : PySem.W.Frag} {t : DTE} : ∀ D σ H, upS Y K (dAsg i t) D σ H → tAsg (upX Y K t) (gName i) D σ H := fun D σ H ⟨Z, F, ρ, n, E, r, ht, k⟩ =>
  ⟨Z, F, ρ, n, _, r, ht, fun x n1 F1 H1 v hx g1 s1 d1 w1 => k.nx _ _ _ _ _ hx (r.setX (r.step g1 s1 d1) i w1)⟩
theorem ds_set {i : Nat} {x : Str} {e : Expr} {t : DTE} {pos pos' : Pos} (hN : X.N.Nodup) (hi : X.N[i]? = some x) (hx : Loc X.env.scope x) (he : XE Y X e t) (hs : swapsWith e (some (.Name x pos')) pos.line X.env = pure false := by rfl)
    (hf : X.fn x = true ∨ X.env.scope.names.lookup x = some .local := by first | exact .inl rfl | exact .inr rfl | assumption) : DS Y X (.Assign [.Name x pos'] e pos) (dAsg i t) := ps_imp (ps_set hN hi hx he hs hf) asg_im
theorem SR.freeze {K : PySem.W.Frag} {Y Z : Fx} {F H : Hp} {σ : L2.St} {ρ : Rho} {n : Wo} (r : SR Y K Z F H σ ρ n) {j : Nat} {ds : List PyData} (e : ρ[j]? = some (some (.mt ds))) :
    ∃ F' a, σ[j]? = some (some (.ref a)) ∧ SR Y K Z F' H σ (ρ.set j (some (.dat (.list ds)))) n ∧ Rp K F' (.list ds) (.ref a) ∧ Same F F' := by
  obtain ⟨v, e1, a, vs, rfl, h0, hF, hH, hr, na⟩ := r.slot j _ e
  have s1 : Same F (upd F a (.lst vs)) := fun b o q => by rw [upd_ne (ne_of_none q hF)]; exact q
  have hrp : Rp K (upd F a (.lst vs)) (.list ds) (.ref a) := by
    simp only [Rp]
    exact ⟨a, vs, rfl, upd_same, Rps.mono s1 ds vs hr⟩
  refine ⟨upd F a (.lst vs), a, e1, ⟨⟨fun b o q => ?_, r.b.dk.fz hH rfl hF, fun b hb => ⟨?_, (r.b.dkF b hb).2⟩, r.b.gF.trans s1, fun b q1 q2 => ?_, r.b.gH, r.b.gI⟩, r.de, r.he, ⟨r.gr.sF.trans s1, fun b q1 q2 => by rw [upd_ne (fun z => q1 (by rw [z, ← r.he]; exact h0))]; exact r.gr.nF b q1 q2, r.gr.kH, r.gr.iH, r.gr.dH⟩, by simp [r.len], fun k y q => ?_, fun k l b es y hkl q1 q2 q3 hy q4 => ?_⟩, hrp, s1⟩
  · by_cases z : b = a
    · subst z; rw [upd_same] at q; cases q; exact hH
    · rw [upd_ne z] at q; exact r.b.sub _ _ q
  · rw [upd_ne (fun z => na (by rw [← z]; exact hb))]; exact (r.b.dkF b hb).1
  · rw [upd_ne (fun z => q1 (by rw [z]; exact h0))]; exact r.b.gN b q1 q2
  · by_cases z : j = k
    · subst z
      have hl : j < ρ.length := (List.getElem?_eq_some_iff.mp e).1
      rw [List.getElem?_set_self hl] at q
      cases q
      exact ⟨_, e1, hrp⟩
    · rw [List.getElem?_set_ne z] at q
      obtain ⟨w, w1, w2⟩ := r.slot k y q
      refine ⟨w, w1, ?_⟩
      cases y with
      | dat d => exact Rp.mono s1 d w w2
      | vw es =>
        obtain ⟨b, us, rfl, p1, p2, p3⟩ := w2
        exact ⟨b, us, rfl, p1, Rps.mono s1 es us p2, p3⟩
      | mt es =>
        obtain ⟨b, us, rfl, p1, p2, p3, p4, p5⟩ := w2
        refine ⟨b, us, rfl, p1, ?_, p3, Rps.mono s1 es us p4, p5⟩
        rw [upd_ne (fun zz => r.apart j k a ds (.mt es) z e e1 q rfl (by rw [w1, zz]))]; exact p2
      | deck _ => exact w2
      | md b ks =>
        obtain ⟨q1, q2, q3, q4, q5⟩ := w2
        refine ⟨q1, q2, ?_, q4, q5⟩
        rw [upd_ne (fun zz => by rw [zz, hH] at q4; cases q4)]; exact q3
  · by_cases z : j = k
    · subst z
      have hl : j < ρ.length := (List.getElem?_eq_some_iff.mp e).1
      rw [List.getElem?_set_self hl] at q1
      cases q1
    · rw [List.getElem?_set_ne z] at q1
      by_cases z2 : j = l
      · subst z2
        have hl : j < ρ.length := (List.getElem?_eq_some_iff.mp e).1
        rw [List.getElem?_set_self hl] at q3
        cases q3
        simp [Dv.isL] at hy
      · rw [List.getElem?_set_ne z2] at q3
        exact r.apart k l b es y hkl q1 q2 q3 hy q4
/-- return of a list of one's own -/
def dRetM (j : Nat) : DTS := fun E ρ n => ∃ ds, ρ[j]? = some (some (.mt ds)) ∧ E.rt (.list ds) n
theorem ds_retM {j : Nat} {y : Str} {pos pos2 : Pos} (he : PE X (.Name y pos2) (tVar j)) : DS Y X (.Return (some (.Name y pos2)) pos) (dRetM j) :=
  ps_imp (ps_ret he) fun D σ H ⟨Z, F, ρ, n, E, r, ⟨ds, e, hx⟩, k⟩ => by
    obtain ⟨F', a, e1, r', hr, _⟩ := r.freeze e
    exact ⟨_, e1, k.rt _ _ _ _ _ hx r'.b hr⟩
/-- a, b = x, y -/
def dPar (i j : Nat) (t u : DTE) : DTS := fun E ρ n => t ρ n fun x n1 => u ρ n1 fun y n2 => E.nx ((ρ.set i (some x)).set j (some y)) n2
theorem par_set {K : PySem.W.Frag} {Y Z : Fx} {F H F1 H1 F2 H2 : Hp} {σ : L2.St} {ρ : Rho} {n n1 n2 : Wo} {i j : Nat} {x y : Dv} {v w : V} (hij : i ≠ j) (r : SR Y K Z F H σ ρ n) (r1 : SR Y K Z F1 H1 σ ρ n1) (r2 : SR Y K Z F2 H2 σ ρ n2) (g : Gr Z.δ F1 H1 F2 H2)
    (hx : VX K H F1 H1 x v) (hy : VX K H1 F2 H2 y w) : SR Y K Z F2 H2 ((σ.set i (some v)).set j (some w)) ((ρ.set i (some x)).set j (some y)) n2 := by
  have hx2 : VX K H F2 H2 x v := hx.step (fun a ha => (r.b.dkF a ha).2) g
  refine (r.setX r2 i hx2).set (Hs := H1) j hy (fun p h => r1.fresh h) fun p h l z hl e hz e2 => ?_
  by_cases q : i = l
  · subst q
    by_cases hlt : i < ρ.length
    · rw [List.getElem?_set_self hlt] at e
      rw [List.getElem?_set_self (by rw [← r.len]; exact hlt)] at e2
      cases e; cases e2
      cases x with
      | dat _ => simp [Dv.isL] at hz
      | mt ds =>
        obtain ⟨p', vs, q1, _, _, q2, _⟩ := hx
        cases q1
        rw [q2] at h; cases h
      | vw _ => exact hx.elim
      | deck _ => exact hx.elim
      | md _ _ => simp [Dv.isL] at hz
    · rw [List.getElem?_eq_none (by rw [List.length_set]; omega)] at e
      cases e
  · rw [List.getElem?_set_ne q] at e e2
    exact r1.inH e hz e2 h
def upX2 (Y : Fx) (K : PySem.W.Frag) (t u : DTE) : TA := tCons (upX Y K t) (tCons (upX Y K u) tNil)
theorem xa_two {a b : Expr} {t u : DTE} (ha : XE Y X a t) (hb : XE Y X b u) (hs : starEach [a, b] X.env = (false, eval a X.env) :: starEach [b] X.env := by rfl) (hs2 : starEach [b] X.env = (false, eval b X.env) :: starEach [] X.env := by rfl) : PA X [a, b] (upX2 Y X.K t u) :=
  pa_cons ha (pa_cons hb pa_nil hs2) hs
theorem ds_par {i j : Nat} {x y : Str} {a b : Expr} {t u : DTE} {px py pt pos : Pos} {kt k2 pt2} (hc : X.calm = true) (hN : X.N.Nodup) (hi : X.N[i]? = some x) (hj : X.N[j]? = some y) (hij : i ≠ j)
    (hx : X.env.scope.names.lookup x = some .local) (hy : X.env.scope.names.lookup y = some .local) (ha : XE Y X a t) (hb : XE Y X b u)
    (hw : swappedStores [.Tuple [.Name x px, .Name y py] kt pt] (.Tuple [a, b] k2 pt2) X.env = pure (some [x, y]))
    (hs : swapsWithSole [.Tuple [.Name x px, .Name y py] kt pt] (.Tuple [a, b] k2 pt2) pos.line X.env = pure false := by rfl)
    (h1 : starEach [a, b] X.env = (false, eval a X.env) :: starEach [b] X.env := by rfl) (h2 : starEach [b] X.env = (false, eval b X.env) :: starEach [] X.env := by rfl) :
    DS Y X (.Assign [.Tuple [.Name x px, .Name y py] kt pt] (.Tuple [a, b] k2 pt2) pos) (dPar i j t u) :=
  ps_imp (ps_par hc hN hi hj hij hx hy (xa_two ha hb h1 h2) hw hs) fun D σ H ⟨Z, F, ρ, n, E, r, ht, k⟩ =>
    ⟨Z, F, ρ, n, _, r, ht, fun x1 n1 F1 H1 v hx g1 s1 d1 w1 => ⟨Z, F1, ρ, n1, _, r.step g1 s1 d1, hx, fun y1 n2 F2 H2 w hy g2 s2 d2 w2 =>
      ⟨v, w, rfl, k.nx _ _ _ _ _ hy (par_set hij r (r.step g1 s1 d1) ((r.step g1 s1 d1).step g2 s2 d2) g2 w1 w2)⟩⟩⟩
end DL
namespace DL
open PySem PySem.Spec PyProof.Rows L2
variable {X : Cx} {Y : Fx}
structure ItOk (K : PySem.W.Frag) (J : It) (F1 : Hp) (xs : List PyData) : Prop where
  go : ∀ (i : Nat) H, Same F1 H → i < xs.length → J.go i H
  stop : ∀ (i : Nat) H, Same F1 H → xs.length ≤ i → J.stop i H
  yld : ∀ (i : Nat) H v H' x, J.yld i H v H' → Same F1 H → xs[i]? = some x → (H' = H ∧ Rp K F1 x v) ∨ ∃ T us ds, v = .ref T ∧ H T = none ∧ H' = upd H T (.tup us) ∧ x = .tuple ds ∧ Rps K F1 ds us
abbrev DSrc := Rho → Wo → (List PyData → Wo → Prop) → Prop
def upI (Y : Fx) (K : PySem.W.Frag) (t : DSrc) : TI := fun σ H R => ∃ Z F ρ n Q, SR Y K Z F H σ ρ n ∧ t ρ n Q ∧
  ∀ xs n' F' H' J, Q xs n' → Gr Z.δ F H F' H' → Same F' H' → Z.δ.at_ K F' H' n' → ItOk K J F' xs → R J H'
abbrev DI (Y : Fx) (X : Cx) (tg iter : Expr) (t : DSrc) : Prop := PI X tg iter (upI Y X.K t)
theorem pi_imp {tg iter : Expr} {t t' : TI} (h : PI X tg iter t) (q : ∀ σ H R, t' σ H R → t σ H R) : PI X tg iter t' := ⟨fun p s σ H R I w => h.run p s σ H R I (q σ H R w)⟩
/-- what yields in a heap where the data stands -/
theorem ItOk.use {K : PySem.W.Frag} {J : It} {F1 F H H' : Hp} {xs : List PyData} {i : Nat} {v : V} {x : PyData} (k : ItOk K J F1 xs) (h1 : Same F1 F) (hs : Same F H) (hy : J.yld i H v H') (hx : xs[i]? = some x) :
    ∃ F', Gp F H F' H' ∧ Same F' H' ∧ Rp K F' x v := by
  rcases k.yld i H v H' x hy (h1.trans hs) hx with ⟨rfl, r⟩ | ⟨T, us, ds, rfl, hT, rfl, rfl, r⟩
  · exact ⟨F, Gp.refl, hs, Rp.mono h1 x v r⟩
  · obtain ⟨g, s⟩ := Gp.new (o := .tup us) hT hs
    refine ⟨_, g, s, ?_⟩
    simp only [Rp]
    exact ⟨T, us, rfl, .inl upd_same, Rps.mono (h1.trans g.sF) ds us r⟩
theorem itOk_list {K : PySem.W.Frag} {F : Hp} {a : Addr} {vs : List V} {ds : List PyData} (h : F a = some (.lst vs)) (r : Rps K F ds vs) : ItOk K (Itl K a) F ds where
  go := fun i H s hi => ⟨vs, vs[i]'(by rw [← r.length]; exact hi), SqL.of (s _ _ h), by simp⟩
  stop := fun i H s hi => ⟨vs, SqL.of (s _ _ h), by rw [← r.length]; exact hi⟩
  yld := fun i H v H' x ⟨e, y⟩ s hx => by
    have h1 := y vs (SqL.of (s _ _ h))
    obtain ⟨w, e1, e2⟩ := r.get hx
    rw [h1] at e1; cases e1
    exact .inl ⟨e, e2⟩
theorem itOk_tup {K : PySem.W.Frag} {F : Hp} {a : Addr} {vs : List V} {ds : List PyData} (h : Rd F a (.tup vs)) (r : Rps K F ds vs) : ItOk K (Itt K a) F ds where
  go := fun i H s hi => ⟨vs, vs[i]'(by rw [← r.length]; exact hi), sqtR (rdS s h), by simp⟩
  stop := fun i H s hi => ⟨vs, sqtR (rdS s h), by rw [← r.length]; exact hi⟩
  yld := fun i H v H' x ⟨e, y⟩ s hx => by
    have h1 := y vs (sqtR (rdS s h))
    obtain ⟨w, e1, e2⟩ := r.get hx
    rw [h1] at e1; cases e1
    exact .inl ⟨e, e2⟩
/-- range -/
def rngD (lo : Int) (n : Nat) : List PyData := (List.range n).map fun (k : Nat) => PyData.int (lo + k)
theorem rngD_length {lo : Int} {n : Nat} : (rngD lo n).length = n := by simp [rngD]
theorem rngD_get {lo : Int} {n i : Nat} {x : PyData} (h : (rngD lo n)[i]? = some x) : x = .int (lo + (i : Int)) ∧ i < n := by
  unfold rngD at h
  rw [List.getElem?_map] at h
  cases e : (List.range n)[i]? with
  | none => rw [e] at h; cases h
  | some j =>
    rw [e] at h
    have hi : i < n := by simpa using (List.getElem?_eq_some_iff.mp e).1
    rw [List.getElem?_range hi] at e
    cases e; cases h
    exact ⟨rfl, hi⟩
theorem itOk_rng {K : PySem.W.Frag} {F : Hp} {lo : Int} {n : Nat} : ItOk K (Itr lo n) F (rngD lo n) where
  go := fun i H s hi => by rw [rngD_length] at hi; exact hi
  stop := fun i H s hi => by rw [rngD_length] at hi; exact hi
  yld := fun i H v H' x ⟨e, y⟩ s hx => by
    obtain ⟨h1, _⟩ := rngD_get hx
    exact .inl ⟨e, by rw [h1, y]; simp [Rp]⟩
def dRng1 (t : DTA) : DSrc := fun ρ n R => t ρ n fun xs n' => ∃ j : Int, xs = [.dat (.int j)] ∧ -(2 ^ 62) ≤ j ∧ j < 2 ^ 62 ∧ R (rngD 0 j.toNat) n'
theorem vrs1 {K : PySem.W.Frag} {δ : DkS} {F H : Hp} {i : Int} {vs : List V} (h : VRs K δ F H [.dat (.int i)] vs) : vs = [.int i] := by
  cases h with
  | cons a b =>
    cases b
    simp only [VR, Rp] at a; rw [a]
theorem vrs2 {K : PySem.W.Frag} {δ : DkS} {F H : Hp} {i j : Int} {vs : List V} (h : VRs K δ F H [.dat (.int i), .dat (.int j)] vs) : vs = [.int i, .int j] := by
  cases h with
  | cons a b =>
    simp only [VR, Rp] at a; rw [a, vrs1 b]
theorem di_range1 {tg a : Expr} {t : DTA} {p pos : Pos} (hg : Gl X "range") (hm : X.mg "range" = none) (ha : WA Y X [a] t) (hs : starEach [a] X.env = [(false, eval a X.env)] := by rfl) : DI Y X tg (.Call (.Name "range" p) [a] [] pos) (dRng1 t) :=
  pi_imp (pi_range1 hg hm ha hs) fun σ H R ⟨Z, F, ρ, n, Q, r, ht, k⟩ => ⟨Z, F, ρ, n, _, r, ht, fun xs n1 F1 H1 vs ⟨j, e, l, u, hx⟩ g1 s1 d1 w1 => by
    subst e
    exact ⟨j, vrs1 w1, l, u, k _ _ _ _ _ hx g1 s1 d1 itOk_rng⟩⟩
/-- enumerate of a list, zip of two lists, of two tuples -/
def enumD (ds : List PyData) : List PyData := ds.zipIdx.map fun p => .tuple [.int (p.2 : Nat), p.1]
theorem enumD_length {ds : List PyData} : (enumD ds).length = ds.length := by simp [enumD]
theorem enumD_get {ds : List PyData} {i : Nat} {x : PyData} (h : (enumD ds)[i]? = some x) : ∃ d, ds[i]? = some d ∧ x = .tuple [.int (i : Nat), d] := by
  unfold enumD at h
  rw [List.getElem?_map, List.getElem?_zipIdx] at h
  cases e : ds[i]? with
  | none => rw [e] at h; cases h
  | some d =>
    rw [e] at h
    simp at h
    exact ⟨d, rfl, h.symm⟩
def zipD (ds es : List PyData) : List PyData := (ds.zip es).map fun p => .tuple [p.1, p.2]
theorem zipD_length {ds es : List PyData} : (zipD ds es).length = min ds.length es.length := by simp [zipD]
theorem zipD_get {ds es : List PyData} {i : Nat} {x : PyData} (h : (zipD ds es)[i]? = some x) : ∃ d e, ds[i]? = some d ∧ es[i]? = some e ∧ x = .tuple [d, e] := by
  unfold zipD at h
  rw [List.getElem?_map] at h
  cases q : (ds.zip es)[i]? with
  | none => rw [q] at h; cases h
  | some p =>
    rw [q] at h
    obtain ⟨h1, h2⟩ := List.getElem?_zip_eq_some.mp q
    simp at h
    exact ⟨p.1, p.2, h1, h2, h.symm⟩
theorem itOk_enum {K : PySem.W.Frag} {F : Hp} {a : Addr} {vs : List V} {ds : List PyData} (h : F a = some (.lst vs)) (r : Rps K F ds vs) : ItOk K (Ite K a) F (enumD ds) where
  go := fun i H s hi => by
    rw [enumD_length] at hi
    exact ⟨vs, vs[i]'(by rw [← r.length]; exact hi), SqL.of (s _ _ h), by simp⟩
  stop := fun i H s hi => ⟨vs, SqL.of (s _ _ h), by rw [← r.length, ← enumD_length]; exact hi⟩
  yld := fun i H v H' x ⟨T, y, e1, e2, e3, e4⟩ s hx => by
    obtain ⟨d, q1, q2⟩ := enumD_get hx
    obtain ⟨w, q3, q4⟩ := r.get q1
    rw [e4 vs (SqL.of (s _ _ h))] at q3; cases q3
    exact .inr ⟨T, _, _, e1, e2, e3, q2, rps_cons (by simp [Rp]) (rps_cons q4 rps_nil)⟩
theorem itOk_zip {K : PySem.W.Frag} {F : Hp} {a b : Addr} {vs us : List V} {ds es : List PyData} (h : F a = some (.lst vs)) (h' : F b = some (.lst us)) (r : Rps K F ds vs) (r' : Rps K F es us) : ItOk K (Itz K a b) F (zipD ds es) where
  go := fun i H s hi => by
    rw [zipD_length, r.length, r'.length] at hi
    exact ⟨vs, us, vs[i]'(by omega), us[i]'(by omega), SqL.of (s _ _ h), SqL.of (s _ _ h'), by simp, by simp⟩
  stop := fun i H s hi => ⟨vs, us, SqL.of (s _ _ h), SqL.of (s _ _ h'), by rw [zipD_length, r.length, r'.length] at hi; omega⟩
  yld := fun i H v H' x ⟨T, y, z, e1, e2, e3, e4, e5⟩ s hx => by
    obtain ⟨d, e, q1, q2, q3⟩ := zipD_get hx
    obtain ⟨w, p1, p2⟩ := r.get q1
    obtain ⟨w', p3, p4⟩ := r'.get q2
    rw [e4 vs (SqL.of (s _ _ h))] at p1; cases p1
    rw [e5 us (SqL.of (s _ _ h'))] at p3; cases p3
    exact .inr ⟨T, _, _, e1, e2, e3, q3, rps_cons p2 (rps_cons p4 rps_nil)⟩
def dZip (t : DTA) : DSrc := fun ρ n R => t ρ n fun xs n' => ∃ ds es, xs = [.dat (.list ds), .dat (.list es)] ∧ R (zipD ds es) n'
theorem di_zip {e e2 : Expr} {t : DTA} {p pos tpos : Pos} {elts : List Expr} {kk : Nat} (hg : Gl X "zip") (hm : X.mg "zip" = none) (ha : WA Y X [e, e2] t)
    (hs : starEach [e, e2] X.env = (false, eval e X.env) :: starEach [e2] X.env := by rfl) (hs2 : (backTo pos (starEach [e2] X.env)).any (·.1) = false := by rfl) :
    DI Y X (.Tuple elts kk tpos) (.Call (.Name "zip" p) [e, e2] [] pos) (dZip t) :=
  pi_imp (pi_zip hg hm ha hs hs2) fun σ H R ⟨Z, F, ρ, n, Q, r, ht, k⟩ => ⟨Z, F, ρ, n, _, r, ht, fun xs n1 F1 H1 vs ⟨ds, es, e, hx⟩ g1 s1 d1 w1 => by
    subst e
    cases w1 with
    | cons w1 w2 =>
      cases w2 with
      | cons w2 w3 =>
        cases w3
        simp only [VR, Rp] at w1 w2
        obtain ⟨a, us, rfl, h1, h2⟩ := w1
        obtain ⟨b, ws, rfl, h3, h4⟩ := w2
        exact ⟨a, b, us, ws, rfl, SqL.of (s1 _ _ h1), SqL.of (s1 _ _ h3), k _ _ _ _ _ hx g1 s1 d1 (itOk_zip h1 h3 h2 h4)⟩⟩
abbrev DTG := PyData → Rho → (Rho → Prop) → Prop
structure GOk (K : PySem.W.Frag) (t : TG) (g : DTG) (sl : List Nat) : Prop where
  im : ∀ Y Z F H σ ρ n d v R Q, SR Y K Z F H σ ρ n → Rp K F d v → g d ρ R → (∀ σ' ρ', R ρ' → SR Y K Z F H σ' ρ' n → (∀ vs : List Nat, (∀ i ∈ sl, i ∈ vs) → wipe σ' vs = wipe σ vs) → Q σ' H) → t v σ H Q
def DG (X : Cx) (tg : Expr) (t : TG) (g : DTG) (sl : List Nat) : Prop := PG X tg t ∧ GOk X.K t g sl
def gN (i : Nat) : DTG := fun d ρ R => R (ρ.set i (some (.dat d)))
theorem wipe_set {σ : L2.St} {i : Nat} {x : Option V} : ∀ {vs : List Nat}, i ∈ vs → wipe (σ.set i x) vs = wipe σ vs
  | [], h => by simp at h
  | v :: vs, h => by
    unfold wipe
    by_cases q : i ∈ vs
    · rw [wipe_set q]
    · have e : i = v := by
        rcases List.mem_cons.mp h with e | e
        · exact e
        · exact absurd e q
      subst e
      have comm : ∀ us : List Nat, i ∉ us → wipe (σ.set i x) us = (wipe σ us).set i x := by
        intro us
        induction us with
        | nil => intro _; rfl
        | cons u us ih =>
          intro hu
          simp only [List.mem_cons, not_or] at hu
          unfold wipe
          rw [ih hu.2, List.set_comm _ _ hu.1]
      rw [comm vs q, List.set_set]
theorem gok_name {K : PySem.W.Frag} {i : Nat} : GOk K (gName i) (gN i) [i] := ⟨fun Y Z F H σ ρ n d v R Q r hr h k =>
  k _ _ h (r.set (Hs := H) i (x := .dat d) hr (fun p q => r.fresh q) fun p q l z _ e hz e2 => r.inH e hz e2 q) fun vs hv => wipe_set (hv i (by simp))⟩
def gT2 (i j : Nat) : DTG := fun d ρ R => ∃ a b, d = .tuple [a, b] ∧ R ((ρ.set i (some (.dat a))).set j (some (.dat b)))
theorem rps2 {K : PySem.W.Frag} {F : Hp} {a b : PyData} {vs : List V} (h : Rps K F [a, b] vs) : ∃ v w, vs = [v, w] ∧ Rp K F a v ∧ Rp K F b w := by
  simp only [Rps] at h
  obtain ⟨v, _, rfl, h1, w, _, rfl, h2, rfl⟩ := h
  exact ⟨v, w, rfl, h1, h2⟩
theorem rps3 {K : PySem.W.Frag} {F : Hp} {a b c : PyData} {vs : List V} (h : Rps K F [a, b, c] vs) : ∃ u v w, vs = [u, v, w] ∧ Rp K F a u ∧ Rp K F b v ∧ Rp K F c w := by
  simp only [Rps] at h
  obtain ⟨u, _, rfl, h0, v, _, rfl, h1, w, _, rfl, h2, rfl⟩ := h
  exact ⟨u, v, w, rfl, h0, h1, h2⟩
theorem SR.setD {K : PySem.W.Frag} {Y Z : Fx} {F H : Hp} {σ : L2.St} {ρ : Rho} {n : Wo} (r : SR Y K Z F H σ ρ n) (i : Nat) {d : PyData} {v : V} (h : Rp K F d v) : SR Y K Z F H (σ.set i (some v)) (ρ.set i (some (.dat d))) n :=
  r.set (Hs := H) i (x := .dat d) h (fun p q => r.fresh q) fun p q l z _ e hz e2 => r.inH e hz e2 q
theorem gok_two {K : PySem.W.Frag} {i j : Nat} : GOk K (gTup K 2 (gCons (gName i) (gCons (gName j) gNil))) (gT2 i j) [i, j] := ⟨fun Y Z F H σ ρ n d v R Q r hr h k => by
  obtain ⟨a, b, rfl, h⟩ := h
  simp only [Rp] at hr
  obtain ⟨p, xs, rfl, hp, hxs⟩ := hr
  obtain ⟨v, w, rfl, h1, h2⟩ := rps2 hxs
  refine ⟨p, _, rfl, sqtR (rdS r.b.sub hp), rfl, v, _, rfl, w, _, rfl, rfl, k _ _ h ((r.setD i h1).setD j h2) fun vs hv => ?_⟩
  rw [wipe_set (hv j (by simp)), wipe_set (hv i (by simp))]⟩
abbrev FStep := PyData → Rho → Wo → (Rho → Wo → Prop) → Prop
structure ForR (xs : List PyData) (ρ : Rho) (n : Wo) (step : FStep) (Q : Rho → Wo → Prop) : Prop where
  ex : ∃ I : Nat → Rho → Wo → Prop, I 0 ρ n ∧ (∀ (k : Nat) x ρ' n', xs[k]? = some x → I k ρ' n' → step x ρ' n' (I (k + 1))) ∧ ∀ ρ' n', I xs.length ρ' n' → Q ρ' n'
def dFor (s : DSrc) (g : DTG) (b : DTS) : DTS := fun E ρ n => s ρ n fun xs n1 => ForR xs ρ n1 (fun x ρ' n' K => g x ρ' fun ρ'' => b { E with nx := K, ct := K, bk := E.nx } ρ'' n') E.nx
theorem SR.base {K : PySem.W.Frag} {Y Z : Fx} {F0 H : Hp} {σ : L2.St} {ρ : Rho} {n : Wo} (r : SR Y K Z F0 H σ ρ n) : SR Y K { Z with F0 := F0 } F0 H σ ρ n :=
  ⟨⟨r.b.sub, r.b.dk, r.b.dkF, Same.refl _, fun a _ h => h, r.b.gH, r.b.gI⟩, r.de, r.he, r.gr, r.len, fun i x e => by
    obtain ⟨v, e1, e2⟩ := r.slot i x e
    refine ⟨v, e1, ?_⟩
    cases x <;> exact e2, r.apart⟩
theorem Base.back {K : PySem.W.Frag} {Z : Fx} {F1 H1 F H : Hp} {n1 n : Wo} (b1 : Base K Z F1 H1 n1) (b : Base K { Z with F0 := F1 } F H n) : Base K Z F H n :=
  ⟨b.sub, b.dk, b.dkF, b1.gF.trans b.gF, fun a h1 h2 => b.gN a h1 (b1.gN a h1 h2), b.gH, b.gI⟩
theorem SR.back {K : PySem.W.Frag} {Y Z : Fx} {F1 H1 F H : Hp} {σ : L2.St} {ρ : Rho} {n n1 : Wo} (b1 : Base K Z F1 H1 n1) (r : SR Y K { Z with F0 := F1 } F H σ ρ n) : SR Y K Z F H σ ρ n :=
  ⟨b1.back r.b, r.de, r.he, r.gr, r.len, fun i x e => by
    obtain ⟨v, e1, e2⟩ := r.slot i x e
    refine ⟨v, e1, ?_⟩
    cases x <;> exact e2, r.apart⟩
theorem ds_for {tg iter : Expr} {body : List Stmt} {s : DSrc} {t : TG} {g : DTG} {sl : List Nat} {b : DTS} {pos : Pos} (hp : PassesOwn (model X.prog X.w) X.A X.env X.xe) (hc : X.calm = true) (hi : DI Y X tg iter s) (hg : DG X tg t g sl) (hb : DSs Y X body b)
    (hs : ∀ x, foldedSetIterable iter X.env x = pure x := by intro _; rfl) : DS Y X (.For tg iter body [] pos) (dFor s g b) :=
  ps_imp (ps_for hp hc hi hg.1 hb hs) fun D σ H ⟨Z, F, ρ, n, E, r, ht, k⟩ => ⟨Z, F, ρ, n, _, r, ht, fun xs n1 F1 H1 J ⟨⟨I, h0, hstep, hend⟩⟩ g1 s1 d1 w1 => by
    have r1 := r.step g1 s1 d1
    refine ⟨fun i m σ H => m = xs.length - i ∧ i ≤ xs.length ∧ ∃ F' ρ' n', SR Y X.K { Z with F0 := F1 } F' H σ ρ' n' ∧ I i ρ' n', ⟨xs.length, by simp, Nat.zero_le _, F1, ρ, n1, r1.base, h0⟩, ?_⟩
    rintro i m σ2 H2 ⟨rfl, hi, F2, ρ2, n2, r2, h2⟩
    have sF : Same F1 F2 := r2.b.gF
    by_cases hlt : i < xs.length
    · refine .inr ⟨w1.go i H2 (sF.trans r2.b.sub) hlt, fun σ' H' => ∃ F' ρ' n', SR Y X.K { Z with F0 := F1 } F' H' σ' ρ' n' ∧ I (i + 1) ρ' n', fun σ' H' q => ⟨xs.length - (i + 1), by omega, rfl, hlt, q⟩, fun v H3 hy => ?_⟩
      obtain ⟨x, hx⟩ : ∃ x, xs[i]? = some x := ⟨xs[i], by simp [hlt]⟩
      obtain ⟨F3, g3, s3, r3⟩ := w1.use sF r2.b.sub hy hx
      have r2' := r2.step g3.gr s3 (g3.dk r2.b)
      refine hg.2.im _ _ _ _ _ _ _ _ _ _ _ r2' r3 (hstep i x ρ2 n2 hx h2) fun σ4 ρ4 h4 r4 _ => ?_
      refine ⟨_, F3, ρ4, n2, _, r4, h4, ⟨fun F5 H5 σ5 ρ5 n5 q r5 => ⟨F5, ρ5, n5, r5, q⟩, fun d n5 F5 H5 v5 q b5 => k.rt _ _ _ _ _ q (r1.b.back b5), fun F5 H5 σ5 ρ5 n5 q r5 => k.nx _ _ _ _ _ q (SR.back r1.b r5), fun F5 H5 σ5 ρ5 n5 q r5 => ⟨F5, ρ5, n5, r5, q⟩⟩⟩
    · have e : i = xs.length := by omega
      subst e
      exact .inl ⟨w1.stop _ H2 (sF.trans r2.b.sub) (Nat.le_refl _), k.nx _ _ _ _ _ (hend _ _ h2) (SR.back r1.b r2)⟩⟩
end DL
namespace DL
open PySem PySem.Spec PyProof.Rows L2
variable {X : Cx} {Y : Fx}
def wipeR (ρ : Rho) : List Nat → Rho
  | [] => ρ
  | v :: vs => (wipeR ρ vs).set v none
theorem wipeR_length (ρ : Rho) : ∀ vs : List Nat, (wipeR ρ vs).length = ρ.length
  | [] => rfl
  | v :: vs => by unfold wipeR; rw [List.length_set, wipeR_length ρ vs]
theorem wipeR_some {ρ : Rho} {i : Nat} {x : Dv} : ∀ {vs : List Nat}, (wipeR ρ vs)[i]? = some (some x) → ρ[i]? = some (some x) ∧ i ∉ vs
  | [], h => ⟨h, by simp⟩
  | v :: vs, h => by
    unfold wipeR at h
    by_cases hi : v = i
    · subst hi
      by_cases hv : v < (wipeR ρ vs).length
      · rw [List.getElem?_set_self hv] at h; cases h
      · rw [List.getElem?_eq_none (by simpa using hv)] at h; cases h
    · rw [List.getElem?_set_ne hi] at h
      obtain ⟨h1, h2⟩ := wipeR_some h
      exact ⟨h1, by simp only [List.mem_cons, not_or]; exact ⟨fun e => hi e.symm, h2⟩⟩
theorem SR.wipe {K : PySem.W.Frag} {Y Z : Fx} {F H : Hp} {σ : L2.St} {ρ : Rho} {n : Wo} (r : SR Y K Z F H σ ρ n) (vs : List Nat) : SR Y K Z F H (wipe σ vs) (wipeR ρ vs) n where
  b := r.b
  de := r.de
  he := r.he
  gr := r.gr
  len := by rw [wipe_length, wipeR_length, r.len]
  slot := fun i x e => by
    obtain ⟨e1, e2⟩ := wipeR_some e
    obtain ⟨v, e3, e4⟩ := r.slot i x e1
    exact ⟨v, by rw [wipe_out e2]; exact e3, e4⟩
  apart := fun i j a ds y hij e1 e2 e3 hy e4 =>
    r.apart i j a ds y hij (wipeR_some e1).1 (wipe_some e2).1 (wipeR_some e3).1 hy (wipe_some e4).1
theorem wipe_idem {σ : L2.St} : ∀ {vs : List Nat}, wipe (wipe σ vs) vs = wipe σ vs := by
  intro vs
  have sub : ∀ us : List Nat, (∀ i ∈ us, i ∈ vs) → wipe (wipe σ us) vs = wipe σ vs := by
    intro us
    induction us with
    | nil => intro _; rfl
    | cons u us ih =>
      intro h
      show wipe ((wipe σ us).set u none) vs = _
      rw [wipe_set (h u (by simp))]
      exact ih fun i hi => h i (by simp [hi])
  exact sub vs fun i h => h
abbrev CStep := PyData → List PyData → Wo → (List PyData → Wo → Prop) → Prop
structure CompR (xs : List PyData) (n : Wo) (step : CStep) (R : List PyData → Wo → Prop) : Prop where
  ex : ∃ I : Nat → List PyData → Wo → Prop, I 0 [] n ∧ (∀ (k : Nat) x acc m, xs[k]? = some x → I k acc m → step x acc m (I (k + 1))) ∧ ∀ acc m, I xs.length acc m → R acc m
def mComp (s : DSrc) (g : DTG) (tt : DTT) (te : DTE) (vs : List Nat) : DTM := fun ρ n R => s ρ n fun xs n1 => CompR xs n1 (fun x acc m K => g x (wipeR ρ vs) fun ρ' => tt ρ' m fun b m1 => if b = true then te ρ' m1 fun y m2 => needD y fun d => acc.length < sizeLine ∧ K (acc ++ [d]) m2 else K acc m1) R
abbrev WTs (Y : Fx) (X : Cx) (ifs : List Expr) (t : DTT) : Prop := PTs X ifs (upT Y X.K t)
theorem pts_imp {ifs : List Expr} {t t' : TT} (h : PTs X ifs t) (q : ∀ σ H Q, t' σ H Q → t σ H Q) : PTs X ifs t' := ⟨fun p s σ H Q I w => h.run p s σ H Q I (q σ H Q w)⟩
def dYes : DTT := fun _ n R => R true n
theorem wts_nil : WTs Y X [] dYes := pts_imp pts_nil fun σ H Q ⟨Z, F, ρ, n, R, r, hr, k⟩ => k _ _ _ _ hr Gr.refl r.b.sub r.b.dk
theorem wts_one {c : Expr} {t : DTT} (h : WT Y X c t) : WTs Y X [c] t := pts_one h
/-- .. as data, as a list of one's own -/
theorem lc_dat {K : PySem.W.Frag} {t : DTM} : ∀ σ H Q, upX Y K (xD (dOfM t)) σ H Q → upM Y K t σ H Q := fun σ H Q ⟨Z, F, ρ, n, R, r, ht, k⟩ => ⟨Z, F, ρ, n, _, r, ht, fun ds n1 F1 H1 p vs hx g1 s1 d1 a b c d => by
  obtain ⟨g2, s2, r2⟩ := freeze g1 s1 a b c d
  exact k _ _ _ _ _ hx g2 s2 (d1.fz c rfl b) r2⟩
theorem SR.mut {K : PySem.W.Frag} {Y Z : Fx} {F H : Hp} {σ : L2.St} {ρ : Rho} {n : Wo} (r : SR Y K Z F H σ ρ n) {i : Nat} {ds es : List PyData} {a : Addr} {us : List V} (e : ρ[i]? = some (some (.mt ds))) (e1 : σ[i]? = some (some (.ref a))) (hr : Rps K F es us) :
    SR Y K Z F (upd H a (.lst us)) σ (ρ.set i (some (.mt es))) n := by
  obtain ⟨v, q1, a', ws, rfl, h0, hF, hH, hrr, na⟩ := r.slot i _ e
  rw [e1] at q1; cases q1
  have hi : i < ρ.length := (List.getElem?_eq_some_iff.mp e).1
  have hk : ∀ b o, b ≠ a → H b = some o → upd H a (.lst us) b = some o := fun b o q h => by rw [upd_ne q]; exact h
  refine ⟨⟨fun b o q => hk b o (ne_of_none q hF) (r.b.sub _ _ q), r.b.dk.chg na hH rfl, fun b hb => ⟨(r.b.dkF b hb).1, by rw [upd_ne fun q => na (by rw [← q]; exact hb)]; exact (r.b.dkF b hb).2⟩, r.b.gF, r.b.gN, fun b o q1 q2 q3 => hk b o (ne_of_none q2 h0) (r.b.gH b o q1 q2 q3), fun b C dx fs q => by rw [upd_ne (ne_of_none q h0)]; exact r.b.gI b C dx fs q⟩, r.de, r.he, r.gr.chg (by rw [← r.he]; exact h0), by simp [r.len], fun j y q => ?_, fun j l b ds' y hjl q1 q2 q3 hy q4 => ?_⟩
  · by_cases z : i = j
    · subst z
      rw [List.getElem?_set_self hi] at q
      cases q
      exact ⟨_, e1, a, us, rfl, h0, hF, upd_same, hr, na⟩
    · rw [List.getElem?_set_ne z] at q
      obtain ⟨w, w1, w2⟩ := r.slot j y q
      refine ⟨w, w1, ?_⟩
      cases y with
      | dat d => exact w2
      | vw es' =>
        obtain ⟨b, us', rfl, p1, p2, p3⟩ := w2
        exact ⟨b, us', rfl, hk b _ (fun zz => r.apart i j a ds (.vw es') z e e1 q rfl (by rw [w1, zz])) p1, p2, p3⟩
      | mt es' =>
        obtain ⟨b, us', rfl, p1, p2, p3, p4, p5⟩ := w2
        exact ⟨b, us', rfl, p1, p2, hk b _ (fun zz => r.apart i j a ds (.mt es') z e e1 q rfl (by rw [w1, zz])) p3, p4, p5⟩
      | deck _ => exact w2
      | md b ks =>
        obtain ⟨q1, q2, q3, q4, q5⟩ := w2
        exact ⟨q1, q2, q3, hk b _ (fun zz => by rw [zz, hH] at q4; cases q4) q4, q5⟩
  · have old : ∀ (k : Nat) (x : Dv), (ρ.set i (some (.mt es)))[k]? = some (some x) → x.isL = true → ∃ x', ρ[k]? = some (some x') ∧ x'.isL = true ∧ (∀ ds', x = .mt ds' → ∃ ds'', x' = .mt ds'') := fun k x q hx => by
      by_cases z : i = k
      · subst z
        rw [List.getElem?_set_self hi] at q
        cases q
        exact ⟨_, e, rfl, fun _ _ => ⟨_, rfl⟩⟩
      · rw [List.getElem?_set_ne z] at q
        exact ⟨x, q, hx, fun ds' h => ⟨ds', h⟩⟩
    obtain ⟨x1, p1, p2, p3⟩ := old j _ q1 rfl
    obtain ⟨ds'', rfl⟩ := p3 _ rfl
    obtain ⟨x2, p4, p5, _⟩ := old l _ q3 hy
    exact r.apart j l b ds'' x2 hjl p1 q2 p4 p5 q4
/-- the list in slot i -/
def atMt (i : Nat) (ρ : Rho) (R : List PyData → Prop) : Prop := ∃ ds, ρ[i]? = some (some (.mt ds)) ∧ R ds
def dApp (i : Nat) (t : DTE) : DTS := fun E ρ n => atMt i ρ fun ds => t ρ n fun x n' => needD x fun d => ds.length < sizeLine ∧ E.nx (ρ.set i (some (.mt (ds ++ [d])))) n'
theorem SR.own {K : PySem.W.Frag} {Y Z : Fx} {F H : Hp} {σ : L2.St} {ρ : Rho} {n : Wo} (r : SR Y K Z F H σ ρ n) {i : Nat} {ds : List PyData} (e : ρ[i]? = some (some (.mt ds))) : ∃ a vs, σ[i]? = some (some (.ref a)) ∧ H a = some (.lst vs) ∧ Rps K F ds vs := by
  obtain ⟨v, q1, a, ws, rfl, h0, hF, hH, hrr, na⟩ := r.slot i _ e
  exact ⟨a, ws, q1, hH, hrr⟩
section
variable {i : Nat} {o e : Expr} {t : DTE} {apos cpos pos : Pos}
theorem ds_append (ho : PE X o (tVar i)) (he : WE Y X e t)
    (hbase : attributeBase o "append" X.env (eval o X.env) = eval o X.env := by rfl)
    (hfew : ((backTo cpos (starEach [e] X.env)).all (fun x => !x.1) && (backToKw cpos (keywordEach [] X.env)).all (fun x => x.1.isSome)
      && decide (([e] : List Expr).length + ([] : List Keyword).length + (if ([] : List Keyword).isEmpty then 0 else 1) < 30)) = true := by rfl)
    (hline : (apos.endLine == cpos.line) = true := by rfl) (hst : starEach [e] X.env = (false, eval e X.env) :: starEach [] X.env := by rfl) (hplain : (backTo cpos (starEach [] X.env)).any (·.1) = false := by rfl)
    (hs : swapsWith (.Call (.Attribute o "append" apos) [e] [] cpos) none pos.line X.env = pure false := by rfl) : DS Y X (.Expr (.Call (.Attribute o "append" apos) [e] [] cpos) pos) (dApp i t) :=
  ps_imp (ps_expr (pe_bm PySem.F.plainAttrs_list PySem.F.slot_list_append PySem.F.type_list_append mt_append ho (pa_cons he pa_nil hst) hbase hfew hline hst hplain) hs) fun D σ H ⟨Z, F, ρ, n, E, r, ⟨ds, e0, ht⟩, k⟩ => by
    obtain ⟨a, vs, q1, q2, q3⟩ := r.own e0
    refine ⟨_, q1, .inl ⟨rfl, vs, SqL.of q2⟩, Z, F, ρ, n, _, r, ht, fun x n1 F1 H1 v hx g1 s1 d1 w1 => ?_⟩
    obtain ⟨d, rfl, hl, hx⟩ := needD_is hx
    have r1 := r.step g1 s1 d1
    obtain ⟨a', vs', q4, q5, q6⟩ := r1.own e0
    rw [q1] at q4; cases q4
    exact ⟨a, vs', _, rfl, rfl, q5, by rw [← q6.length]; exact hl, k.nx _ _ _ _ _ hx (r1.mut e0 q1 (q6.append (rps_cons w1 rps_nil)))⟩
/-- x.remove(k) of ints -/
def dRem (i : Nat) (t : DTE) : DTS := fun E ρ n => atMt i ρ fun ds => t ρ n fun x n' => ∃ (ns : List Int) (k : Int), ds = ns.map PyData.int ∧ x = .dat (.int k) ∧ k ∈ ns ∧ E.nx (ρ.set i (some (.mt ((ns.erase k).map PyData.int)))) n'
theorem first_at {ns : List Int} {k : Int} (h : k ∈ ns) : ∃ j, ns[j]? = some k ∧ (∀ m : Nat, m < j → ns[m]? ≠ some k) ∧ ns.eraseIdx j = ns.erase k := by
  induction ns with
  | nil => simp at h
  | cons a r ih =>
    by_cases e : a = k
    · subst e
      exact ⟨0, rfl, fun m hm => absurd hm (Nat.not_lt_zero _), by simp⟩
    · have hr : k ∈ r := by
        rcases List.mem_cons.mp h with q | q
        · exact absurd q.symm e
        · exact q
      obtain ⟨j, h1, h2, h3⟩ := ih hr
      refine ⟨j + 1, by simpa using h1, fun m hm => ?_, ?_⟩
      · cases m with
        | zero => simpa using e
        | succ m => simpa using h2 m (by omega)
      · rw [List.eraseIdx_cons_succ, h3, List.erase_cons_tail (by simpa using e)]
theorem ds_remove (ho : PE X o (tVar i)) (he : WE Y X e t)
    (hbase : attributeBase o "remove" X.env (eval o X.env) = eval o X.env := by rfl)
    (hfew : ((backTo cpos (starEach [e] X.env)).all (fun x => !x.1) && (backToKw cpos (keywordEach [] X.env)).all (fun x => x.1.isSome)
      && decide (([e] : List Expr).length + ([] : List Keyword).length + (if ([] : List Keyword).isEmpty then 0 else 1) < 30)) = true := by rfl)
    (hline : (apos.endLine == cpos.line) = true := by rfl) (hst : starEach [e] X.env = (false, eval e X.env) :: starEach [] X.env := by rfl) (hplain : (backTo cpos (starEach [] X.env)).any (·.1) = false := by rfl)
    (hs : swapsWith (.Call (.Attribute o "remove" apos) [e] [] cpos) none pos.line X.env = pure false := by rfl) : DS Y X (.Expr (.Call (.Attribute o "remove" apos) [e] [] cpos) pos) (dRem i t) :=
  ps_imp (ps_expr (pe_bm PySem.F.plainAttrs_list PySem.F.slot_list_remove PySem.F.type_list_remove mt_remove ho (pa_cons he pa_nil hst) hbase hfew hline hst hplain) hs) fun D σ H ⟨Z, F, ρ, n, E, r, ⟨ds, e0, ht⟩, k⟩ => by
    obtain ⟨a, vs, q1, q2, q3⟩ := r.own e0
    refine ⟨_, q1, .inl ⟨rfl, vs, SqL.of q2⟩, Z, F, ρ, n, _, r, ht, fun x n1 F1 H1 v ⟨ns, z, e1, e2, hm, hx⟩ g1 s1 d1 w1 => ?_⟩
    subst e1 e2
    simp only [VR, Rp] at w1
    subst w1
    have r1 := r.step g1 s1 d1
    obtain ⟨a', vs', q4, q5, q6⟩ := r1.own e0
    rw [q1] at q4; cases q4
    rw [q6.ints] at q5
    obtain ⟨j, h1, h2, h3⟩ := first_at hm
    refine ⟨a, ns, z, j, rfl, rfl, q5, h1, h2, ?_⟩
    rw [h3]
    exact k.nx _ _ _ _ _ hx (r1.mut e0 q1 (rps_ints _))
theorem Rps.set {K : PySem.W.Frag} {F : Hp} : ∀ {ds : List PyData} {vs : List V} (j : Nat) {d : PyData} {v : V}, Rps K F ds vs → Rp K F d v → Rps K F (ds.set j d) (vs.set j v)
  | [], _, _, _, _, h, _ => by simp only [Rps] at h; subst h; simp [Rps]
  | d :: ds, _, 0, d', v', h, h' => by
    simp only [Rps] at h
    obtain ⟨v, r, rfl, h1, h2⟩ := h
    exact rps_cons h' h2
  | d :: ds, _, j + 1, d', v', h, h' => by
    simp only [Rps] at h
    obtain ⟨v, r, rfl, h1, h2⟩ := h
    exact rps_cons h1 (Rps.set j h2 h')
end
end DL
namespace DL
open PySem PySem.Spec PyProof.Rows L2
variable {X : Cx} {Y : Fx}
abbrev DC := List Dv → (PyData → Prop) → Prop
def CallOk (K : PySem.W.Frag) (r : List V → Hp → VK → Prop) (o : DC) : Prop := ∀ δ F H xs vs R Q, Same F H → VRs K δ F H xs vs → o xs R → Back K F H R Q → r vs H Q
def dCall (o : DC) (t : DTA) : DTE := fun ρ n R => t ρ n fun xs n1 => o xs fun d => R (.dat d) n1
theorem cal {K : PySem.W.Frag} {r : List V → Hp → VK → Prop} {o : DC} {t : DTA} (ho : CallOk K r o) : ∀ σ H Q, up Y K (dCall o t) σ H Q → tCB r (upA Y K t) σ H Q := fun σ H Q ⟨Z, F, ρ, n, R, s, ht, k⟩ =>
  ⟨Z, F, ρ, n, _, s, ht, fun xs n1 F1 H1 vs hx g1 s1 d1 w1 => ho Z.δ F1 H1 xs vs _ Q s1 w1 hx fun d F2 H2 v2 h2 g2 s2 w2 =>
    k _ _ _ _ _ h2 (g1.trans g2.gr) s2 (g2.dk ((s.step g1 s1 d1).b)) w2⟩
section
variable {x : Str} {p pos : Pos} {e : Expr} {es : List Expr} {id T : String} {r : List V → Hp → VK → Prop} {o : DC} {t : DTA}
theorem we_callB (hc : CallR X (.builtin id) r) (ho : CallOk X.K r o) (hg : Gl X x) (hm : X.mg x = none) (hv : bootBuiltins x = some (.builtin id)) (ha : WA Y X (e :: es) t) (hn : x ≠ "__name__" := by decide) (hdb : (x == ("__debug__" : Str)) = false := by decide)
    (he : starEach (e :: es) X.env = (false, eval e X.env) :: starEach es X.env := by rfl) (hpl : (backTo pos (starEach es X.env)).any (·.1) = false := by rfl) : WE Y X (.Call (.Name x p) (e :: es) [] pos) (dCall o t) :=
  pe_imp (pe_callB hc hg hm hv ha hn hdb he hpl) (cal ho)
theorem we_callTy (hc : CallR X (.type T) r) (ho : CallOk X.K r o) (hg : Gl X x) (hm : X.mg x = none) (hv : bootBuiltins x = some (.type T)) (ha : WA Y X (e :: es) t) (hn : x ≠ "__name__" := by decide) (hdb : (x == ("__debug__" : Str)) = false := by decide)
    (he : starEach (e :: es) X.env = (false, eval e X.env) :: starEach es X.env := by rfl) (hpl : (backTo pos (starEach es X.env)).any (·.1) = false := by rfl) : WE Y X (.Call (.Name x p) (e :: es) [] pos) (dCall o t) :=
  pe_imp (pe_callTy hc hg hm hv ha hn hdb he hpl) (cal ho)
abbrev DCM := List Dv → (List PyData → Prop) → Prop
def CallOkM (K : PySem.W.Frag) (r : List V → Hp → VK → Prop) (o : DCM) : Prop := ∀ δ F H xs vs R Q, Same F H → VRs K δ F H xs vs → o xs R → (∀ ds us p, R ds → H p = none → Rps K F ds us → Q (.ref p) (upd H p (.lst us))) → r vs H Q
def mCall (o : DCM) (t : DTA) : DTM := fun ρ n R => t ρ n fun xs n1 => o xs fun d => R d n1
theorem calM {K : PySem.W.Frag} {r : List V → Hp → VK → Prop} {o : DCM} {t : DTA} (ho : CallOkM K r o) : ∀ σ H Q, upM Y K (mCall o t) σ H Q → tCB r (upA Y K t) σ H Q := fun σ H Q ⟨Z, F, ρ, n, R, s, ht, k⟩ =>
  ⟨Z, F, ρ, n, _, s, ht, fun xs n1 F1 H1 vs hx g1 s1 d1 w1 => ho Z.δ F1 H1 xs vs _ Q s1 w1 hx fun ds us p h2 hp hr => by
    obtain ⟨g2, s2⟩ := Gp.newM (o := .lst us) hp s1
    have hp0 : H p = none := by
      cases e : H p with
      | none => rfl
      | some o => exact absurd hp (g1.dH p (by rw [e]; nofun))
    exact k _ _ _ _ _ _ h2 (g1.trans g2.gr) s2 (g2.dk ((s.step g1 s1 d1).b)) hp0 (s1.free hp) upd_same hr⟩
theorem me_callB (hc : CallR X (.builtin id) r) {o : DCM} (ho : CallOkM X.K r o) (hg : Gl X x) (hm : X.mg x = none) (hv : bootBuiltins x = some (.builtin id)) (ha : WA Y X (e :: es) t) (hn : x ≠ "__name__" := by decide) (hdb : (x == ("__debug__" : Str)) = false := by decide)
    (he : starEach (e :: es) X.env = (false, eval e X.env) :: starEach es X.env := by rfl) (hpl : (backTo pos (starEach es X.env)).any (·.1) = false := by rfl) : ME Y X (.Call (.Name x p) (e :: es) [] pos) (mCall o t) :=
  pe_imp (pe_callB hc hg hm hv ha hn hdb he hpl) (calM ho)
theorem me_callTy (hc : CallR X (.type T) r) {o : DCM} (ho : CallOkM X.K r o) (hg : Gl X x) (hm : X.mg x = none) (hv : bootBuiltins x = some (.type T)) (ha : WA Y X (e :: es) t) (hn : x ≠ "__name__" := by decide) (hdb : (x == ("__debug__" : Str)) = false := by decide)
    (he : starEach (e :: es) X.env = (false, eval e X.env) :: starEach es X.env := by rfl) (hpl : (backTo pos (starEach es X.env)).any (·.1) = false := by rfl) : ME Y X (.Call (.Name x p) (e :: es) [] pos) (mCall o t) :=
  pe_imp (pe_callTy hc hg hm hv ha hn hdb he hpl) (calM ho)
end
section
variable {K : PySem.W.Frag}
theorem vr1 {δ : DkS} {F H : Hp} {x : Dv} {vs : List V} (h : VRs K δ F H [x] vs) : ∃ v, vs = [v] ∧ VR K δ F H x v := by
  cases h with
  | cons a b => cases b; exact ⟨_, rfl, a⟩
theorem vr2 {δ : DkS} {F H : Hp} {x y : Dv} {vs : List V} (h : VRs K δ F H [x, y] vs) : ∃ v w, vs = [v, w] ∧ VR K δ F H x v ∧ VR K δ F H y w := by
  cases h with
  | cons a b =>
    obtain ⟨w, rfl, h2⟩ := vr1 b
    exact ⟨_, w, rfl, a, h2⟩
/-- a sequence's items, whichever it is -/
def seqD : PyData → Option (List PyData)
  | .list ds => some ds
  | .tuple ds => some ds
  | _ => none
theorem VR.seq {δ : DkS} {F H : Hp} {x : Dv} {v : V} {ds : List PyData} (hs : Same F H) (h : VR K δ F H x v) (e : seqD x.toD = some ds) : ∃ a vs, v = .ref a ∧ (H a = some (.lst vs) ∨ Rd H a (.tup vs)) ∧ Rps K F ds vs := by
  cases q : x.toD with
  | list es =>
    rw [q] at e; cases e
    obtain ⟨a, l, e1, e2, e3⟩ := h.lst hs q
    exact ⟨a, l, e1, .inl e2, e3⟩
  | tuple es =>
    rw [q] at e; cases e
    obtain ⟨a, l, e1, e2, e3⟩ := h.tpl hs q
    exact ⟨a, l, e1, .inr (rdS hs e2), e3⟩
  | _ => rw [q] at e; cases e
def oLen : DC := fun xs R => ∃ x ds, xs = [x] ∧ seqD x.toD = some ds ∧ R (.int ds.length)
theorem ck_len : CallOk K (fun xs H Q => ∃ p ys, xs = [.ref p] ∧ (SqL K H p ys ∨ SqT K H p ys) ∧ Q (.int ys.length) H) oLen := fun δ F H xs vs R Q hs hv ⟨x, ds, e, e2, hr⟩ b => by
  subst e
  obtain ⟨v, rfl, h1⟩ := vr1 hv
  obtain ⟨a, us, rfl, h2, h3⟩ := h1.seq hs e2
  exact ⟨a, us, rfl, h2.imp SqL.of sqtR, b.int hs (by rw [← h3.length]; exact hr)⟩
/-- sum, max, min of ints -/
def oSum : DC := fun xs R => ∃ x, ∃ ns : List Int, xs = [x] ∧ seqD x.toD = some (ns.map .int) ∧ R (.int ns.sum)
/-- tuple(x), list(x) -/
def oTuple : DC := fun xs R => ∃ x ds, xs = [x] ∧ seqD x.toD = some ds ∧ R (.tuple ds)
theorem ck_tuple : CallOk K (fun xs H Q => ∃ p ys, xs = [.ref p] ∧ ((SqL K H p ys ∧ ∀ l, H l = none → Q (.ref l) (upd H l (.tup ys))) ∨ (SqT K H p ys ∧ Q (.ref p) H))) oTuple := fun δ F H xs vs R Q hs hv ⟨x, ds, e, e2, hr⟩ b => by
  subst e
  obtain ⟨v, rfl, h1⟩ := vr1 hv
  cases q : x.toD with
  | list es =>
    rw [q] at e2; cases e2
    obtain ⟨a, l, rfl, e2, e3⟩ := h1.lst hs q
    exact ⟨a, l, rfl, .inl ⟨SqL.of e2, fun p hp => b.tup hs hr e3 hp⟩⟩
  | tuple es =>
    rw [q] at e2; cases e2
    obtain ⟨a, l, rfl, e2, e3⟩ := h1.tpl hs q
    exact ⟨a, l, rfl, .inr ⟨sqtR (rdS hs e2), b.here hs hr (by simp only [Rp]; exact ⟨a, l, rfl, e2, e3⟩)⟩⟩
  | _ => rw [q] at e2; cases e2
def oList : DCM := fun xs R => ∃ x ds, xs = [x] ∧ seqD x.toD = some ds ∧ R ds
theorem ck_list : CallOkM K (fun xs H Q => ∃ p ys, xs = [.ref p] ∧ (SqL K H p ys ∨ SqT K H p ys) ∧ ∀ l, H l = none → Q (.ref l) (upd H l (.lst ys))) oList := fun δ F H xs vs R Q hs hv ⟨x, ds, e, e2, hr⟩ b => by
  subst e
  obtain ⟨v, rfl, h1⟩ := vr1 hv
  obtain ⟨a, us, rfl, h2, h3⟩ := h1.seq hs e2
  exact ⟨a, us, rfl, h2.imp SqL.of sqtR, fun p hp => b _ _ _ hr hp h3⟩
end
abbrev DRg := Rho → Wo → (Int → Int → Wo → Prop) → Prop
def dRg1 (t : DTE) : DRg := fun ρ n R => t ρ n fun x n1 => ∃ j : Int, x = .dat (.int j) ∧ R 0 j n1
def upR (Y : Fx) (K : PySem.W.Frag) (t : DRg) : L2.St → Hp → (Int → Int → Hp → Prop) → Prop := fun σ H Q => ∃ Z F ρ n R, SR Y K Z F H σ ρ n ∧ t ρ n R ∧
  ∀ i j n' F' H', R i j n' → Gr Z.δ F H F' H' → Same F' H' → Z.δ.at_ K F' H' n' → Q i j H'
abbrev WR (Y : Fx) (X : Cx) (e : Expr) (t : DRg) : Prop := PRg X e (upR Y X.K t)
theorem wr_1 {a : Expr} {t : DTE} {p pos : Pos} (hg : Gl X "range") (hm : X.mg "range" = none) (ha : WE Y X a t) (na : starEach [a] X.env = (false, eval a X.env) :: starEach [] X.env := by rfl) : WR Y X (.Call (.Name "range" p) [a] [] pos) (dRg1 t) := by
  intro pins s σ H Q I ⟨Z, F, ρ, n, R, r, ht, k⟩
  refine prg_1 hg hm ha na pins s σ H Q I ⟨Z, F, ρ, n, _, r, ht, fun x n1 F1 H1 v ⟨j, e, hx⟩ g1 s1 d1 w1 => ?_⟩
  subst e
  simp only [VR, Rp] at w1
  exact ⟨j, w1, k _ _ _ _ _ hx g1 s1 d1⟩
theorem rps_rng {K : PySem.W.Frag} {F : Hp} (a b : Int) : Rps K F (rngD a (b - a).toNat) (rgV a b) := by
  have h := rps_ints (K := K) (F := F) ((List.range (b - a).toNat).map fun (k : Nat) => a + (k : Int))
  rw [List.map_map, List.map_map] at h
  exact h
def mLstRg (t : DRg) : DTM := fun ρ n R => t ρ n fun i j n1 => RgOk i j ∧ R (rngD i (j - i).toNat) n1
theorem me_listRg {e : Expr} {t : DRg} {p pos : Pos} (hc : X.calm = true) (hg : Gl X "list") (hm : X.mg "list" = none) (he : WR Y X e t) (na : starEach [e] X.env = (false, eval e X.env) :: starEach [] X.env := by rfl) : ME Y X (.Call (.Name "list" p) [e] [] pos) (mLstRg t) :=
  pe_imp (pe_listRg hc hg hm he na) fun σ H Q ⟨Z, F, ρ, n, R, r, ht, k⟩ => ⟨Z, F, ρ, n, _, r, ht, fun i j n1 F1 H1 ⟨h1, h2⟩ g1 s1 d1 => ⟨h1, fun q hq => by
    obtain ⟨g2, s2⟩ := Gp.newM (o := .lst (rgV i j)) hq s1
    have hp0 : H q = none := by
      cases e : H q with
      | none => rfl
      | some o => exact absurd hq (g1.dH q (by rw [e]; nofun))
    exact k _ _ _ _ _ _ h2 (g1.trans g2.gr) s2 (g2.dk ((r.step g1 s1 d1).b)) hp0 (s1.free hq) upd_same (rps_rng i j)⟩⟩
def dTupRg (t : DRg) : DTE := fun ρ n R => t ρ n fun i j n1 => RgOk i j ∧ R (.dat (.tuple (rngD i (j - i).toNat))) n1
theorem we_tupRg {e : Expr} {t : DRg} {p pos : Pos} (hc : X.calm = true) (hg : Gl X "tuple") (hm : X.mg "tuple" = none) (he : WR Y X e t) (na : starEach [e] X.env = (false, eval e X.env) :: starEach [] X.env := by rfl) : WE Y X (.Call (.Name "tuple" p) [e] [] pos) (dTupRg t) :=
  pe_imp (pe_tupRg hc hg hm he na) fun σ H Q ⟨Z, F, ρ, n, R, r, ht, k⟩ => ⟨Z, F, ρ, n, _, r, ht, fun i j n1 F1 H1 ⟨h1, h2⟩ g1 s1 d1 => ⟨h1, fun q hq => by
    obtain ⟨g2, s2⟩ := Gp.new (o := .tup (rgV i j)) hq s1
    refine k _ _ _ _ _ h2 (g1.trans g2.gr) s2 (g2.dk ((r.step g1 s1 d1).b)) ?_
    simp only [VR, Rp]
    exact ⟨q, _, rfl, .inl upd_same, rps_rng i j⟩⟩⟩
structure FnG (P : Program) (w : World) (K : PySem.W.Frag) (mg : Str → Option Value) (base : Heap) (k : Nat) (f : Addr) (fd : FuncData) (ps : List Str) (sp : Sp) : Prop where
  len : ∀ vs H Q E, sp vs H Q E → vs.length = ps.length
  run : ∀ (A : Around) (outer : List Env) (s : Shared) (H : Hp) (args : Args) (us : List Value) (vs : List V) (Q : VK), A.guards = some [] → Room k A → Env0 P w K mg base A outer s H →
    BindsTo s fd args (ps.zip us) → Vals vs us → sp vs H Q E0 → codeAny (model P w) A (.call (.ref f) args) (CR CX0 outer P w H s Q E0) s
theorem FnG.mono {P : Program} {w : World} {K : PySem.W.Frag} {mg : Str → Option Value} {base : Heap} {j k : Nat} {f : Addr} {fd : FuncData} {ps : List Str} {sp : Sp} (F : FnG P w K mg base j f fd ps sp) (h : j ≤ k) : FnG P w K mg base k f fd ps sp :=
  ⟨F.len, fun A outer s H args us vs Q hg hr => F.run A outer s H args us vs Q hg (hr.mono h)⟩
/-- a def, by its body -/
theorem fng_of {P : Program} {w : World} {K : PySem.W.Frag} {mg : Str → Option Value} {base : Heap} {x qual : Str} {st : Stmt} {f : Addr} {fd : FuncData} {N ps : List Str} {k : Nat} {sp : Sp} (F : Fun K x qual st f fd) (S : FnScope N ps (defScope st))
    (len : ∀ vs H Q E, sp vs H Q E → vs.length = ps.length)
    (hb : ∀ (cdv : Value) (A : Around) (outer : List Env) (s : Shared) (H : Hp) (vs : List V) (Q : VK), A.guards = some [] → Room k (A.deeper (envOfC qual (defScope st) s.heap.objs.size f cdv)) → sp vs H Q E0 →
      ∃ t, PSs (cxOf CX0 P w K mg base N qual (defScope st) f cdv A outer s H E0).nox (defBody st) t ∧ t { nx := fun _ H' => Q .non H', rt := Q } (start N vs) H) : FnG P w K mg base (k + 1) f fd ps sp := by
  refine ⟨len, fun A outer s H args us vs Q hgd hr e0 hbi rv hsp => ?_⟩
  obtain ⟨oc, od, kV, doc, pm, an, cdv, ct, osl, rfl, lk, hcd⟩ := F.ex
  have hl := len _ _ _ _ hsp
  have kin : K.In s.heap := e0.mod.kin.keeps fun b o e => (e0.bs b o e).1
  have lim : s.heap.NoLimit := e0.mod.nolimit.keeps fun b o e => (e0.bs b o e).1
  refine Att.call_fn kin lim lk hcd hr.depth hbi (List.all_eq_true.mpr fun ⟨y, u⟩ hy => ?_) (fun s1 x => ?_) S.co S.gen S.kind
  · rcases S.par y (List.of_mem_zip hy).1 with q | q <;> simp [q]
  · obtain ⟨t, ht, hq⟩ := hb cdv A outer s H vs Q hgd (hr.deeper _) hsp
    have I := inv_start (CX := CX0) (P := P) (w := w) (E := E0) S hr.hd e0 hl rv x
    refine wpAny_mono (ht.run [] s1 (start N vs) H _ (I.wish _) hq) (fun fl s' hs => ?_) fun e s' hs => hs.elim
    have fin : ∀ {σ' : L2.St} {H' : Hp} {v : V} {u : Value}, Inv (cxOf CX0 P w K mg base N qual (defScope st) f cdv A outer s H E0) [] σ' H' s' → RelV v u → Q v H' → CE outer P w H s Q u s' :=
      fun J r q => ⟨_, _, J.os, J.bare, J.base, J.hok, r, q⟩
    cases fl with
    | ret u =>
      obtain ⟨v, σ', H', J, r, q⟩ := hs
      exact fin J.unwish r q
    | next =>
      obtain ⟨σ', H', J, q⟩ := hs
      exact fin (v := V.non) (u := Value.none) J.unwish rfl q
    | brk => obtain ⟨_, _, _, q⟩ := hs; exact q.elim
    | cont => obtain ⟨_, _, _, q⟩ := hs; exact q.elim
theorem run_g {mg' : Unit} {k : Nat} {f : Addr} {fd : FuncData} {ps : List Str} {sp : Sp} {pins : List (Addr × Obj)} {σ : L2.St} {H : Hp} {s : Shared} {Q : VK} {us : List Value} {vs : List V} (F : FnG X.prog X.w X.K X.mg X.base k f fd ps sp) (hgd : X.A.guards = some []) (hr : Room k X.A) (hb : Binds X.K fd ps [])
    (I : Inv X pins σ H s) (r : Vals vs us) (h : sp vs H Q E0) : wpAny (model X.prog X.w) X.A (call (.ref f) us) (EP X pins σ Q) X.xe s := by
  have hl : (us ++ []).length = ps.length := by rw [List.append_nil, ← r.length]; exact F.len _ _ _ _ h
  have hbi := hb s us I.kIn hl
  rw [List.append_nil] at hbi
  refine wpAny_call (codeAny_mono (F.run X.A X.stack s H ⟨us, []⟩ us vs Q hgd hr I.env0 hbi r h) fun q s' hq => ?_)
  cases q with
  | error e => exact hq.elim
  | ok fl =>
    cases fl with
    | ret u => exact I.after hq
    | next => exact hq.elim
    | brk => exact hq.elim
    | cont => exact hq.elim
theorem pe_callg {k : Nat} {f : Addr} {fd : FuncData} {ps : List Str} {sp : Sp} {x : Str} {p pos : Pos} {e : Expr} {es : List Expr} {t : TA} (F : FnG X.prog X.w X.K X.mg X.base k f fd ps sp) (hgd : X.A.guards = some []) (hr : Room k X.A) (hg : Gl X x) (hm : X.mg x = some (.ref f)) (hk : PySem.W.keepIn X.K (.ref f) = true) (hb : Binds X.K fd ps [])
    (ha : PA X (e :: es) t) (hdb : (x == ("__debug__" : Str)) = false := by decide) (he : starEach (e :: es) X.env = (false, eval e X.env) :: starEach es X.env := by rfl) (hpl : (backTo pos (starEach es X.env)).any (·.1) = false := by rfl) :
    PE X (.Call (.Name x p) (e :: es) [] pos) (fun σ H Q => t σ H fun vs H1 => sp vs H1 Q E0) :=
  ⟨fun pins s σ H Q I h => wpAny_Call_Name_kw (ld_glob I hg hm (PySem.W.callWith_K (h₀ := X.base) I.ok.mod.kin hk (thn (ha.run pos pins s σ H _ I h) fun us s1 ⟨vs, H1, I1, r, q⟩ => ⟨I1.kIn, run_g (mg' := ()) F hgd hr hb I1 r q⟩) he hpl) hdb)⟩
abbrev DSpec := List Dv → Wo → (PyData → Wo → Prop) → Prop
def spD (K : PySem.W.Frag) (m : Nat) (c : DSpec) : Sp := fun vs H Q _ => ∃ δ F as n R, as.length = m ∧ VRs K δ F H as vs ∧ Same F H ∧ δ.at_ K F H n ∧ (∀ a, a ∈ δ.own → F a = none ∧ H a ≠ none) ∧ c as n R ∧
  ∀ d n' F' H' v, R d n' → Gr δ F H F' H' → Same F' H' → δ.at_ K F' H' n' → Rp K F' d v → Q v H'
def dFn (m : Nat) (c : DSpec) (t : DTA) : DTE := fun ρ n R => t ρ n fun as n1 => as.length = m ∧ c as n1 fun d n2 => R (.dat d) n2
theorem we_fn {k m : Nat} {c : DSpec} {f : Addr} {fd : FuncData} {ps : List Str} {x : Str} {p pos : Pos} {e : Expr} {es : List Expr} {t : DTA} (F : FnG X.prog X.w X.K X.mg X.base k f fd ps (spD X.K m c)) (hgd : X.A.guards = some []) (hr : Room k X.A) (hg : Gl X x) (hm : X.mg x = some (.ref f)) (hk : PySem.W.keepIn X.K (.ref f) = true) (hb : Binds X.K fd ps [])
    (ha : WA Y X (e :: es) t) (hdb : (x == ("__debug__" : Str)) = false := by decide) (he : starEach (e :: es) X.env = (false, eval e X.env) :: starEach es X.env := by rfl) (hpl : (backTo pos (starEach es X.env)).any (·.1) = false := by rfl) :
    WE Y X (.Call (.Name x p) (e :: es) [] pos) (dFn m c t) :=
  pe_imp (pe_callg F hgd hr hg hm hk hb ha hdb he hpl) fun σ H Q ⟨Z, F, ρ, n, R, r, ht, k⟩ => ⟨Z, F, ρ, n, _, r, ht, fun as n1 F1 H1 vs ⟨hl, hx⟩ g1 s1 d1 w1 => by
    have b1 := r.b.step g1 s1 d1
    exact ⟨Z.δ, F1, as, n1, _, hl, w1, s1, d1, b1.dkF, hx, fun d n2 F2 H2 v h2 g2 s2 d2 w2 => k _ _ _ _ _ h2 (g1.trans g2) s2 d2 w2⟩⟩
def startR (N : List Str) (as : List Dv) : Rho := as.map some ++ List.replicate (N.length - as.length) none
theorem Base.gr {K : PySem.W.Frag} {Z : Fx} {F H : Hp} {n : Wo} (h0 : ∀ a, a ∈ Z.δ.own → Z.F0 a = none ∧ Z.H0 a ≠ none) (b : Base K Z F H n) : Gr Z.δ Z.F0 Z.H0 F H :=
  ⟨b.gF, b.gN, b.gH, b.gI, fun a h => b.gD a h⟩
theorem vrs_get {K : PySem.W.Frag} {δ : DkS} {F H : Hp} : ∀ {as : List Dv} {vs : List V} {i : Nat} {x : Dv}, VRs K δ F H as vs → as[i]? = some x → ∃ v, vs[i]? = some v ∧ VR K δ F H x v
  | _, _, i, x, .nil, e => by simp at e
  | _, _, 0, x, .cons a b, e => by
    simp at e; subst e
    exact ⟨_, rfl, a⟩
  | _, _, i + 1, x, .cons a b, e => by
    obtain ⟨v, e1, e2⟩ := vrs_get (i := i) b (by simpa using e)
    exact ⟨v, by simpa using e1, e2⟩
theorem sr_start {K : PySem.W.Frag} {δ : DkS} {F H : Hp} {N : List Str} {as : List Dv} {vs : List V} {n : Wo} (w : VRs K δ F H as vs) (hs : Same F H) (hd : δ.at_ K F H n) (ho : ∀ a, a ∈ δ.own → F a = none ∧ H a ≠ none) : SR ⟨F, H, δ⟩ K ⟨F, H, δ⟩ F H (L2.start N vs) (startR N as) n := by
  have hl : as.length = vs.length := Paired.length w
  have get : ∀ (i : Nat) (x : Dv), (startR N as)[i]? = some (some x) → as[i]? = some x := fun i x e => by
    unfold startR at e
    by_cases hi : i < as.length
    · rw [List.getElem?_append_left (by simpa using hi), List.getElem?_map] at e
      cases q : as[i]? with
      | none => rw [q] at e; cases e
      | some y => rw [q] at e; cases e; rfl
    · rw [List.getElem?_append_right (by simpa using hi), List.getElem?_replicate] at e
      split at e <;> cases e
  refine ⟨⟨hs, hd, ho, Same.refl _, fun _ _ h => h, fun _ _ _ h _ => h, fun _ _ _ _ h => ⟨_, h⟩⟩, rfl, rfl, Gr.refl, by unfold L2.start startR; simp [hl], fun i x e => ?_, fun i j a ds y _ e _ _ _ _ => ?_⟩
  · obtain ⟨v, e1, e2⟩ := vrs_get w (get i x e)
    refine ⟨v, ?_, ?_⟩
    · unfold L2.start
      have hi : i < vs.length := (List.getElem?_eq_some_iff.mp e1).1
      rw [List.getElem?_append_left (by simpa using hi), List.getElem?_map, e1]; rfl
    · cases x with
      | mt ds => exact e2.elim
      | dat d => exact e2
      | vw ds => exact e2
      | deck _ => exact e2
      | md _ _ => exact e2.elim
  · obtain ⟨v, e1, e2⟩ := vrs_get w (get i _ e)
    exact e2.elim
/-- THE RULE for a def: its body over data -/
theorem fnd {P : Program} {w : World} {K : PySem.W.Frag} {mg : Str → Option Value} {base : Heap} {x qual : Str} {st : Stmt} {f : Addr} {fd : FuncData} {N ps : List Str} {k : Nat} (c : DSpec) (F : Fun K x qual st f fd) (S : FnScope N ps (defScope st))
    (hb : ∀ (cdv : Value) (A : Around) (outer : List Env) (s : Shared) (H : Hp), A.guards = some [] → Room k (A.deeper (envOfC qual (defScope st) s.heap.objs.size f cdv)) → ∀ Y : Fx,
      ∃ t, DSs Y (cxOf CX0 P w K mg base N qual (defScope st) f cdv A outer s H E0).nox (defBody st) t ∧ ∀ as n R, as.length = ps.length → c as n R → t { nx := fun _ n' => R .none n', rt := R } (startR N as) n) : FnG P w K mg base (k + 1) f fd ps (spD K ps.length c) := by
  refine fng_of F S (fun vs H Q E ⟨δ, Fz, as, n, R, hl, w1, _⟩ => by rw [← Paired.length w1]; exact hl) fun cdv A outer s H vs Q hgd hr ⟨δ, Fz, as, n, R, hl, w1, s1, d1, o1, hc, hk⟩ => ?_
  obtain ⟨t, h1, h2⟩ := hb cdv A outer s H hgd hr ⟨Fz, H, δ⟩
  refine ⟨_, h1, ⟨Fz, H, δ⟩, Fz, startR N as, n, _, sr_start w1 s1 d1 o1, h2 as n R hl hc, ⟨fun F' H' σ' ρ' n' q r' => hk _ _ _ _ _ q (Base.gr o1 r'.b) r'.b.sub r'.b.dk (by simp [Rp]), fun d n' F' H' v q b q2 => hk _ _ _ _ _ q (Base.gr o1 b) b.sub b.dk q2, fun _ _ _ _ _ q _ => q.elim, fun _ _ _ _ _ q _ => q.elim⟩⟩
end DL
namespace DL
open PySem PySem.Spec PyProof.Rows L2
variable {X : Cx} {Y : Fx}
mutual
def sz : PyData → Nat
  | .none => 4
  | .bool _ => 5
  | .int i => i.natAbs.log2 + 4
  | .str s => 10 * s.length + 2
  | .list ds => szs ds + 3
  | .tuple ds => szs ds + 3
  | .dict kvs => szk kvs + 3
def szs : List PyData → Nat
  | [] => 0
  | d :: ds => sz d + 2 + szs ds
def szk : List (PyData × PyData) → Nat
  | [] => 0
  | (a, b) :: r => sz a + sz b + 4 + szk r
end
theorem slen_append (a b : Str) : (a ++ b).length = a.length + b.length := strLen_append a b
theorem textFrom_le : ∀ (ts : List Str) (k : Nat) (acc : Str), (textFrom k acc ts).length ≤ acc.length + (ts.map fun t => t.length + 2).sum
  | [], k, acc => by show acc.length ≤ _; simp
  | t :: r, k, acc => by
    have h := textFrom_le r (k + 1) (acc ++ (if k > 0 then ", " else "" : String) ++ t)
    have e : (acc ++ (if k > 0 then ", " else "" : String) ++ t).length ≤ acc.length + 2 + t.length := by
      rw [slen_append, slen_append]
      by_cases hk : k > 0
      · rw [if_pos hk]; exact Nat.le_of_eq rfl
      · rw [if_neg hk]; show acc.length + 0 + t.length ≤ _; omega
    show (textFrom (k + 1) (acc ++ (if k > 0 then ", " else "" : String) ++ t) r).length ≤ _
    simp only [List.map_cons, List.sum_cons]
    omega
theorem piled_le (ts : List Str) : piled ts = (ts.map fun t => t.length + 2).sum := by
  unfold piled
  induction ts with
  | nil => rfl
  | cons t r ih => simp [List.map_cons, List.sum_cons] at ih ⊢ <;> omega
theorem join_le (ts : List Str) : (Str.join ", " ts).length ≤ (ts.map fun t => t.length + 2).sum := by
  by_cases h : ts = []
  · subst h; exact Nat.le_refl 0
  · have := join_length_add ts h
    rw [piled_le] at this
    omega
theorem tupleText_le (ts : List Str) : (tupleText ts).length ≤ 3 + (ts.map fun t => t.length + 2).sum := by
  unfold tupleText
  rw [slen_append, slen_append]
  have h := join_le ts
  have h1 : (("(" : String) : Str).length = 1 := rfl
  split
  · have : ((",)" : String) : Str).length = 2 := rfl
    omega
  · have : ((")" : String) : Str).length = 1 := rfl
    omega
theorem listText_le (ts : List Str) : (listText ts).length ≤ 3 + (ts.map fun t => t.length + 2).sum := by
  unfold listText
  rw [slen_append]
  have h := textFrom_le ts 0 "["
  have h1 : (("[" : String) : Str).length = 1 := rfl
  have h2 : (("]" : String) : Str).length = 1 := rfl
  omega
theorem int_text_le (i : Int) : (Str.ofString (toString i)).length ≤ i.natAbs.log2 + 4 := by
  rw [PySem.ofString_length]
  have := PySem.int_text_length_le (a := i) (k := i.natAbs.log2 + 1) (by omega) (by omega)
  omega
mutual
theorem shown_le : ∀ d : PyData, d.canLay0 = true → d.shown.length ≤ sz d
  | .none, _ => by simp only [PyData.shown, sz]; decide
  | .bool b, _ => by cases b <;> (simp only [PyData.shown, sz]; decide)
  | .int i, _ => by simp only [PyData.shown, sz]; exact int_text_le i
  | .str s, h => by
    simp only [PyData.shown, sz]
    simp only [PyData.canLay0, PyData.strOk, Array.all_eq_true'] at h
    exact PySem.StrLaws.reprText_len s fun c hc => by
      have q := h c (by simpa using hc)
      simp at q; omega
  | .list ds, h => by
    simp only [PyData.shown, sz]
    have := shownAll_le ds (by simpa only [PyData.canLay0] using h)
    have := listText_le (PyData.shownAll ds)
    omega
  | .tuple ds, h => by
    simp only [PyData.shown, sz]
    have := shownAll_le ds (by simpa only [PyData.canLay0] using h)
    have := tupleText_le (PyData.shownAll ds)
    omega
  | .dict _, h => by simp [PyData.canLay0] at h
theorem shownAll_le : ∀ ds : List PyData, PyData.canLayAll0 ds = true → ((PyData.shownAll ds).map fun t => t.length + 2).sum ≤ szs ds
  | [], _ => by simp [PyData.shownAll, szs]
  | d :: ds, h => by
    simp only [PyData.canLayAll0, Bool.and_eq_true] at h
    have h1 := shown_le d h.1
    have h2 := shownAll_le ds h.2
    simp only [PyData.shownAll, szs, List.map_cons, List.sum_cons]
    omega
end
/-- what may be shown and compared -/
structure Tame (m k : Nat) (d : PyData) : Prop where
  sh : d.showable = true
  cl : d.canLay0 = true
  dp : d.depth ≤ k
  le : sz d ≤ m
theorem Tame.mono {m k m' k' : Nat} {d : PyData} (h : Tame m k d) (h1 : m ≤ m') (h2 : k ≤ k') : Tame m' k' d := ⟨h.sh, h.cl, Nat.le_trans h.dp h2, Nat.le_trans h.le h1⟩
theorem Tame.shaped {m k : Nat} {d : PyData} (h : Tame m k d) (hk : k ≤ 64) : Sh d := by
  unfold Sh SeqAt.shaped
  rw [Bool.and_eq_true]
  exact ⟨h.cl, decide_eq_true (Nat.le_trans h.dp hk)⟩
theorem tame_int {i : Int} {m : Nat} (h : i.natAbs < 2 ^ m) (hm : m ≤ 1000) (h0 : 0 < m) : Tame (m + 3) 0 (.int i) := by
  have hl : i.natAbs.log2 < m := by
    by_cases q : i.natAbs = 0
    · rw [q]; simpa using h0
    · exact (Nat.log2_lt q).mpr h
  exact ⟨by simp only [PyData.showable]; exact decide_eq_true (by omega), rfl, Nat.zero_le _, by simp only [sz]; omega⟩
theorem tame_str {s : Str} (h : PyData.strOk s = true) : Tame (10 * s.length + 2) 0 (.str s) := ⟨rfl, h, Nat.le_refl _, Nat.le_refl _⟩
theorem szs_le {m : Nat} : ∀ {ds : List PyData}, (∀ d ∈ ds, sz d ≤ m) → szs ds ≤ ds.length * (m + 2)
  | [], _ => by simp [szs]
  | d :: ds, h => by
    have h1 := h d (by simp)
    have h2 := szs_le (ds := ds) fun e he => h e (by simp [he])
    simp only [szs, List.length_cons, Nat.add_mul]
    omega
theorem canAll {ds : List PyData} (h : ∀ d ∈ ds, d.canLay0 = true) : PyData.canLayAll0 ds = true := by
  induction ds with
  | nil => rfl
  | cons d ds ih => simp only [PyData.canLayAll0, Bool.and_eq_true]; exact ⟨h d (by simp), ih fun e he => h e (by simp [he])⟩
theorem showAll {ds : List PyData} (h : ∀ d ∈ ds, d.showable = true) : PyData.showableAll ds = true := by
  induction ds with
  | nil => rfl
  | cons d ds ih => simp only [PyData.showableAll, Bool.and_eq_true]; exact ⟨h d (by simp), ih fun e he => h e (by simp [he])⟩
theorem depthAll_le {k : Nat} {ds : List PyData} (h : ∀ d ∈ ds, d.depth ≤ k) : PyData.depthAll ds ≤ k := by
  induction ds with
  | nil => exact Nat.zero_le _
  | cons d ds ih => simp only [PyData.depthAll]; exact Nat.max_le.mpr ⟨h d (by simp), ih fun e he => h e (by simp [he])⟩
theorem tame_tuple {m k l : Nat} {ds : List PyData} (h : ∀ d ∈ ds, Tame m k d) (hl : ds.length ≤ l) : Tame (l * (m + 2) + 3) (k + 1) (.tuple ds) :=
  ⟨by simp only [PyData.showable]; exact showAll fun d hd => (h d hd).sh, by simp only [PyData.canLay0]; exact canAll fun d hd => (h d hd).cl, by simp only [PyData.depth]; exact Nat.succ_le_succ (depthAll_le fun d hd => (h d hd).dp), by
    simp only [sz]
    have := szs_le fun d hd => (h d hd).le
    have := Nat.mul_le_mul_right (m + 2) hl
    omega⟩
theorem tame_list {m k l : Nat} {ds : List PyData} (h : ∀ d ∈ ds, Tame m k d) (hl : ds.length ≤ l) : Tame (l * (m + 2) + 3) (k + 1) (.list ds) :=
  ⟨by simp only [PyData.showable]; exact showAll fun d hd => (h d hd).sh, by simp only [PyData.canLay0]; exact canAll fun d hd => (h d hd).cl, by simp only [PyData.depth]; exact Nat.succ_le_succ (depthAll_le fun d hd => (h d hd).dp), by
    simp only [sz]
    have := szs_le fun d hd => (h d hd).le
    have := Nat.mul_le_mul_right (m + 2) hl
    omega⟩
theorem tame_ints {ns : List Int} {m : Nat} (h : ∀ n ∈ ns, n.natAbs < 2 ^ m) (hm : m ≤ 1000) (h0 : 0 < m) : ∀ d ∈ ns.map PyData.int, Tame (m + 3) 0 d := fun d hd => by
  obtain ⟨n, hn, rfl⟩ := List.mem_map.mp hd
  exact tame_int (h n hn) hm h0
def tyD : PyData → String
  | .none => "NoneType"
  | .bool _ => "bool"
  | .int _ => "int"
  | .str _ => "str"
  | .list _ => "list"
  | .tuple _ => "tuple"
  | .dict _ => "dict"
def isiB (s t : String) : Bool := s == t || (s == "bool" && t == "int")
theorem tyD_of {K : PySem.W.Frag} {H : Hp} {d : PyData} {v : V} (h : Rp K H d v) (hn : isRefD d = false) : TyX K H v (.type (tyD d)) := by
  cases d <;> simp only [Rp] at h
  case none => subst h; exact .base .non
  case bool => subst h; exact .base (.bl _)
  case int => subst h; exact .base (.int _)
  case str => subst h; exact .base (.str _)
  case list => obtain ⟨a, xs, rfl, h1, _⟩ := h; exact .base (.lst h1)
  case tuple => obtain ⟨a, xs, rfl, h1, _⟩ := h; exact h1.elim (fun h => .base (.tup h)) fun ⟨o, q⟩ => .fTuple q
  case dict =>
    rcases h with ⟨a, xs, rfl, h1, _⟩ | ⟨a, e, rfl⟩ | ⟨_, _, _, e, _⟩
    · exact .base (.dK h1)
    · rw [e] at hn; cases hn
    · rw [e] at hn; cases hn
def isTy (t : String) : Prop := t = "int" ∨ t = "bool" ∨ t = "str" ∨ t = "tuple" ∨ t = "list"
theorem kit_isi {K : PySem.W.Frag} {t : String} (h : isTy t) (d : PyData) : PySem.W.kitOne K (.type (tyD d)) (.type t) = some (isiB (tyD d) t) := by
  rcases h with rfl | rfl | rfl | rfl | rfl <;> cases d <;> (simp only [tyD]; exact kit_ty (by decide +kernel))
def isDR (x : Dv) : Bool := x.isDk || isRefD x.toD
theorem isDR_dk {x : Dv} (h : isDR x = false) : x.isDk = false := (Bool.or_eq_false_iff.mp h).1
theorem isDR_rf {x : Dv} (h : isDR x = false) : isRefD x.toD = false := (Bool.or_eq_false_iff.mp h).2
def oIsi (t : String) (x : Dv) (R : PyData → Prop) : Prop := isDR x = false ∧ R (.bool (isiB (tyD x.toD) t))
theorem we_isi {e : Expr} {t : DTE} {T : String} {y : Str} {p p2 pos : Pos} (hT : isTy T) (hg : Gl X "isinstance") (hm : X.mg "isinstance" = none) (he : WE Y X e t) (hgT : Gl X y) (hmT : X.mg y = none) (hv : bootBuiltins y = some (.type T)) (hn : y ≠ "__name__" := by decide) (hdb : (y == ("__debug__" : Str)) = false := by decide)
    (h1 : starEach [e, .Name y p2] X.env = (false, eval e X.env) :: starEach [.Name y p2] X.env := by rfl) (h2 : starEach [.Name y p2] X.env = (false, eval (.Name y p2) X.env) :: starEach [] X.env := by rfl) (hpl : (backTo pos (starEach [.Name y p2] X.env)).any (·.1) = false := by rfl) :
    WE Y X (.Call (.Name "isinstance" p) [e, .Name y p2] [] pos) (dUn (oIsi T) t) :=
  pe_imp (pe_callB call_isi hg hm PyProof.Rows.boot_isinstance (pa_cons he (pa_cons (pe_bltn (v := .ty T) hgT hmT hv rfl hn hdb) pa_nil h2) h1) (by decide) (by decide) h1 hpl)
    (one (r := fun x H1 Q => rIsi X.K [x, .ty T] H1 Q) fun δ F H x v R Q hs hx ⟨hd, hr⟩ b => ⟨v, .ty T, _, _, _, rfl, .ty T, tyD_of (hx.rp hs (isDR_dk hd)) (isDR_rf hd), kit_isi hT _, b.bl hs hr⟩)
end DL
namespace DL
open PySem PySem.Spec PyProof.Rows L2
variable {X : Cx} {Y : Fx}
section
variable {prog : Program} {w : World} {A : Around} {E : Value → Shared → Prop} {s : Shared} {l : Addr} {its : List Value} {ns : List Int} {xs : Array (Int × Tok)} {Q : Value → Shared → Prop}
theorem iter_tupI {Q : Value → Shared → Prop} (hl : s.heap.IsTuple l (intItems xs))
    (h : ∀ s₂ : Shared, s₂ = { s with heap := s.heap.push { cls := .type "tuple_iterator", data := .fields #[.ref l, .int 0 0] } } →
      (s₂.heap.IsTupleIter s.heap.objs.size l 0 ∧ s₂.heap.IsTuple l (intItems xs)) → (∀ b ∈ [s.heap.objs.size, l], b < s₂.heap.objs.size) → l ≠ s.heap.objs.size → Q (.ref s.heap.objs.size) s₂) :
    wpAny (model prog w) A (pyIter (.ref l)) Q E s := by
  obtain ⟨o, e1, e2⟩ := id hl
  have hlt : l < s.heap.objs.size := Heap.lt_size e1
  refine wpAny_pyIter_tuple hl (h _ rfl ⟨⟨_, Heap.get?_push_size _ rfl, rfl, rfl⟩, ⟨o, Heap.get?_push_of_some _ e1, e2⟩⟩ (fun b hb => ?_) (Nat.ne_of_lt hlt))
  have hsz : ∀ (o : Obj), (s.heap.push o).objs.size = s.heap.objs.size + 1 := fun o => Heap.size_push _ _
  rw [hsz]
  rcases List.mem_cons.mp hb with e | hb
  · rw [e]; exact Nat.lt_succ_self _
  · rw [List.mem_singleton.mp hb]; exact Nat.lt_succ_of_lt hlt
theorem kept_tup {h' : Heap} (hk : ∀ b o, b ∉ [s.heap.objs.size] → (s.heap.push { cls := .type "tuple_iterator", data := .fields #[.ref l, .int 0 0] }).get? b = some o → h'.get? b = some o) :
    ∀ b o, s.heap.get? b = some o → h'.get? b = some o := fun b o e => by
  refine hk b o (fun hm => ?_) (Heap.get?_push_of_some _ e)
  have q := Heap.lt_size e
  rw [List.mem_singleton.mp hm] at q
  exact absurd q (Nat.lt_irrefl _)
theorem sum_tupI (hh : A.handled = none) (hl : s.heap.IsTuple l its.toArray) (hi : IntsAre its ns)
    (h : ∀ h' tk t', (∀ b o, s.heap.get? b = some o → h'.get? b = some o) → Q (.int ns.sum t') { s with heap := h', toks := tk }) : wpAny (model prog w) A (call (.builtin "sum") [.ref l]) Q E s := by
  obtain ⟨xs, e⟩ := hi.allInts.items
  have hn : numsOf (intItems xs).toList = ns := by rw [← e]; exact hi.numsOf
  rw [nums_intItems] at hn
  rw [e] at hl
  refine call_sum_walkG (iter_tupI hl fun s₂ e st hfp hlI => ?_)
  subst e
  refine ⟨_, _, _, _, _, _, numAt xs, rfl, Walks.tuple (A := A.in1) hh _ l hlI (intItems xs), st, hfp, (fun _ _ => intItems_at), fun h' tk t' hk => ?_⟩
  have q := h h' tk t' (kept_tup hk)
  have e2 : preSum (numAt xs) xs.size = ns.sum := by rw [preSum_eq, List.take_of_length_le (by simp), hn]
  rw [← e2] at q
  simpa [intItems] using q
theorem max_tupI (hh : A.handled = none) (hl : s.heap.IsTuple l its.toArray) (hi : IntsAre its ns) (hne : 0 < ns.length)
    (h : ∀ h' tk M t', (∀ b o, s.heap.get? b = some o → h'.get? b = some o) → M ∈ ns → (∀ a, a ∈ ns → a ≤ M) → Q (.int M t') { s with heap := h', toks := tk }) : wpAny (model prog w) A (call (.builtin "max") [.ref l]) Q E s := by
  obtain ⟨xs, e⟩ := hi.allInts.items
  have hn : numsOf (intItems xs).toList = ns := by rw [← e]; exact hi.numsOf
  rw [nums_intItems] at hn
  subst hn
  rw [e] at hl
  have hsz : 0 < xs.size := by simpa using hne
  refine call_max_walk (iter_tupI hl fun s₂ e st hfp hlI => ?_)
  subst e
  refine ⟨_, _, _, _, _, _, _, rfl, Walks.tuple (A := A.in1) hh _ l hlI (intItems xs), st, hfp, by simpa [intItems] using hsz, CmpOf.ints_gt (numAt xs) (fun _ _ => intItems_at), fun v h' tk hP hk => ?_⟩
  have hv : (intItems xs)[argBest (fun i j => decide (numAt xs i > numAt xs j)) (xs.size - 1)]? = some v := by simpa [intItems] using hP
  obtain ⟨t, rfl⟩ := intItems_at hv
  obtain ⟨h1, h2⟩ := argBest_gt (numAt xs) (xs.size - 1)
  refine h h' tk _ t (kept_tup hk) ?_ fun a ha => ?_
  · rw [numAt_eq]; exact PySem.getD_mem (by rw [List.length_map, Array.length_toList]; omega)
  · obtain ⟨j, hj, rfl⟩ := mem_getD ha
    rw [List.length_map, Array.length_toList] at hj
    rw [← numAt_eq]; exact h2 j (by omega)
theorem min_tupI (hh : A.handled = none) (hl : s.heap.IsTuple l its.toArray) (hi : IntsAre its ns) (hne : 0 < ns.length)
    (h : ∀ h' tk M t', (∀ b o, s.heap.get? b = some o → h'.get? b = some o) → M ∈ ns → (∀ a, a ∈ ns → M ≤ a) → Q (.int M t') { s with heap := h', toks := tk }) : wpAny (model prog w) A (call (.builtin "min") [.ref l]) Q E s := by
  obtain ⟨xs, e⟩ := hi.allInts.items
  have hn : numsOf (intItems xs).toList = ns := by rw [← e]; exact hi.numsOf
  rw [nums_intItems] at hn
  subst hn
  rw [e] at hl
  have hsz : 0 < xs.size := by simpa using hne
  refine call_min_walk (iter_tupI hl fun s₂ e st hfp hlI => ?_)
  subst e
  refine ⟨_, _, _, _, _, _, _, rfl, Walks.tuple (A := A.in1) hh _ l hlI (intItems xs), st, hfp, by simpa [intItems] using hsz, CmpOf.ints_lt (numAt xs) (fun _ _ => intItems_at), fun v h' tk hP hk => ?_⟩
  have hv : (intItems xs)[argBest (fun i j => decide (numAt xs i < numAt xs j)) (xs.size - 1)]? = some v := by simpa [intItems] using hP
  obtain ⟨t, rfl⟩ := intItems_at hv
  obtain ⟨h1, h2⟩ := argBest_lt (numAt xs) (xs.size - 1)
  refine h h' tk _ t (kept_tup hk) ?_ fun a ha => ?_
  · rw [numAt_eq]; exact PySem.getD_mem (by rw [List.length_map, Array.length_toList]; omega)
  · obtain ⟨j, hj, rfl⟩ := mem_getD ha
    rw [List.length_map, Array.length_toList] at hj
    rw [← numAt_eq]; exact h2 j (by omega)
end
section
def rSumA (H : Hp) (vs : List V) (Q : VK) : Prop := ∃ (a : Addr) (ns : List Int), vs = [V.ref a] ∧ (H a = some (.lst (ns.map V.int)) ∨ Rd H a (.tup (ns.map V.int))) ∧ Q (.int ns.sum) H
theorem call_sumA (hc : X.calm = true) : CallR X (.builtin "sum") (fun vs H Q => rSumA H vs Q) := by
  intro pins s σ H vs us Q I r ⟨a, ns, e, hs, q⟩
  subst e
  rw [Vals.ref1 r]
  rcases hs with hs | hs
  · obtain ⟨its, rv, hl, _⟩ := I.list (SqL.of hs)
    exact sum_raw (I.ok.hd hc) hl.isList rv.ints fun h' tk t' hk => ⟨.int _, H, I.kept hk, ⟨_, rfl⟩, q⟩
  · obtain ⟨its, rv, hl, _⟩ := I.tuple (sqtR hs)
    exact sum_tupI (I.ok.hd hc) (show s.heap.IsTuple a its.toArray from hl) rv.ints fun h' tk t' hk => ⟨.int _, H, I.kept hk, ⟨_, rfl⟩, q⟩
def rBest (ge : Int → Int → Prop) (H : Hp) (vs : List V) (Q : VK) : Prop := ∃ (a : Addr) (ns : List Int), vs = [V.ref a] ∧ (H a = some (.lst (ns.map V.int)) ∨ Rd H a (.tup (ns.map V.int))) ∧ 0 < ns.length ∧ ∀ m, m ∈ ns → (∀ y, y ∈ ns → ge m y) → Q (.int m) H
def rMax2 (H : Hp) (vs : List V) (Q : VK) : Prop := (∃ i j, vs = [V.int i, V.int j] ∧ Q (.int (if j > i then j else i)) H) ∨ rBest (fun m y => y ≤ m) H vs Q
def rMin2 (H : Hp) (vs : List V) (Q : VK) : Prop := (∃ i j, vs = [V.int i, V.int j] ∧ Q (.int (if j < i then j else i)) H) ∨ rBest (fun m y => m ≤ y) H vs Q
theorem call_maxA (hc : X.calm = true) : CallR X (.builtin "max") (fun vs H Q => rMax2 H vs Q) := by
  refine CallR.or (call_max2 hc) ?_
  intro pins s σ H vs us Q I r ⟨a, ns, e, hs, hne, q⟩
  subst e
  rw [Vals.ref1 r]
  rcases hs with hs | hs
  · obtain ⟨its, rv, hl, _⟩ := I.list (SqL.of hs)
    exact max_raw (I.ok.hd hc) hl.isList rv.ints hne fun h' tk m t' hk h1 h2 => ⟨.int _, H, I.kept hk, ⟨_, rfl⟩, q m h1 h2⟩
  · obtain ⟨its, rv, hl, _⟩ := I.tuple (sqtR hs)
    exact max_tupI (I.ok.hd hc) (show s.heap.IsTuple a its.toArray from hl) rv.ints hne fun h' tk m t' hk h1 h2 => ⟨.int _, H, I.kept hk, ⟨_, rfl⟩, q m h1 h2⟩
theorem call_minA (hc : X.calm = true) : CallR X (.builtin "min") (fun vs H Q => rMin2 H vs Q) := by
  refine CallR.or (call_min2 hc) ?_
  intro pins s σ H vs us Q I r ⟨a, ns, e, hs, hne, q⟩
  subst e
  rw [Vals.ref1 r]
  rcases hs with hs | hs
  · obtain ⟨its, rv, hl, _⟩ := I.list (SqL.of hs)
    exact min_raw (I.ok.hd hc) hl.isList rv.ints hne fun h' tk m t' hk h1 h2 => ⟨.int _, H, I.kept hk, ⟨_, rfl⟩, q m h1 h2⟩
  · obtain ⟨its, rv, hl, _⟩ := I.tuple (sqtR hs)
    exact min_tupI (I.ok.hd hc) (show s.heap.IsTuple a its.toArray from hl) rv.ints hne fun h' tk m t' hk h1 h2 => ⟨.int _, H, I.kept hk, ⟨_, rfl⟩, q m h1 h2⟩
variable {K : PySem.W.Frag}
theorem seq_ints {δ : DkS} {F H : Hp} {x : Dv} {v : V} {ns : List Int} (hs : Same F H) (h : VR K δ F H x v) (e : seqD x.toD = some (ns.map .int)) : ∃ a, v = .ref a ∧ (H a = some (.lst (ns.map V.int)) ∨ Rd H a (.tup (ns.map V.int))) := by
  obtain ⟨a, us, rfl, h2, h3⟩ := h.seq hs e
  rw [h3.ints] at h2
  exact ⟨a, rfl, h2⟩
theorem ck_sum : CallOk K (fun vs H Q => rSumA H vs Q) oSum := fun δ F H xs vs R Q hs hv ⟨x, ns, e, e2, hr⟩ b => by
  subst e
  obtain ⟨v, rfl, h1⟩ := vr1 hv
  obtain ⟨a, rfl, h2⟩ := seq_ints hs h1 e2
  exact ⟨a, ns, rfl, h2, b.int hs hr⟩
def oMax : DC := fun xs R => match xs with
  | [.dat (.int i), .dat (.int j)] => R (.int (if j > i then j else i))
  | [x] => ∃ ns : List Int, seqD x.toD = some (ns.map .int) ∧ 0 < ns.length ∧ ∀ m, m ∈ ns → (∀ y, y ∈ ns → y ≤ m) → R (.int m)
  | _ => False
def oMin : DC := fun xs R => match xs with
  | [.dat (.int i), .dat (.int j)] => R (.int (if j < i then j else i))
  | [x] => ∃ ns : List Int, seqD x.toD = some (ns.map .int) ∧ 0 < ns.length ∧ ∀ m, m ∈ ns → (∀ y, y ∈ ns → m ≤ y) → R (.int m)
  | _ => False
theorem ck_max : CallOk K (fun vs H Q => rMax2 H vs Q) oMax := fun δ F H xs vs R Q hs hv h b => by
  unfold oMax at h
  split at h
  · exact .inl ⟨_, _, vrs2 hv, b.int hs h⟩
  · obtain ⟨ns, e2, hne, hr⟩ := h
    obtain ⟨v, rfl, h1⟩ := vr1 hv
    obtain ⟨a, rfl, h2⟩ := seq_ints hs h1 e2
    exact .inr ⟨a, ns, rfl, h2, hne, fun m k1 k2 => b.int hs (hr m k1 k2)⟩
  · exact h.elim
theorem ck_min : CallOk K (fun vs H Q => rMin2 H vs Q) oMin := fun δ F H xs vs R Q hs hv h b => by
  unfold oMin at h
  split at h
  · exact .inl ⟨_, _, vrs2 hv, b.int hs h⟩
  · obtain ⟨ns, e2, hne, hr⟩ := h
    obtain ⟨v, rfl, h1⟩ := vr1 hv
    obtain ⟨a, rfl, h2⟩ := seq_ints hs h1 e2
    exact .inr ⟨a, ns, rfl, h2, hne, fun m k1 k2 => b.int hs (hr m k1 k2)⟩
  · exact h.elim
end
def oEqA (neg : Bool) : D2 := fun x y R =>
  match x.toD, y.toD with
  | .str s, .str t => R (.bool (if neg then !decide (s = t) else decide (s = t)))
  | d, e => x.isDk = false ∧ y.isDk = false ∧ Sh d ∧ Sh e ∧ R (.bool (if neg then !PyData.eqv d e else PyData.eqv d e))
theorem or_eqA (hu : X.A.units + 64 < cLine) : OpR X (compareOp .Eq) (fun x y H Q => rEqD X.K x y H Q ∨ rEq x y H Q) := OpR.or (op_eqD hu) op_eq
theorem or_neA (hu : X.A.units + 64 < cLine) : OpR X (compareOp .NotEq) (fun x y H Q => rNeD X.K x y H Q ∨ rNe x y H Q) := OpR.or (op_neD hu) op_ne
section
variable {K : PySem.W.Frag}
theorem VR.str {δ : DkS} {F H : Hp} {x : Dv} {v : V} {s : Str} (hs : Same F H) (h : VR K δ F H x v) (e : x.toD = .str s) : v = .str s := by
  have r := h.rp hs (notDeck_of e nofun)
  rw [e] at r
  simpa only [Rp] using r
theorem bi_eqA : BinOk K (fun x y H Q => rEqD K x y H Q ∨ rEq x y H Q) (oEqA false) := fun δ F H x y v u R Q hs hx hy h b => by
  unfold oEqA at h
  split at h
  · rename_i s t e1 e2
    have r1 := hx.str hs e1; have r2 := hy.str hs e2
    subst r1 r2
    refine .inr ⟨rfl, b.bl hs ?_⟩
    have e : decide (V.str s = V.str t) = decide (s = t) := by
      by_cases q : s = t
      · subst q; simp
      · rw [decide_eq_false q, decide_eq_false fun z => q (V.str.inj z)]
    rw [e]; exact h
  · exact .inl (bi_eq δ F H x y v u R Q hs hx hy h b)
theorem bi_neA : BinOk K (fun x y H Q => rNeD K x y H Q ∨ rNe x y H Q) (oEqA true) := fun δ F H x y v u R Q hs hx hy h b => by
  unfold oEqA at h
  split at h
  · rename_i s t e1 e2
    have r1 := hx.str hs e1; have r2 := hy.str hs e2
    subst r1 r2
    refine .inr ⟨rfl, b.bl hs ?_⟩
    have e : decide (V.str s = V.str t) = decide (s = t) := by
      by_cases q : s = t
      · subst q; simp
      · rw [decide_eq_false q, decide_eq_false fun z => q (V.str.inj z)]
    rw [e]; exact h
  · exact .inl (bi_ne δ F H x y v u R Q hs hx hy h b)
end
end DL
namespace DL
open PySem PySem.Spec PyProof.Rows L2
/-- at the law's entry only the script may be tracked, as a thing that nobody writes -/
def entryH (K : PySem.W.Frag) (a : Addr) (o : Obj) (vs : List V) : Hp := fun b => if b = a ∧ K.lookup a = none then some (.frz o (.lst vs)) else none
theorem entry_some {K : PySem.W.Frag} {a b : Addr} {o : Obj} {vs : List V} {u : HO} (h : entryH K a o vs b = some u) : b = a ∧ K.lookup a = none ∧ u = .frz o (.lst vs) := by
  unfold entryH at h
  by_cases q : b = a ∧ K.lookup a = none
  · rw [if_pos q] at h; cases h; exact ⟨q.1, q.2, rfl⟩
  · rw [if_neg q] at h; cases h
theorem entry_none {K : PySem.W.Frag} {a b : Addr} {o : Obj} {vs : List V} (h : b ≠ a) : entryH K a o vs b = none := if_neg fun q => h q.1
def spLaw (K : PySem.W.Frag) : Sp := fun vs H Q _ => ∃ (a : Addr) (ns : List Int), vs = [.ref a] ∧ SqL K H a (ns.map V.int) ∧ ns.length ≤ 63 ∧ (∀ b, H b = none ∨ ∃ o xs, H b = some (.frz o (.lst xs))) ∧ ∀ H', Q (.bl true) H'
theorem law_g {P : Program} {w : World} {K : PySem.W.Frag} {mg mb : Str → Option Value} {k : Nat} {fa a : Addr} {fd : FuncData} {x : Str} {s₁ : Shared} {vs : List Value} {ns : List Int}
    (KX : K.In s₁.heap) (hns : s₁.heap.Ns mainGlobals mg) (hb : s₁.heap.Ns builtinsNs mb) (hbb : ∀ x : Str, x ≠ "__name__" → mb x = bootBuiltins x) (hlim : s₁.heap.NoLimit) (hg : s₁.gens = #[])
    (ha : s₁.heap.get? a = some { cls := .type "list", data := .seq vs.toArray }) (hi : IntsAre vs ns) (hl : ns.length ≤ 63) (hr : Room k callerA)
    (F : ∀ base : Heap, K.In base → base.Ns mainGlobals mg → FnG P w K mg base k fa fd [x] (spLaw K)) (hbind : ∀ (s : Shared) (u : Value), BindsTo s fd ⟨[u], []⟩ [(x, u)]) :
    codeAny (model P w) callerA (.call (.ref fa) ⟨[.ref a], []⟩) (fun r s' => r = .ok (.ret (.bool true)) ∧ PySem.OldK s₁.heap s'.heap ∧ s'.os = s₁.os ∧ AllBare s'.gens) s₁ := by
  let ob : Obj := { cls := .type "list", data := .seq vs.toArray }
  let H := entryH K a ob (ns.map V.int)
  have rv := vals_ints hi
  have hl2 : ns.length ≤ sizeLine := Nat.le_trans hl (by decide)
  have only : ∀ b, H b = none ∨ ∃ o xs, H b = some (.frz o (.lst xs)) := fun b => by
    cases q : H b with
    | none => exact .inl rfl
    | some u => obtain ⟨_, _, rfl⟩ := entry_some q; exact .inr ⟨_, _, rfl⟩
  have script : SqL K H a (ns.map V.int) := by
    cases q : K.lookup a with
    | none => exact .inl (.inr ⟨ob, if_pos ⟨rfl, q⟩⟩)
    | some o =>
      have e := KX a o q
      rw [ha] at e
      cases e
      exact .inr ⟨_, vs.toArray, _, q, rfl, rfl, rfl, by rw [List.size_toArray, hi.length]; exact hl2, by simpa using rv⟩
  have hok : HOk P w H s₁.heap := fun b u q => by
    obtain ⟨rfl, _, rfl⟩ := entry_some q
    exact ⟨ha, by rw [List.length_map]; exact hl2, vs, _, rv, ha⟩
  have keepB : ∀ {b : Addr} {o : Obj}, s₁.heap.get? b = some o → H b = none → (hidT s₁.heap H).get? b = some o := fun e n => hidT_get e n
  have keepN : ∀ {b : Addr} {m : Str → Option Value}, s₁.heap.Ns b m → (hidT s₁.heap H).Ns b m := fun {b m} ⟨o, es, ep, e, d, r⟩ => by
    refine ⟨o, es, ep, keepB e (entry_none fun q => ?_), d, r⟩
    subst q
    rw [ha] at e; cases e; cases d
  have keepK : K.In (hidT s₁.heap H) := fun b o e => keepB (KX b o e) (by
    cases q : H b with
    | none => rfl
    | some u =>
      obtain ⟨rfl, q2, _⟩ := entry_some q
      rw [q2] at e; cases e)
  have lim2 : (hidT s₁.heap H).NoLimit := by
    obtain ⟨mc, h1, h2⟩ := hlim
    exact ⟨mc, keepN h1, h2⟩
  have e0 : Env0 P w K mg (hidT s₁.heap H) callerA [] s₁ H := by
    refine ⟨rfl, ⟨keepK, keepN hns, ⟨mb, keepN hb, hbb⟩, lim2⟩, fun b o e => of_hidT e, Nat.le_of_eq (hidT_size _ _), trivial, fun b hm => ?_, hok, .of_eq hg⟩
    exact absurd (show b ∈ ([] : List Addr) from hm) (by simp)
  have run := (F _ keepK (keepN hns)).run callerA [] s₁ H ⟨[.ref a], []⟩ [.ref a] [.ref a] (fun v _ => v = .bl true) rfl hr e0 (hbind s₁ (.ref a)) (.cons rfl .nil) ⟨a, ns, rfl, script, hl, only, fun _ => rfl⟩
  refine codeAny_mono run fun r s' h => ?_
  match r, h with
  | .ok (.ret u), ⟨v, H', os, bare, un, hok', r', q⟩ =>
    have q' : v = .bl true := q
    subst q'
    obtain rfl : u = Value.bool true := r'
    refine ⟨rfl, PySem.OldK.of_keep fun b o e => ?_, os, bare⟩
    cases q : H b with
    | none => exact un.keep b o e q (fun z => absurd (show b ∈ ([] : List Addr) from z) (by simp)) (by simp)
    | some u =>
      obtain ⟨rfl, _, rfl⟩ := entry_some q
      have e2 := (hok' b _ (un.frzs b _ _ q)).1
      rw [ha] at e; cases e
      exact e2
/-- the goal that the head leaves -/
theorem walk_g {l : PySem.W.OpenLaw} {k : Nat} {q : Program} {loose : List Str} {XP : (Str → Option Value) → Heap → Prop} {YP : World → Heap → Prop} {d : DefRec} {K : Params → PySem.W.Frag} {x : Str}
    (hn : l.most = some 63) (hdf : d.params.defaults = []) (hr : Room k callerA) (hY : ∀ (w : World) (h : Heap), YP w h → (K w.params).In h)
    (F : ∀ (w : World) (mg : Str → Option Value) (fa : Addr) (h : Heap), (K w.params).In h → h.Ns mainGlobals mg → mg d.name = some (.ref fa) →
      ∃ fd : FuncData, (∀ (s : Shared) (u : Value), BindsTo s fd ⟨[u], []⟩ [(x, u)]) ∧ ∀ base : Heap, (K w.params).In base → base.Ns mainGlobals mg → FnG l.prog w (K w.params) mg base k fa fd [x] (spLaw (K w.params))) :
    PySem.W.WalkO q loose XP YP l.row.toRowW d [] (fun f vs => PySem.call f vs) :=
  Att.attach_call hn hdf fun w s₀ s₁ mg mb fa o pm cd doc a vs ns G Y ho hd hcd hmg hobj hints hlen hg => by
    have KX := hY w _ Y
    obtain ⟨fd, hb, hF⟩ := F w mg fa _ KX G.T.g hmg
    exact law_g KX G.T.g G.T.b G.T.builtins G.T.nolimit hg hobj hints hlen hr hF hb
end DL
namespace DL
open PySem PySem.Spec PyProof.Rows L2
variable {X : Cx} {Y : Fx}
def oNeg (x : Dv) (R : PyData → Prop) : Prop :=
  match x with
  | .dat (.int i) => R (.int (-i))
  | _ => False
theorem we_neg {a : Expr} {t : DTE} {pos : Pos} (ha : WE Y X a t) : WE Y X (.UnaryOp .USub a pos) (dUn oNeg t) :=
  pe_imp (pe_un un_neg ha) (one (r := fun x H1 Q => rU (fun i => .int (-i)) x H1 Q) fun δ F H x v R Q hs hx h b => by
    unfold oNeg at h
    split at h
    · simp only [VR, Rp] at hx
      exact ⟨_, hx, b.int hs h⟩
    · exact h.elim)
/-- a, b = e -/
def dAsgG (g : DTG) (t : DTE) : DTS := fun E ρ n => t ρ n fun x n' => needD x fun d => g d ρ fun ρ' => E.nx ρ' n'
theorem ds_asgG {tg e : Expr} {t : DTE} {tG : TG} {g : DTG} {sl : List Nat} {pos : Pos} (he : WE Y X e t) (hg : DG X tg tG g sl) (hs : swapsWithSole [tg] e pos.line X.env = pure false := by rfl) (hw : swappedStores [tg] e X.env = pure none := by rfl)
    (h1 : (assignEach [tg] X.env).map (·.2) = [assign tg X.env] := by rfl) : DS Y X (.Assign [tg] e pos) (dAsgG g t) :=
  ps_imp (ps_asg he hg.1 hs hw h1) fun D σ H ⟨Z, F, ρ, n, E, r, ht, k⟩ => ⟨Z, F, ρ, n, _, r, ht, fun x n1 F1 H1 v hx g1 s1 d1 w1 => by
    obtain ⟨d, rfl, hx⟩ := needD_is hx
    exact hg.2.im _ _ _ _ _ _ _ _ _ _ _ (r.step g1 s1 d1) w1 hx fun σ' ρ' h r' _ => k.nx _ _ _ _ _ h r'⟩
def gT3 (i j l : Nat) : DTG := fun d ρ R => ∃ a b c, d = .tuple [a, b, c] ∧ R (((ρ.set i (some (.dat a))).set j (some (.dat b))).set l (some (.dat c)))
theorem gok_three {K : PySem.W.Frag} {i j l : Nat} : GOk K (gTup K 3 (gCons (gName i) (gCons (gName j) (gCons (gName l) gNil)))) (gT3 i j l) [i, j, l] := ⟨fun Y Z F H σ ρ n d v R Q r hr h k => by
  obtain ⟨a, b, c, rfl, h⟩ := h
  simp only [Rp] at hr
  obtain ⟨p, xs, rfl, hp, hxs⟩ := hr
  obtain ⟨u, v, w, rfl, h1, h2, h3⟩ := rps3 hxs
  refine ⟨p, _, rfl, sqtR (rdS r.b.sub hp), rfl, u, _, rfl, v, _, rfl, w, _, rfl, rfl, k _ _ h (((r.setD i h1).setD j h2).setD l h3) fun vs hv => ?_⟩
  rw [wipe_set (hv l (by simp)), wipe_set (hv j (by simp)), wipe_set (hv i (by simp))]⟩
/-- a loop over a list or a tuple -/
theorem pi_seq {tg l : Expr} {tl : TE} (hl : PE X l tl) : PI X tg l (fun σ H R => tl σ H fun x H1 => ∃ a, x = .ref a ∧ ((∃ xs, H1 a = some (.lst xs) ∧ R (Itl X.K a) H1) ∨ ∃ xs, Rd H1 a (.tup xs) ∧ R (Itt X.K a) H1)) :=
  ⟨fun pins s σ H R I h => thn (hl.run pins s σ H _ I h) fun v s1 ⟨x, H1, I1, r1, a, e, q⟩ => by
    subst e
    cases r1
    have fresh : ∀ b ∈ [s1.heap.objs.size], FpOk X pins H1 b := fun b hb => by
      rw [List.mem_singleton.mp hb]
      exact I1.fpOk (Nat.le_refl _) (I1.hok.fresh (Nat.le_refl _))
    rcases q with ⟨xs, hq, q⟩ | ⟨xs, hq, q⟩
    · obtain ⟨its, rv, p, hz⟩ := I1.list (SqL.of hq)
      exact wpAny_pyIter_list p.isList ⟨_, [s1.heap.objs.size], _, _, H1, rfl, I1.kept (t' := s1.toks) fun b o e => Heap.get?_push_of_some _ e, turn_list a _, ⟨_, Heap.get?_push_size _ rfl, rfl, rfl⟩, fresh, q⟩
    · obtain ⟨its, rv, p, hz⟩ := I1.tuple (sqtR hq)
      exact wpAny_pyIter_tuple (show s1.heap.IsTuple a its.toArray from p) ⟨_, [s1.heap.objs.size], _, _, H1, rfl, I1.kept (t' := s1.toks) fun b o e => Heap.get?_push_of_some _ e, turn_tuple a _, ⟨_, Heap.get?_push_size _ rfl, rfl, rfl⟩, fresh, q⟩⟩
def dSrcS (t : DTE) : DSrc := fun ρ n R => t ρ n fun x n' => needD x fun d => ∃ ds, seqD d = some ds ∧ R ds n'
theorem di_seq {tg e : Expr} {t : DTE} (he : WE Y X e t) : DI Y X tg e (dSrcS t) := pi_imp (pi_seq he) fun σ H R ⟨Z, F, ρ, n, Q, r, ht, k⟩ =>
  ⟨Z, F, ρ, n, _, r, ht, fun x n1 F1 H1 v hx g1 s1 d1 w1 => by
    obtain ⟨d, rfl, hx⟩ := needD_is hx
    obtain ⟨ds, e, hx2⟩ : ∃ ds, seqD d = some ds ∧ _ := hx
    cases d with
    | list es =>
      cases e
      simp only [VR, Rp] at w1
      obtain ⟨a, vs, rfl, h1, h2⟩ := w1
      exact ⟨a, rfl, .inl ⟨vs, s1 _ _ h1, k _ _ _ _ _ hx2 g1 s1 d1 (itOk_list h1 h2)⟩⟩
    | tuple es =>
      cases e
      simp only [VR, Rp] at w1
      obtain ⟨a, vs, rfl, h1, h2⟩ := w1
      exact ⟨a, rfl, .inr ⟨vs, rdS s1 h1, k _ _ _ _ _ hx2 g1 s1 d1 (itOk_tup h1 h2)⟩⟩
    | _ => cases e⟩
def Has (P : Program) (w : World) (K : PySem.W.Frag) (mg : Str → Option Value) (base : Heap) (x : Str) (k : Nat) (ps : List Str) (c : DSpec) : Prop :=
  ∃ f fd, mg x = some (.ref f) ∧ PySem.W.keepIn K (.ref f) = true ∧ Binds K fd ps [] ∧ FnG P w K mg base k f fd ps (spD K ps.length c)
theorem we_has {k : Nat} {c : DSpec} {ps : List Str} {x : Str} {p pos : Pos} {e : Expr} {es : List Expr} {t : DTA} (h : Has X.prog X.w X.K X.mg X.base x k ps c) (hgd : X.A.guards = some []) (hr : Room k X.A) (hg : Gl X x)
    (ha : WA Y X (e :: es) t) (hdb : (x == ("__debug__" : Str)) = false := by decide) (he : starEach (e :: es) X.env = (false, eval e X.env) :: starEach es X.env := by rfl) (hpl : (backTo pos (starEach es X.env)).any (·.1) = false := by rfl) :
    WE Y X (.Call (.Name x p) (e :: es) [] pos) (dFn ps.length c t) := by
  obtain ⟨f, fd, h1, h2, h3, h4⟩ := h
  exact we_fn h4 hgd hr hg h1 h2 h3 ha hdb he hpl
theorem compR_fm {α : Type} (xs : List α) (enc : α → PyData) (p : α → Bool) (f : α → PyData) {n : Wo} {step : CStep} {R : List PyData → Wo → Prop} (hz : xs.length < sizeLine)
    (h : ∀ x ∈ xs, ∀ acc K, acc.length < sizeLine → K (if p x = true then acc ++ [f x] else acc) n → step (enc x) acc n K) (hR : R ((xs.filter p).map f) n) : CompR (xs.map enc) n step R := by
  refine ⟨fun k acc m => m = n ∧ acc = ((xs.take k).filter p).map f, ⟨rfl, rfl⟩, ?_, ?_⟩
  · rintro k x acc m hx ⟨rfl, rfl⟩
    rw [List.getElem?_map] at hx
    obtain ⟨z, hz2, rfl⟩ := Option.map_eq_some_iff.mp hx
    have hk : k < xs.length := (List.getElem?_eq_some_iff.mp hz2).1
    refine h z (List.mem_of_getElem? hz2) _ _ ?_ ⟨rfl, ?_⟩
    · rw [List.length_map]
      have := List.length_filter_le p (xs.take k)
      rw [List.length_take] at this
      omega
    · have e : xs.take (k + 1) = xs.take k ++ [z] := by
        rw [List.take_add_one, hz2]; rfl
      rw [e, List.filter_append, List.map_append]
      cases q : p z <;> simp [q]
  · rintro acc m ⟨rfl, rfl⟩
    rw [List.length_map, List.take_length]
    exact hR
theorem forR_inv {xs : List PyData} {ρ : Rho} {n : Wo} {step : FStep} {Q : Rho → Wo → Prop} (I : Nat → Rho → Wo → Prop) (h0 : I 0 ρ n) (hs : ∀ (k : Nat) x ρ' n', xs[k]? = some x → I k ρ' n' → step x ρ' n' (I (k + 1))) (he : ∀ ρ' n', I xs.length ρ' n' → Q ρ' n') : ForR xs ρ n step Q := ⟨I, h0, hs, he⟩
end DL
namespace DL
open PySem PySem.Spec PyProof.Rows L2
variable {X : Cx} {Y : Fx}
def dCut (t u : DTS) : DTS := fun E ρ n => ∃ J : Rho → Wo → Prop, t { E with nx := J } ρ n ∧ ∀ ρ' n', J ρ' n' → u E ρ' n'
theorem dss_cut {st : Stmt} {rest : List Stmt} {t u : DTS} (h1 : DS Y X st t) (h2 : DSs Y X rest u) : DSs Y X (st :: rest) (dCut t u) :=
  pss_imp (pss_cons h1 h2) fun D σ H ⟨Z, F, ρ, n, E, r, ⟨J, ht, hJ⟩, k⟩ => ⟨Z, F, ρ, n, _, r, ht, ⟨fun F' H' σ' ρ' n' h r' => ⟨Z, F', ρ', n', E, r', hJ _ _ h, k⟩, k.rt, k.bk, k.ct⟩⟩
theorem ite_imp {c A B A' B' : Prop} [Decidable c] (h1 : A → A') (h2 : B → B') (h : if c then A else B) : if c then A' else B' := by
  by_cases q : c
  · rw [if_pos q] at h ⊢; exact h1 h
  · rw [if_neg q] at h ⊢; exact h2 h
/-- a comprehension of a test and an element that change nothing -/
theorem compR_p {α : Type} (xs : List α) (enc : α → PyData) (p : α → Bool) (f : α → PyData) {n : Wo} {step : CStep} {R : List PyData → Wo → Prop} (hz : xs.length < sizeLine)
    (h : ∀ x ∈ xs, ∀ acc K, (if p x = true then acc.length < sizeLine ∧ K (acc ++ [f x]) n else K acc n) → step (enc x) acc n K) (hR : R ((xs.filter p).map f) n) : CompR (xs.map enc) n step R :=
  compR_fm xs enc p f hz (fun x hx acc K ha hK => h x hx acc K (by
    by_cases q : p x = true
    · rw [if_pos q] at hK ⊢; exact ⟨ha, hK⟩
    · rw [if_neg q] at hK ⊢; exact hK)) hR
theorem compR_m {α : Type} (xs : List α) (enc : α → PyData) (f : α → PyData) {n : Wo} {step : CStep} {R : List PyData → Wo → Prop} (hz : xs.length < sizeLine)
    (h : ∀ x ∈ xs, ∀ acc K, acc.length < sizeLine → K (acc ++ [f x]) n → step (enc x) acc n K) (hR : R (xs.map f) n) : CompR (xs.map enc) n step R :=
  compR_fm xs enc (fun _ => true) f hz (fun x hx acc K ha hK => h x hx acc K ha (by simpa using hK)) (by rwa [List.filter_eq_self.mpr (fun _ _ => rfl)])
theorem atI_mem {α : Type} {xs : List α} {i : Int} (h0 : 0 ≤ i) (h1 : i < xs.length) : ∃ d, atI xs i = some d ∧ d ∈ xs := by
  have hi : i.toNat < xs.length := by omega
  refine ⟨xs[i.toNat], ?_, List.getElem_mem _⟩
  unfold atI ixN
  rw [if_pos h0, if_pos h1]
  simp [hi]
theorem rngD_mem {lo : Int} {n : Nat} {k : Nat} {x : PyData} (h : (rngD lo n)[k]? = some x) : x = .int (lo + (k : Int)) ∧ k < n := rngD_get h
theorem line1000 {n : Nat} (h : n ≤ 1000) : n ≤ sizeLine := Nat.le_trans h (by decide)
def Wo.z : Wo := ⟨0, fun _ => none, fun _ => none⟩
theorem pss_any {α : Type} {X : Cx} {st : List Stmt} {t : α → TS} (h : ∀ a, PSs X st (t a)) : PSs X st (fun D σ H => ∃ a, t a D σ H) := ⟨fun p s σ H D I ⟨a, w⟩ => (h a).run p s σ H D I w⟩
section
variable {P : Program} {w : World} {K : PySem.W.Frag} {mg : Str → Option Value} {base : Heap}
theorem law_start {N : List Str} {kd : Bool} {st1 : Stmt} {rest : List Stmt} {sLaw : Stmt} {f : Addr} {fd : FuncData} {k m : Nat} {spD0 : PySem.W.Frag → Sp}
    (F : Fun K "law" "law" sLaw f fd) (S : FnScope N ["script"] (defScope sLaw)) (hbody : defBody sLaw = st1 :: rest) (hN : N.length = m + 2)
    (hsp : ∀ (a : Addr) (ns : List Int) (H : Hp) (Q : VK), SqL K H a (ns.map V.int) → ns.length ≤ 63 → (∀ (H' : Hp) (δ : DkS) (p : Addr), Same H H' → IsDk kd δ p → δ.at0 H' 0 → (∀ b, b ∈ δ.own → H' b ≠ none) → Q (.ref p) H') → spD0 K [.ref a] H Q E0)
    (h : ∀ (cdv : Value) (A : Around) (outer : List Env) (s : Shared) (H : Hp), A.guards = some [] → Room k (A.deeper (envOfC "law" (defScope sLaw) s.heap.objs.size f cdv)) →
      PS (cxOf CX0 P w K mg base N "law" (defScope sLaw) f cdv A outer s H E0).nox st1 (tAsg (fun σ H Q => tCons (tVar 0) tNil σ H fun vs H1 => spD0 K vs H1 Q E0) (gName 1)) ∧
      ∀ Y : Fx, ∃ t, DSs Y (cxOf CX0 P w K mg base N "law" (defScope sLaw) f cdv A outer s H E0).nox rest t ∧ t { nx := fun _ _ => False, rt := fun d _ => d = .bool true } (none :: some (.deck kd) :: List.replicate m none) Wo.z) :
    FnG P w K mg base (k + 1) f fd ["script"] (spLaw K) := by
  refine fng_of F S (fun vs H Q E ⟨a, ns, e, _⟩ => by rw [e]; rfl) fun cdv A outer s H vs Q hgd hr ⟨a, ns, e, hS, hlen, _, hk⟩ => ?_
  subst e
  obtain ⟨h1, h0⟩ := h cdv A outer s H hgd hr
  rw [hbody]
  refine ⟨_, pss_cons h1 (pss_any fun Y => (h0 Y).choose_spec.1), ?_⟩
  have hst : L2.start N [V.ref a] = some (.ref a) :: none :: List.replicate m none := by
    unfold L2.start
    rw [hN]
    rfl
  refine ⟨.ref a, by rw [hst]; rfl, hsp a ns H _ hS hlen fun H' δ p hs hd hat hne => ?_⟩
  refine ⟨⟨fun _ => none, H', δ⟩, ?_⟩
  obtain ⟨h2, h3⟩ := (h0 ⟨fun _ => none, H', δ⟩).choose_spec
  refine ⟨⟨fun _ => none, H', δ⟩, fun _ => none, none :: some (.deck kd) :: List.replicate m none, Wo.z, _, ⟨⟨fun _ _ q => (by cases q), ⟨hat, fun _ _ e => (nomatch e), fun _ _ e => (nomatch e)⟩, fun b hb => ⟨rfl, hne b hb⟩, Same.refl _, fun _ _ q => q, fun _ _ _ q _ => q, fun _ _ _ _ q => ⟨_, q⟩⟩, rfl, rfl, Gr.refl, ?_, fun i x q => ?_, fun i j b ds y _ q _ _ _ _ => ?_⟩, h3, ⟨fun _ _ _ _ _ q _ => q.elim, fun d n' F2 H2 v q _ r => ?_, fun _ _ _ _ _ q _ => q.elim, fun _ _ _ _ _ q _ => q.elim⟩⟩
  · rw [hst]; simp
  · rw [hst]
    have rep : ∀ (j : Nat) (z : Dv), (List.replicate m (none : Option Dv))[j]? ≠ some (some z) := fun j z e => by
      rw [List.getElem?_replicate] at e
      split at e <;> cases e
    match i, q with
    | 1, q => cases q; exact ⟨.ref p, rfl, p, rfl, hd⟩
    | j + 2, q => exact absurd q (rep j x)
  · have rep : ∀ (j : Nat) (z : Dv), (List.replicate m (none : Option Dv))[j]? ≠ some (some z) := fun j z e => by
      rw [List.getElem?_replicate] at e
      split at e <;> cases e
    match i, q with
    | j + 2, q => exact absurd q (rep j _)
  · have q' : d = .bool true := q
    subst q'
    simp only [Rp] at r
    subst r
    exact hk _
end
end DL
namespace DL
open PySem PySem.Spec PyProof.Rows L2
open Sem (wp) in
open AutoSeq1 (wpAny_loadPart') in
theorem meets_enumT (l : Addr) (items : Array Value) (n : Nat) (dct : Option Addr) (sl : Array (Option Value)) :
    Meets (Builtin.«enumerate.__new__» ⟨[.type "enumerate", .ref l], []⟩) (fun _ R s => s.heap.get? l = some { cls := .type "tuple", dict := dct, data := .seq items n, slots := sl } ∧
      R (.ok (.ret (.ref (s.heap.push { cls := .type "tuple_iterator", data := .fields #[.ref l, .int 0 0] }).objs.size)))
        { s with heap := (s.heap.push { cls := .type "tuple_iterator", data := .fields #[.ref l, .int 0 0] }).push { cls := .type "enumerate", data := .fields #[.none, .bool false, .ref s.heap.objs.size, rawInt 0, .none, .none] } }) :=
  .of_wp fun prog w A R s h => by
    obtain ⟨hp, g, d, tk, os⟩ := s; obtain ⟨hl, h⟩ := h
    have hsub := sub_enumerate
    have hL : Heap.IsTuple (Shared.heap ⟨hp, g, d, tk, os⟩) l items := ⟨_, hl, rfl, n, rfl⟩
    wp_walk using wpAny_loadPart' hl
    refine wpAny_stack_any fun st => wpAny_pure ?_
    split
    · rename_i c _ _ _ _ _
      cases (c == Value.type "enumerate")
      · wp_walk using wpAny_loadPart' hl, wpAny_pyIter_tuple hL
        exact ⟨_, rfl, h⟩
      · wp_walk using wpAny_loadPart' hl, wpAny_pyIter_tuple hL
        exact ⟨_, rfl, h⟩
    · wp_walk using wpAny_loadPart' hl, wpAny_pyIter_tuple hL
      exact ⟨_, rfl, h⟩
section
variable {prog : Program} {w : World} {A : Around} {E : Value → Shared → Prop} {s : Shared}
theorem call_enumT {l : Addr} {items : Array Value} {Q : Value → Shared → Prop} (hL : s.heap.IsTuple l items)
    (h : ∀ h', IsEnum h' (s.heap.objs.size + 1) s.heap.objs.size 0 .none → h'.IsTupleIter s.heap.objs.size l 0 → (∀ b o, s.heap.get? b = some o → h'.get? b = some o) → Q (.ref (s.heap.objs.size + 1)) { s with heap := h' }) :
    wpAny (model prog w) A (call (.type "enumerate") [.ref l]) Q E s := by
  obtain ⟨⟨c, dct, dt, sl⟩, hl, hc, n, hd⟩ := hL
  replace hc : c = .type "tuple" := hc
  replace hd : dt = .seq items n := hd
  subst hc hd
  refine callType_new F.called_enumerate (by decide) (F.typeCall_enumerate_1 _) (F.newCall_enumerate_1 _) (fun obj => F.args_object_init_2 obj _) F.entry_enumerate_new (meets_enumT l items n dct sl) ⟨hl, ?_⟩
  have hz : (s.heap.push { cls := .type "tuple_iterator", data := .fields #[.ref l, .int 0 0] }).objs.size = s.heap.objs.size + 1 := Heap.size_push ..
  show _ ∧ _
  rw [hz]
  have he : IsEnum ((s.heap.push { cls := .type "tuple_iterator", data := .fields #[.ref l, .int 0 0] }).push { cls := .type "enumerate", data := .fields #[.none, .bool false, .ref s.heap.objs.size, rawInt 0, .none, .none] }) (s.heap.objs.size + 1) s.heap.objs.size 0 .none := by
    have z := Heap.get?_push_size (s.heap.push { cls := .type "tuple_iterator", data := .fields #[.ref l, .int 0 0] }) (o := { cls := .type "enumerate", data := .fields #[.none, .bool false, .ref s.heap.objs.size, rawInt 0, .none, .none] }) rfl
    rw [hz] at z; exact z
  exact ⟨⟨_, he, rfl⟩, h _ he ⟨_, Heap.get?_push_of_some _ (Heap.get?_push_size _ rfl), rfl, rfl⟩ fun b o x => Heap.get?_push_of_some _ (Heap.get?_push_of_some _ x)⟩
theorem enumT_end {e it t : Addr} {i : Nat} {c : Int} {items : Array Value} {old : Value} {Q : Option Value → Shared → Prop} (hh : A.handled = none) (he : IsEnum s.heap e it c old) (hit : s.heap.IsTupleIter it t i) (ht : s.heap.IsTuple t items) (hx : items[i]? = none)
    (hQ : ∀ h', Heap.ExtBut it s.heap h' → Q none { s with heap := h' }) : wpAny (model prog w) A (pyNext (.ref e)) Q E s := by
  have hT : s.TypeIs (.ref e) "enumerate" := ⟨_, he, rfl⟩
  unfold pyNext
  refine wpAny_bind (wpAny_attempt (wpAny_callSpecial?_slot (name := Str.ofString "__next__") hT F.slot_enumerate_next (wpAny_call_entry F.slot_enumerate_next hT F.entry_enumerate_next ?_ (F.args_enumerate_next_1 _))))
  show wpAny _ _ (field (.ref e) 2 >>= _) _ _ _
  refine wpAny_bind (wpAny_field he rfl (x := .ref it) rfl (wpAny_bind (wpAny_nextOf_tuple_end hh hit ht hx fun h' x he' ⟨o, ho, hc⟩ => ?_)))
  exact wpAny_bind (wpAny_isInstance (T := "StopIteration") (b := true) ⟨o, ho, hc⟩ isSubtype_stop (wpAny_pure (hQ _ he')))
end
/-- the tuple at a, each item in a new pair -/
def ItET (K : PySem.W.Frag) (a : Addr) : It :=
  ⟨fun i H => ∃ (xs : List V) (x : V), SqT K H a xs ∧ xs[i]? = some x, fun i H v H' => ∃ T x, v = .ref T ∧ H T = none ∧ H' = upd H T (.tup [.int (i : Nat), x]) ∧ ∀ xs, SqT K H a xs → xs[i]? = some x, fun i H => ∃ xs : List V, SqT K H a xs ∧ xs.length ≤ i⟩
theorem turn_enumT {P : Program} {w : World} {K : PySem.W.Frag} {elts : List Expr} {kk : Nat} {tpos : Pos} (a e it : Addr) (hai : a ≠ it) (hae : a ≠ e) :
    Turn P w K (.Tuple elts kk tpos) (ItET K a) [e, it] e (fun i h => (∃ old, IsEnum h e it ((i : Nat) : Int) old) ∧ h.IsTupleIter it a i ∧ e ≠ it) where
  mem := by simp
  obj := fun i h st b hb => by
    obtain ⟨⟨old, he⟩, ⟨o, ho, hc, hd⟩, _⟩ := st
    rcases (show b = e ∨ b = it by simpa using hb) with z | z
    · rw [z]; exact ⟨_, he, fun v q => nomatch q⟩
    · rw [z]; exact ⟨o, ho, fun v q => by rw [hd] at q; cases q⟩
  keep := fun i h h' st k => let ⟨⟨old, he⟩, hi, hne⟩ := st; ⟨⟨old, k e (by simp) _ he⟩, hi.at fun o q => k it (by simp) o q, hne⟩
  item := by
    intro X hP hw hK hc i pins s σ H E I hf st hg
    subst hP hw hK
    obtain ⟨⟨old, he⟩, hit, hne⟩ := st
    obtain ⟨xs, x, hq, hx⟩ := hg
    obtain ⟨its, rv, p, hz⟩ := I.tuple hq
    obtain ⟨u, hu, ru⟩ := rv.get hx
    have hel : e < s.heap.objs.size := Heap.lt_size he
    have hil : it < s.heap.objs.size := by obtain ⟨_, q, _⟩ := hit; exact Heap.lt_size q
    have hin : i < its.toArray.size := by
      have := (List.getElem?_eq_some_iff.mp hu).1
      simpa using this
    refine wpAny_pyNext_enum_itemC (fp := [it, a]) (Draws.tuple (A := X.A.in1) (I.ok.hd hc) it a hai its.toArray) he (i := i) ⟨hit, p⟩ hin hne (by simp; exact ⟨hne, Ne.symm hae⟩) fun y h' tk hy ho hst hT hsz hk => ?_
    have ey : y = u := by
      have : its.toArray[i]? = some u := by simpa using hu
      rw [hy] at this; exact Option.some.inj this
    subst ey
    refine ⟨_, rfl, wpAny_letOwnedTupleGo_enum (s := { s with heap := h', toks := tk + 1 }) ho fun h'' he' sb => ?_⟩
    have hT2 : h''.get? s.heap.objs.size = some { cls := .type "tuple", data := .seq #[.int i tk, y] } := (sb.2 _ (Nat.ne_of_gt hel)).trans hT
    have new : ObjOk X.prog X.w (upd H s.heap.objs.size (.tup [.int (i : Nat), x])) h'' s.heap.objs.size (.tup [.int (i : Nat), x]) := ⟨by show 2 ≤ sizeLine; decide, [.int i tk, y], .cons ⟨_, rfl⟩ (.cons ru .nil), ⟨_, hT2, rfl, _, rfl⟩⟩
    have I1 : Inv X pins σ (upd H s.heap.objs.size (.tup [.int (i : Nat), x])) { s with heap := h'', toks := tk + 1 } :=
      I.turnedNew (ch := [e, it]) (fun b ob hb q => (sb.2 b (fun z => hb (by simp [z]))).trans (hk b ob (fun z => hb (by simp [z])) (fun z => hb (by simp [z])) q)) hf (Nat.le_refl _) new
    refine ⟨.ref s.heap.objs.size, _, I1, rfl, ⟨_, x, rfl, I.hok.fresh (Nat.le_refl _), rfl, fun ys hy => by rw [I.tuple_inj hy hq]; exact hx⟩, ⟨⟨y, ?_⟩, hst.1.at fun o q => (sb.2 it (Ne.symm hne)).trans q, hne⟩, fun b hb => ?_⟩
    · rw [show ((i + 1 : Nat) : Int) = (i : Int) + 1 by omega]
      exact he'
    · have hb' : b < s.heap.objs.size := by
        rcases (show b = e ∨ b = it by simpa using hb) with z | z
        · rw [z]; exact hel
        · rw [z]; exact hil
      rw [upd_ne (Nat.ne_of_lt hb')]
      exact (hf b hb).1
  done := by
    intro X hP hw hK hc i pins s σ H E I hf st hg
    subst hP hw hK
    obtain ⟨⟨old, he⟩, hit, hne⟩ := st
    obtain ⟨xs, hq, hx⟩ := hg
    obtain ⟨its, rv, p, hz⟩ := I.tuple hq
    obtain ⟨f0, f1, f2, f3, f4, f5⟩ := hf it (by simp)
    have hl := rv.length
    exact enumT_end (A := X.A) (I.ok.hd hc) he hit p (by simp; omega) fun h' eb => ⟨rfl, I.turned (t' := s.toks) (fun b o hb q => eb b o hb q) f0 f1 f3 f4 f5⟩
  self := fun A i s Q E st h => let ⟨⟨_, he⟩, _⟩ := st; wpAny_pyIter_enum he h
/-- enumerate of a list or a tuple -/
def iEnA (K : PySem.W.Frag) (ta : TA) : TI := fun σ H R => ta σ H fun vs H1 => ∃ a, vs = [.ref a] ∧ ((∃ xs, H1 a = some (.lst xs) ∧ R (Ite K a) H1) ∨ ∃ xs, Rd H1 a (.tup xs) ∧ R (ItET K a) H1)
variable {X : Cx} {Y : Fx}
theorem pi_enA {e : Expr} {ta : TA} {p pos tpos : Pos} {elts : List Expr} {kk : Nat} (hg : Gl X "enumerate") (hm : X.mg "enumerate" = none) (ha : PA X [e] ta) (hs : starEach [e] X.env = [(false, eval e X.env)] := by rfl) :
    PI X (.Tuple elts kk tpos) (.Call (.Name "enumerate" p) [e] [] pos) (iEnA X.K ta) := ⟨fun pins s σ H R I h => by
  refine Call_ (ld_blt I hg hm boot_enumerate (PyProof.Rows.callWith_type1 (thn (ha.run pos pins s σ H _ I h) fun us s1 ⟨vs, H1, I1, r1, a, ex, q⟩ => ?_) hs rfl))
  subst ex
  cases r1 with
  | cons r rr =>
    cases rr
    cases r
    have fresh : ∀ b ∈ [s1.heap.objs.size + 1, s1.heap.objs.size], FpOk X pins H1 b := fun b hb => by
      have hle : s1.heap.objs.size ≤ b := by
        rcases (show b = s1.heap.objs.size + 1 ∨ b = s1.heap.objs.size by simpa using hb) with z | z <;> omega
      exact I1.fpOk hle (I1.hok.fresh hle)
    rcases q with ⟨xs, hq, q⟩ | ⟨xs, hq, q⟩
    · obtain ⟨its, rv, p', hz⟩ := I1.list (SqL.of hq)
      refine call_enumerate_list p'.isList fun h' he hit hsz hk => wpAny_pyIter_enum he ?_
      exact ⟨s1.heap.objs.size + 1, [s1.heap.objs.size + 1, s1.heap.objs.size], _, _, H1, rfl, I1.kept (t' := s1.toks) hk, turn_enum a (s1.heap.objs.size + 1) s1.heap.objs.size, ⟨⟨.none, he⟩, hit, Nat.succ_ne_self _⟩, fresh, q⟩
    · obtain ⟨its, rv, p', hz⟩ := I1.tuple (sqtR hq)
      obtain ⟨ol, hol, _⟩ := id (show s1.heap.IsTuple a its.toArray from p')
      have hlt := Heap.lt_size hol
      refine call_enumT (show s1.heap.IsTuple a its.toArray from p') fun h' he hit hk => wpAny_pyIter_enum he ?_
      exact ⟨s1.heap.objs.size + 1, [s1.heap.objs.size + 1, s1.heap.objs.size], _, _, H1, rfl, I1.kept (t' := s1.toks) hk, turn_enumT a (s1.heap.objs.size + 1) s1.heap.objs.size (Nat.ne_of_lt hlt) (Nat.ne_of_lt (Nat.lt_succ_of_lt hlt)), ⟨⟨.none, he⟩, hit, Nat.succ_ne_self _⟩, fresh, q⟩⟩
theorem itOk_enT {K : PySem.W.Frag} {F : Hp} {a : Addr} {vs : List V} {ds : List PyData} (h : Rd F a (.tup vs)) (r : Rps K F ds vs) : ItOk K (ItET K a) F (enumD ds) where
  go := fun i H s hi => by
    rw [enumD_length] at hi
    exact ⟨vs, vs[i]'(by rw [← r.length]; exact hi), sqtR (rdS s h), by simp⟩
  stop := fun i H s hi => ⟨vs, sqtR (rdS s h), by rw [← r.length, ← enumD_length]; exact hi⟩
  yld := fun i H v H' x ⟨T, y, e1, e2, e3, e4⟩ s hx => by
    obtain ⟨d, q1, q2⟩ := enumD_get hx
    obtain ⟨w, q3, q4⟩ := r.get q1
    rw [e4 vs (sqtR (rdS s h))] at q3; cases q3
    exact .inr ⟨T, _, _, e1, e2, e3, q2, rps_cons (by simp [Rp]) (rps_cons q4 rps_nil)⟩
def dEnA (t : DTA) : DSrc := fun ρ n R => t ρ n fun xs n' => ∃ d ds, xs = [.dat d] ∧ seqD d = some ds ∧ R (enumD ds) n'
theorem di_enumA {e : Expr} {t : DTA} {p pos tpos : Pos} {elts : List Expr} {kk : Nat} (hg : Gl X "enumerate") (hm : X.mg "enumerate" = none) (ha : WA Y X [e] t) (hs : starEach [e] X.env = [(false, eval e X.env)] := by rfl) :
    DI Y X (.Tuple elts kk tpos) (.Call (.Name "enumerate" p) [e] [] pos) (dEnA t) :=
  pi_imp (pi_enA hg hm ha hs) fun σ H R ⟨Z, F, ρ, n, Q, r, ht, k⟩ => ⟨Z, F, ρ, n, _, r, ht, fun xs n1 F1 H1 vs ⟨d, ds, e, e2, hx⟩ g1 s1 d1 w1 => by
    subst e
    obtain ⟨v, rfl, w2⟩ := vr1 w1
    have w3 : Rp X.K F1 d v := w2
    cases d with
    | list es =>
      cases e2
      simp only [Rp] at w3
      obtain ⟨a, vs, rfl, h1, h2⟩ := w3
      exact ⟨a, rfl, .inl ⟨vs, s1 _ _ h1, k _ _ _ _ _ hx g1 s1 d1 (itOk_enum h1 h2)⟩⟩
    | tuple es =>
      cases e2
      simp only [Rp] at w3
      obtain ⟨a, vs, rfl, h1, h2⟩ := w3
      exact ⟨a, rfl, .inr ⟨vs, rdS s1 h1, k _ _ _ _ _ hx g1 s1 d1 (itOk_enT h1 h2)⟩⟩
    | _ => cases e2⟩
end DL
namespace DL
open PySem PySem.Spec PyProof.Rows L2
variable {X : Cx} {Y : Fx}
theorem Rps.erase {K : PySem.W.Frag} {F : Hp} : ∀ {ds : List PyData} {vs : List V} (j : Nat), Rps K F ds vs → Rps K F (ds.eraseIdx j) (vs.eraseIdx j)
  | [], _, _, h => by simp only [Rps] at h; subst h; simp [Rps]
  | d :: ds, _, 0, h => by
    simp only [Rps] at h
    obtain ⟨v, r, rfl, h1, h2⟩ := h
    exact h2
  | d :: ds, _, j + 1, h => by
    simp only [Rps] at h
    obtain ⟨v, r, rfl, h1, h2⟩ := h
    exact rps_cons h1 (Rps.erase j h2)
def prD (p : Int × Int) : PyData := .tuple [.int p.1, .int p.2]
def oSortP : DCM := fun xs R => ∃ x, ∃ ps : List (Int × Int), xs = [x] ∧ x.toD = .list (ps.map prD) ∧ ∀ qs : List (Int × Int), qs.Perm ps → qs.Pairwise (fun p q => p.1 < q.1 ∨ (p.1 = q.1 ∧ p.2 ≤ q.2)) → R (qs.map prD)
/-- sorted of a list of pairs of ints, frozen ones too -/
def rSortedPR (K : PySem.W.Frag) : List V → Hp → VK → Prop := fun vs H Q => ∃ (a : Addr) (xs : List V) (k : V → Int × Int), vs = [V.ref a] ∧ SqL K H a xs ∧ (∀ x ∈ xs, ∃ t, x = V.ref t ∧ Rd H t (.tup [.int (k x).1, .int (k x).2])) ∧
  ∀ ys p, SrtO.Srtd (ltP k) ys → SrtO.Stb (ltP k) ys xs → H p = none → Q (.ref p) (upd H p (.lst ys))
theorem cr_sortedPO {X : Cx} : CallR X (.builtin "sorted") (rSortedPR X.K) := by
  intro pins s σ H vs us Q I r h
  obtain ⟨a, xs, k, rfl, hs, hx, q⟩ := h
  obtain ⟨its, rv, hl, hz⟩ := I.list hs
  obtain ⟨u, rfl, ru⟩ := vals1 r
  obtain rfl : u = Value.ref a := ru
  obtain ⟨e1, e2⟩ := refs_back rv fun x m => by
    obtain ⟨t, e, _⟩ := hx x m
    exact ⟨t, e⟩
  refine SrtO.sorted_pairsO (k := fun u => k (backV u)) hl.isList (by rw [← rv.length]; exact hz) (fun v hv => ?_) fun h' d out h1 h2 kp hd hn => ?_
  · obtain ⟨t, rfl⟩ := e2 v hv
    have hm : V.ref t ∈ xs := by rw [e1]; exact List.mem_map.mpr ⟨_, hv, rfl⟩
    obtain ⟨t', e, ht⟩ := hx _ hm
    cases e
    obtain ⟨its2, r2, ⟨o, ho, hc, n, hd⟩, _⟩ := I.tuple (sqtR ht)
    obtain ⟨u1, u2, rfl, ri, rj⟩ := vals2 r2
    obtain ⟨t1, rfl⟩ := ri
    obtain ⟨t2, rfl⟩ := rj
    exact ⟨t, o, t1, t2, n, rfl, ho, hc, hd⟩
  · have h3 : ∀ u ∈ out, ∃ a, u = Value.ref a := fun u hu => e2 u (h2.perm.mem_iff.mp hu)
    obtain ⟨n, hn⟩ := hn
    have hb : SrtO.Stb (ltP k) (out.map backV) xs := by
      rw [e1]
      exact SrtO.Stb.map (ltP_swo k) backV h2
    refine ⟨.ref d, upd H d (.lst (out.map backV)), I.laid (t' := s.toks) kp hd ⟨?_, out, n, vals_back h3, hn⟩, rfl, q _ d (SrtO.srtd_map h1) hb (I.hok.fresh hd)⟩
    rw [hb.len]
    exact hz
def keyV (F : Hp) (x : V) : Int × Int := match x with
  | .ref t => match F t with
    | some (.tup [.int a, .int b]) => (a, b)
    | some (.frz _ (.tup [.int a, .int b])) => (a, b)
    | _ => (0, 0)
  | _ => (0, 0)
theorem key_of {K : PySem.W.Frag} {F : Hp} {p : Int × Int} {v : V} (h : Rp K F (prD p) v) : ∃ t, v = .ref t ∧ Rd F t (.tup [.int p.1, .int p.2]) ∧ keyV F v = p := by
  unfold prD at h
  simp only [Rp] at h
  obtain ⟨a, xs, rfl, h1, h2⟩ := h
  obtain ⟨u, w, rfl, h3, h4⟩ := rps2 h2
  simp only [Rp] at h3 h4
  subst h3 h4
  exact ⟨a, rfl, h1, by
    show (match F a with | some (.tup [.int x, .int y]) => (x, y) | some (.frz _ (.tup [.int x, .int y])) => (x, y) | _ => (0, 0)) = p
    rcases h1 with h1 | ⟨o, h1⟩ <;> rw [h1]⟩
theorem keys_of {K : PySem.W.Frag} {F : Hp} : ∀ {ps : List (Int × Int)} {vs : List V}, Rps K F (ps.map prD) vs → vs.map (keyV F) = ps ∧ ∀ v ∈ vs, Rp K F (prD (keyV F v)) v
  | [], _, h => by simp only [List.map_nil, Rps] at h; subst h; exact ⟨rfl, fun _ z => (nomatch z)⟩
  | p :: ps, _, h => by
    simp only [List.map_cons, Rps] at h
    obtain ⟨v, r, rfl, h1, h2⟩ := h
    obtain ⟨_, _, _, e⟩ := key_of h1
    obtain ⟨i1, i2⟩ := keys_of h2
    refine ⟨by rw [List.map_cons, e, i1], fun u hu => ?_⟩
    rcases List.mem_cons.mp hu with rfl | hu
    · rw [e]; exact h1
    · exact i2 u hu
theorem rps_keys {K : PySem.W.Frag} {F : Hp} : ∀ {vs : List V}, (∀ v ∈ vs, Rp K F (prD (keyV F v)) v) → Rps K F ((vs.map (keyV F)).map prD) vs
  | [], _ => rps_nil
  | v :: vs, h => rps_cons (h v (by simp)) (rps_keys fun u hu => h u (by simp [hu]))
theorem ck_sortP {K : PySem.W.Frag} : CallOkM K (rSortedPR K) oSortP := fun δ F H xs vs R Q hs hv ⟨x, ps, e, e2, hr⟩ b => by
  subst e
  obtain ⟨v, rfl, h1⟩ := vr1 hv
  obtain ⟨a, us, rfl, h2, h3⟩ := h1.lst hs e2
  obtain ⟨k1, k2⟩ := keys_of h3
  refine ⟨a, us, keyV F, rfl, SqL.of h2, fun x hx => ?_, fun ys p hsd hst hp => ?_⟩
  · obtain ⟨t, e3, e4, e5⟩ := key_of (k2 x hx)
    exact ⟨t, e3, rdS hs e4⟩
  · have hm : ∀ v ∈ ys, Rp K F (prD (keyV F v)) v := fun v hv => k2 v (hst.perm.mem_iff.mp hv)
    refine b ((ys.map (keyV F)).map prD) ys p (hr _ ?_ ?_) hp (rps_keys hm)
    · rw [← k1]; exact hst.perm.map _
    · rw [List.pairwise_map]
      refine List.Pairwise.imp (fun {u w} h => ?_) hsd
      have := SrtO.lexB_no.mp h
      omega
end DL
namespace DL
open PySem PySem.Spec PyProof.Rows L2
variable {X : Cx} {Y : Fx}
structure ItOkV (K : PySem.W.Frag) (δ : DkS) (J : It) (F1 H1 : Hp) (xs : List PyData) : Prop where
  go : ∀ (i : Nat) H, (∀ a o, a ∉ δ.own → H1 a = some o → isIns o = false → H a = some o) → Same F1 H → i < xs.length → J.go i H
  stop : ∀ (i : Nat) H, (∀ a o, a ∉ δ.own → H1 a = some o → isIns o = false → H a = some o) → Same F1 H → xs.length ≤ i → J.stop i H
  yld : ∀ (i : Nat) H v H' x, J.yld i H v H' → (∀ a o, a ∉ δ.own → H1 a = some o → isIns o = false → H a = some o) → ∀ F2, Same F1 F2 → Same F2 H → xs[i]? = some x → ∃ F3, Gp F2 H F3 H' ∧ Same F3 H' ∧ Rp K F3 x v
theorem ItOk.toV {K : PySem.W.Frag} {δ : DkS} {J : It} {F1 H1 : Hp} {xs : List PyData} (h : ItOk K J F1 xs) : ItOkV K δ J F1 H1 xs :=
  ⟨fun i H _ s q => h.go i H s q, fun i H _ s q => h.stop i H s q, fun i H v H' x hy _ F2 s1 s2 hx => h.use s1 s2 hy hx⟩
theorem itOkV_list {K : PySem.W.Frag} {δ : DkS} {F H1 : Hp} {a : Addr} {vs : List V} {ds : List PyData} (h : H1 a = some (.lst vs)) (na : a ∉ δ.own) (r : Rps K F ds vs) : ItOkV K δ (Itl K a) F H1 ds where
  go := fun i H k s hi => ⟨vs, vs[i]'(by rw [← r.length]; exact hi), SqL.of (k _ _ na h rfl), by simp⟩
  stop := fun i H k s hi => ⟨vs, SqL.of (k _ _ na h rfl), by rw [← r.length]; exact hi⟩
  yld := fun i H v H' x ⟨e, y⟩ k F2 s1 s2 hx => by
    have h1 := y vs (SqL.of (k _ _ na h rfl))
    obtain ⟨w, e1, e2⟩ := r.get hx
    rw [h1] at e1; cases e1
    subst e
    exact ⟨F2, Gp.refl, s2, Rp.mono s1 x v e2⟩
def upIv (Y : Fx) (K : PySem.W.Frag) (t : DSrc) : TI := fun σ H R => ∃ Z F ρ n Q, SR Y K Z F H σ ρ n ∧ t ρ n Q ∧
  ∀ xs n' F' H' J, Q xs n' → Gr Z.δ F H F' H' → Same F' H' → Z.δ.at_ K F' H' n' → ItOkV K Z.δ J F' H' xs → R J H'
abbrev DIv (Y : Fx) (X : Cx) (tg iter : Expr) (t : DSrc) : Prop := PI X tg iter (upIv Y X.K t)
theorem div_of {tg iter : Expr} {t : DSrc} (h : DI Y X tg iter t) : DIv Y X tg iter t := pi_imp h fun σ H R ⟨Z, F, ρ, n, Q, r, ht, k⟩ => ⟨Z, F, ρ, n, Q, r, ht, fun xs n' F' H' J q g s d w => k xs n' F' H' J q g s d w.toV⟩
def dSrcV (t : DTE) : DSrc := fun ρ n R => t ρ n fun x n' => ∃ ds, seqD x.toD = some ds ∧ R ds n'
theorem di_seqV {tg e : Expr} {t : DTE} (he : WE Y X e t) : DIv Y X tg e (dSrcV t) := pi_imp (pi_seq he) fun σ H R ⟨Z, F, ρ, n, Q, r, ht, k⟩ =>
  ⟨Z, F, ρ, n, _, r, ht, fun x n1 F1 H1 v ⟨ds, e, hx⟩ g1 s1 d1 w1 => by
    cases x with
    | dat d =>
      cases d with
      | list es =>
        cases e
        simp only [VR, Rp] at w1
        obtain ⟨a, vs, rfl, h1, h2⟩ := w1
        exact ⟨a, rfl, .inl ⟨vs, s1 _ _ h1, k _ _ _ _ _ hx g1 s1 d1 (itOk_list h1 h2).toV⟩⟩
      | tuple es =>
        cases e
        simp only [VR, Rp] at w1
        obtain ⟨a, vs, rfl, h1, h2⟩ := w1
        exact ⟨a, rfl, .inr ⟨vs, rdS s1 h1, k _ _ _ _ _ hx g1 s1 d1 (itOk_tup h1 h2).toV⟩⟩
      | _ => cases e
    | vw es =>
      cases e
      obtain ⟨a, vs, rfl, h1, h2, h3⟩ := w1
      exact ⟨a, rfl, .inl ⟨vs, h1, k _ _ _ _ _ hx g1 s1 d1 (itOkV_list h1 h3 h2)⟩⟩
    | mt es => exact w1.elim
    | deck b => cases e
    | md _ _ => exact w1.elim⟩
theorem comp_imv {K : PySem.W.Frag} {s : DSrc} {t : TG} {g : DTG} {sl : List Nat} {tt : DTT} {te : DTE} {vs : List Nat} (hg : GOk K t g sl) (hv : ∀ i ∈ sl, i ∈ vs) : ∀ σ H Q, upM Y K (mComp s g tt te vs) σ H Q → tLc (upIv Y K s) t (upT Y K tt) (up Y K te) vs σ H Q :=
  fun σ H Q ⟨Z, F, ρ, n, R, r, ht, k⟩ => ⟨Z, F, ρ, n, _, r, ht, fun xs n1 F1 H1 J ⟨⟨I, h0, hstep, hend⟩⟩ g1 s1 d1 w1 => by
    have r1 := r.step g1 s1 d1
    intro D hD
    have hD0 : H D = none := by
      cases e : H D with
      | none => rfl
      | some o => exact absurd hD (g1.dH D (by rw [e]; nofun))
    have nD : D ∉ Z.δ.own := fun q => (r1.b.dkF D q).2 hD
    refine ⟨fun i m H2 => m = xs.length - i ∧ i ≤ xs.length ∧ ∃ F2 acc n2 us, Gr Z.δ F1 H1 F2 H2 ∧ Same F2 H2 ∧ Z.δ.at_ K F2 H2 n2 ∧ F2 D = none ∧ H2 D = some (.lst us) ∧ Rps K F2 acc us ∧ I i acc n2, ⟨xs.length, by simp, Nat.zero_le _, ?_⟩, ?_⟩
    · obtain ⟨g2, s2⟩ := Gp.newM (o := .lst []) hD s1
      exact ⟨F1, [], n1, [], g2.gr, s2, g2.dk r1.b, s1.free hD, upd_same, rps_nil, h0⟩
    · rintro i m H2 ⟨rfl, hi, F2, acc, n2, us, g2, s2, d2, f2, hD2, ra, h2⟩
      by_cases hlt : i < xs.length
      · refine .inr ⟨w1.go i H2 g2.kH (g2.sF.trans s2) hlt, fun H' => ∃ F2 acc n2 us, Gr Z.δ F1 H1 F2 H' ∧ Same F2 H' ∧ Z.δ.at_ K F2 H' n2 ∧ F2 D = none ∧ H' D = some (.lst us) ∧ Rps K F2 acc us ∧ I (i + 1) acc n2, fun H' q => ⟨xs.length - (i + 1), by omega, rfl, hlt, q⟩, fun v H3 hy => ?_⟩
        obtain ⟨x, hx⟩ : ∃ x, xs[i]? = some x := ⟨xs[i], by simp [hlt]⟩
        obtain ⟨F3, g3, s3, r3⟩ := w1.yld i H2 v H3 x hy g2.kH F2 g2.sF s2 hx
        have gg3 := g2.trans (g3.gr (δ := Z.δ))
        have r2 := (r1.step g2 s2 d2)
        have d3 := g3.dk r2.b
        have rw3 := (r1.step gg3 s3 d3).wipe vs
        have hD3 : H3 D = some (.lst us) := g3.sH _ _ hD2
        have f3 : F3 D = none := g3.nF D (by rw [hD2]; nofun) f2
        refine hg.im _ _ _ _ _ _ _ _ _ _ _ rw3 r3 (hstep i x acc n2 hx h2) fun σ4 ρ4 h4 r4 hw => ⟨by rw [hw vs hv, wipe_idem], ?_⟩
        refine ⟨Z, F3, ρ4, n2, _, r4, h4, fun b m5 F5 H5 h5 g5 s5 d5 => ?_⟩
        have hD5 : H5 D = some (.lst us) := g5.kH _ _ nD hD3 rfl
        have f5 : F5 D = none := g5.nF D (by rw [hD3]; nofun) f3
        have ra5 : Rps K F5 acc us := Rps.mono (g3.sF.trans g5.sF) acc us ra
        cases b with
        | false => exact ⟨F5, acc, m5, us, gg3.trans g5, s5, d5, f5, hD5, ra5, h5⟩
        | true =>
          refine ⟨Z, F5, ρ4, m5, _, r4.step g5 s5 d5, h5, fun y m6 F6 H6 v6 h6 g6 s6 d6 w6 => ?_⟩
          obtain ⟨d, rfl, hl, h6⟩ := needD_is h6
          have hD6 : H6 D = some (.lst us) := g6.kH _ _ nD hD5 rfl
          have f6 : F6 D = none := g6.nF D (by rw [hD5]; nofun) f5
          have ra6 : Rps K F6 acc us := Rps.mono g6.sF acc us ra5
          refine ⟨us, hD6, by rw [← ra.length]; exact hl, F6, acc ++ [d], m6, us ++ [v6], ?_, ?_, ?_, f6, upd_same, ra6.append (rps_cons w6 rps_nil), h6⟩
          · have gg6 := (gg3.trans g5).trans g6
            exact gg6.chg hD
          · exact fun a o e => by rw [upd_ne (ne_of_none e f6)]; exact s6 _ _ e
          · exact d6.chg nD hD6 rfl
      · have e : i = xs.length := by omega
        subst e
        exact .inl ⟨w1.stop _ H2 g2.kH (g2.sF.trans s2) (Nat.le_refl _), k _ _ _ _ _ _ (hend _ _ h2) (g1.trans g2) s2 d2 hD0 f2 hD2 ra⟩⟩
theorem me_compV {elt tg iter : Expr} {ifs : List Expr} {scope : Scope} {own : List (Str × Nat)} {pos : Pos} {s : DSrc} {t : TG} {g : DTG} {sl : List Nat} {tt : DTT} {te : DTE} (hc : X.calm = true) (hN : X.N.Nodup) (hi : DIv Y X tg iter s) (ok : BlkOk X.N X.env.scope scope own)
    (hk : GOk X.K t g sl) (hg : ∀ (s : Shared) (H : Hp) (C : Addr) (cl : List (Str × Addr)) (fp : List Addr), PG (X.blk s H scope (compEnvC scope cl C X.env) fp) tg t) (ht : ∀ (s : Shared) (H : Hp) (C : Addr) (cl : List (Str × Addr)) (fp : List Addr), WTs Y (X.blk s H scope (compEnvC scope cl C X.env) fp) ifs tt)
    (he : ∀ (s : Shared) (H : Hp) (C : Addr) (cl : List (Str × Addr)) (fp : List Addr), WE Y (X.blk s H scope (compEnvC scope cl C X.env) fp) elt te) (hv : ∀ i ∈ sl, i ∈ own.map (·.2)) (hs : ∀ x, foldedSetIterable iter X.env x = pure x := by intro _; rfl) :
    ME Y X (.ListComp elt [⟨tg, iter, ifs, 0⟩] scope pos) (mComp s g tt te (own.map (·.2))) :=
  pe_imp (pe_lc hc hN hi ok hg ht he hs) (comp_imv hk hv)
/-- name = [..] on one line -/
theorem ds_setLcV {i : Nat} {y : Str} {py : Pos} {elt tg iter : Expr} {ifs : List Expr} {scope : Scope} {own : List (Str × Nat)} {pos spos : Pos} {s : DSrc} {t : TG} {g : DTG} {sl : List Nat} {tt : DTT} {te : DTE} {u : DTE} (hc : X.calm = true) (hN : X.N.Nodup) (hy : X.N[i]? = some y) (hyl : X.env.scope.names.lookup y = some .local)
    (hsw : swapsWith (.ListComp elt [⟨tg, iter, ifs, 0⟩] scope pos) (some (.Name y py)) spos.line X.env = pure true) (hi : DIv Y X tg iter s) (ok : BlkOk X.N X.env.scope scope own)
    (hk : GOk X.K t g sl) (hg : ∀ (s : Shared) (H : Hp) (C : Addr) (cl : List (Str × Addr)) (fp : List Addr), PG (X.blk s H scope (compEnvC scope cl C X.env) fp) tg t) (ht : ∀ (s : Shared) (H : Hp) (C : Addr) (cl : List (Str × Addr)) (fp : List Addr), WTs Y (X.blk s H scope (compEnvC scope cl C X.env) fp) ifs tt)
    (he : ∀ (s : Shared) (H : Hp) (C : Addr) (cl : List (Str × Addr)) (fp : List Addr), WE Y (X.blk s H scope (compEnvC scope cl C X.env) fp) elt te) (hv : ∀ i ∈ sl, i ∈ own.map (·.2))
    (hu : ∀ σ H Q, upX Y X.K u σ H Q → upM Y X.K (mComp s g tt te (own.map (·.2))) σ H Q) (hs : ∀ x, foldedSetIterable iter X.env x = pure x := by intro _; rfl) :
    DS Y X (.Assign [.Name y py] (.ListComp elt [⟨tg, iter, ifs, 0⟩] scope pos) spos) (dAsg i u) :=
  ps_imp (ps_setLc hc hN hy hyl hsw hi ok hg ht he hs) fun D σ H h => by
    have h2 := asg_im D σ H h
    exact comp_imv hk hv _ _ _ (hu _ _ _ h2)
end DL
namespace DL
open PySem PySem.Spec PyProof.Rows L2
variable {X : Cx} {Y : Fx}
/-- .. each a turn's draws or fewer -/
theorem compR_le {m : Nat} (xs : List PyData) (P : PyData → Prop) (d : Nat) {n : Wo} {step : CStep} {R : List PyData → Wo → Prop} (hl : xs.length = m)
    (h : ∀ (k : Nat) x, xs[k]? = some x → k < m → ∀ acc q K, acc.length = k → q ≤ n + k * d → (∀ y q', P y → q' ≤ n + (k + 1) * d → K (acc ++ [y]) q') → step x acc q K) (hR : ∀ ys q, ys.length = m → (∀ y ∈ ys, P y) → q ≤ n + m * d → R ys q) : CompR xs n step R := by
  refine ⟨fun k acc q => q ≤ n + k * d ∧ acc.length = k ∧ ∀ y ∈ acc, P y, ⟨Wo.le0 n d, rfl, fun _ hy => (nomatch hy)⟩, ?_, ?_⟩
  · rintro k x acc q hx ⟨h0, h1, h2⟩
    have hk : k < m := by rw [← hl]; exact (List.getElem?_eq_some_iff.mp hx).1
    refine h k x hx hk acc q _ h1 h0 fun y q' hy hq => ⟨hq, by simp [h1], fun z hz => ?_⟩
    rcases List.mem_append.mp hz with w | w
    · exact h2 z w
    · rw [List.mem_singleton.mp w]; exact hy
  · rintro acc q ⟨h0, h1, h2⟩
    rw [hl] at h0 h1
    exact hR acc q h1 h2 h0
end DL
namespace DL
open PySem PySem.Spec PyProof.Rows L2
variable {X : Cx} {Y : Fx}
def rSetT (K : PySem.W.Frag) (w : World) : List V → Hp → VK → Prop := fun vs H Q => ∃ (a : Addr) (ns : List Int), vs = [.ref a] ∧ SqT K H a (ns.map V.int) ∧ ns.length ≤ 1000 ∧ ∀ p n, H p = none → n ≤ ns.length → Q (.ref p) (upd H p (SetO w p (fun j => decide (j ∈ ns)) n))
theorem cr_setT (hc : X.calm = true) : CallR X (.type "set") (rSetT X.K X.w) := by
  intro pins s σ H vs us Q I r h
  obtain ⟨a, ns, rfl, hs, hl, q⟩ := h
  obtain ⟨its, rv, p, hz⟩ := I.tuple hs
  rw [Vals.ref1 r]
  refine call_set_tupI ns (I.ok.hd hc) (show s.heap.IsTuple a its.toArray from p) (by simpa using intsAre_of rv) (Nat.lt_of_le_of_lt (Nat.succ_le_succ hl) (by decide)) fun h' tk c R hc' hk => ?_
  exact ⟨.ref _, upd H s.heap.objs.size (SetO X.w s.heap.objs.size (fun j => decide (j ∈ ns)) c), I.laid (t' := tk) hk (Nat.le_refl _) (setO_new R), rfl, q _ c (I.hok.fresh (Nat.le_refl _)) hc'⟩
def mSortSet (t : DTE) : DTM := fun ρ n R => t ρ n fun x n' => ∃ ns : List Int, x = .dat (.tuple (ns.map .int)) ∧ ns.length ≤ 60 ∧ ∀ ms : List Int, ms.Pairwise (· < ·) → (∀ k, k ∈ ms ↔ k ∈ ns) → R (ms.map .int) n'
theorem me_sortedSet {e : Expr} {t : DTE} {p p2 pos pos2 : Pos} (hc : X.calm = true) (hg : Gl X "sorted") (hm : X.mg "sorted" = none) (hg2 : Gl X "set") (hm2 : X.mg "set" = none) (he : WE Y X e t)
    (h1 : starEach [e] X.env = (false, eval e X.env) :: starEach [] X.env := by rfl) (h2 : (backTo pos2 (starEach [] X.env)).any (·.1) = false := by rfl)
    (h3 : starEach [.Call (.Name "set" p2) [e] [] pos2] X.env = (false, eval (.Call (.Name "set" p2) [e] [] pos2) X.env) :: starEach [] X.env := by rfl) (h4 : (backTo pos (starEach [] X.env)).any (·.1) = false := by rfl) :
    ME Y X (.Call (.Name "sorted" p) [.Call (.Name "set" p2) [e] [] pos2] [] pos) (mSortSet t) :=
  pe_imp (pe_callB (cr_sortedSet hc) hg hm PyProof.Rows.boot_sorted (pa_cons (pe_callTy (cr_setT hc) hg2 hm2 (by rfl) (pa_cons he pa_nil h1) (by decide) (by decide) h1 h2) pa_nil h3) (by decide) (by decide) h3 h4) fun σ H Q ⟨Z, F, ρ, n, R, r, ht, k⟩ =>
    ⟨Z, F, ρ, n, _, r, ht, fun x n1 F1 H1 v hx g1 s1 d1 w1 => by
      obtain ⟨ns, rfl, hl, hx⟩ := hx
      simp only [VR, Rp] at w1
      obtain ⟨a, us, rfl, e1, e2⟩ := w1
      rw [e2.ints] at e1
      have r1 := r.step g1 s1 d1
      refine ⟨a, ns, rfl, sqtR (rdS s1 e1), by omega, fun p c hp hcn => ⟨p, _, c, rfl, upd_same, by omega, fun ms q m1 m2 _ hq => ?_⟩⟩
      obtain ⟨g2, s2⟩ := Gp.newM (o := SetO X.w p (fun j => decide (j ∈ ns)) c) hp s1
      have r2 := r1.step g2.gr s2 (g2.dk r1.b)
      obtain ⟨g3, s3⟩ := Gp.newM (o := .lst (ms.map V.int)) hq s2
      have hq0 : H q = none := by
        cases e : H q with
        | none => rfl
        | some o => exact absurd hq ((g1.trans g2.gr).dH q (by rw [e]; nofun))
      exact k (ms.map .int) n1 F1 _ q _ (hx ms m1 fun k => (m2 k).trans (by simp)) ((g1.trans g2.gr).trans g3.gr) s3 (g3.dk r2.b) hq0 (s2.free hq) upd_same (rps_ints ms)⟩
end DL
namespace DL
open PySem PySem.Spec PyProof.Rows L2
variable {X : Cx} {Y : Fx}
def dPop (i : Nat) : DTS := fun E ρ n => ∃ ds d, ρ[i]? = some (some (.mt ds)) ∧ ds[ds.length - 1]? = some d ∧ E.nx (ρ.set i (some (.mt ds.dropLast))) n
theorem Rps.dropLast {K : PySem.W.Frag} {F : Hp} {ds : List PyData} {vs : List V} (h : Rps K F ds vs) : Rps K F ds.dropLast vs.dropLast := by
  rw [List.dropLast_eq_take, List.dropLast_eq_take, h.length]
  exact Rps.take _ h
theorem ds_pop {i : Nat} {o : Expr} {apos cpos pos : Pos} (ho : PE X o (tVar i)) (hbase : attributeBase o "pop" X.env (eval o X.env) = eval o X.env := by rfl) (hline : (apos.endLine == cpos.line) = true := by rfl)
    (hs : swapsWith (.Call (.Attribute o "pop" apos) [] [] cpos) none pos.line X.env = pure false := by rfl) : DS Y X (.Expr (.Call (.Attribute o "pop" apos) [] [] cpos) pos) (dPop i) :=
  ps_imp (ps_expr (pe_bm0 PySem.F.plainAttrs_list PySem.F.slot_list_pop PySem.F.type_list_pop mt_pop ho hbase hline) hs) fun D σ H ⟨Z, F, ρ, n, E, r, ⟨ds, d, e0, hd, hx⟩, k⟩ => by
    obtain ⟨a, vs, q1, q2, q3⟩ := r.own e0
    obtain ⟨y, hy, _⟩ := q3.get hd
    exact ⟨_, q1, .inl ⟨rfl, vs, SqL.of q2⟩, a, vs, y, rfl, rfl, q2, by rw [← q3.length]; exact hy, k.nx _ _ _ _ _ hx (r.mut e0 q1 q3.dropLast)⟩
end DL
namespace DL
open PySem PySem.Spec PyProof.Rows L2
variable {X : Cx} {Y : Fx}
section
variable {prog : Program} {w : World} {A : Around} {E : Value → Shared → Prop} {s : Shared}
theorem collectT {l : Addr} {vs : List Value} {Q : List Value → Shared → Prop} (hl : s.heap.IsTuple l vs.toArray) (hz : vs.length ≤ sizeLine)
    (h : Q vs { s with heap := (s.heap.push (seqObj "list" #[] 0)).update s.heap.objs.size (Obj.mapSeq (· ++ vs.toArray)) }) : wpAny (model prog w) A (collect (.ref l)) Q E s := by
  obtain ⟨o, ho, hc, n, hd⟩ := id hl
  have hnew : (s.heap.push (seqObj "list" #[] 0)).get? s.heap.objs.size = some (seqObj "list" #[] 0) := Heap.get?_push_size _ rfl
  have hold : (s.heap.push (seqObj "list" #[] 0)).get? l = some o := Heap.get?_push_of_some _ ho
  have tnew : Code.quiet (.builtin "list.__iadd__" ⟨[.ref s.heap.objs.size, .ref l], []⟩) = true := Code.quiet_builtin _ (by decide +kernel)
  have grown := get?_update_seq hnew (· ++ vs.toArray)
  have fit : (#[] ++ vs.toArray : Array Value).size ≤ sizeLine + 1 := by simp only [Array.size_append, List.size_toArray, List.length_nil]; omega
  have back : ((#[] : Array Value) ++ vs.toArray).toList = vs := by simp
  unfold collect
  refine wpAny_bind (wpAny_runValue (codeAny_builtin entry_proto_collect' (wpAny_bind (m := newList []) (wpAny_newList (wpAny_pure ⟨tnew, codeAny_builtin entry_list_iadd' ?_⟩)))))
  show wpAny _ _ (Builtin.List.listExtendWith (.ref s.heap.objs.size) (.ref l) (.ref s.heap.objs.size)) _ _ ({ s with heap := s.heap.push (seqObj "list" #[] 0) } : Shared)
  unfold Builtin.List.listExtendWith
  have two : (Builtin.List.listSameRef (.ref s.heap.objs.size) (.ref l) || (Value.type "tuple" == Value.type "list") || (Value.type "tuple" == Value.type "tuple")) = true := by rw [Bool.or_eq_true]; exact .inr rfl
  refine wpAny_bind (wpAny_typeOf (T := "tuple") ⟨o, hold, hc⟩ ?_)
  rw [if_pos two]
  refine wpAny_bind (listItems_at hold hd (wpAny_bind (listItems_at hnew rfl ?_)))
  have mt0 : ¬ ((!(#[] : Array Value).isEmpty && Builtin.List.listTooLong ((#[] : Array Value).size + vs.toArray.size)) = true) := by simp
  rw [if_neg mt0]
  refine wpAny_bind (listUpdate_at hnew rfl (wpAny_pure ?_) (Nat.zero_le _) fit)
  refine wpAny_bind (m := load s.heap.objs.size) (wpAny_load grown ?_)
  show wpAny _ _ (Pure.pure ((#[] : Array Value) ++ vs.toArray).toList) Q E _
  rw [back]
  exact wpAny_pure h
/-- sorted(t): the collected list at size, the new one behind it -/
theorem sortedT {l : Addr} {vs : List Value} {ltv : Value → Value → Bool} {Q : Value → Shared → Prop} (O : SrtO.Swo ltv) (hl : s.heap.IsTuple l vs.toArray) (hz : vs.length ≤ sizeLine)
    (hS : 2 ≤ vs.length → ∀ (h₁ : Heap) (a : Addr), SrtO.SortableO prog w A.in1.in1 { s with heap := h₁ } a vs ltv)
    (h : ∀ out : List Value, SrtO.Srtd ltv out → SrtO.Stb ltv out vs → Q (.ref (s.heap.objs.size + 1)) { s with heap := sortedAll s.heap vs out.toArray }) : wpAny (model prog w) A (call (.builtin "sorted") [.ref l]) Q E s := by
  have sz1 : ((s.heap.push (seqObj "list" #[] 0)).update s.heap.objs.size (Obj.mapSeq (· ++ vs.toArray))).objs.size = s.heap.objs.size + 1 := (Heap.size_update ..).trans (size_push' ..)
  have at1 := Heap.get?_push_size ((s.heap.push (seqObj "list" #[] 0)).update s.heap.objs.size (Obj.mapSeq (· ++ vs.toArray))) (o := seqObj "list" vs.toArray 0) rfl
  refine Calls.call_function_entry kind_sorted plain_sorted entry_sorted (args_sorted1 _) ?_
  unfold Builtin.«sorted»
  refine wpAny_bind (m := checkCount "sorted" 1 1 _) (wpAny_pure (wpAny_bind (collectT hl hz (wpAny_bind (wpAny_newList ?_ hz)))))
  rw [sz1] at at1 ⊢
  exact wpAny_bind (wpAny_holding (wpAny_call_entry slot_list_sort ⟨_, at1, rfl⟩ entry_list_sort (SrtO.list_sort_ord O at1 hz (fun h2 => hS h2 _ _) fun out hs hb => ⟨_, rfl, wpAny_pure ⟨_, rfl, h out hs hb⟩⟩) (args_list_sort _)))
end
def rSortIT (K : PySem.W.Frag) : List V → Hp → VK → Prop := fun vs H Q => ∃ (a : Addr) (ns : List Int), vs = [V.ref a] ∧ SqT K H a (ns.map V.int) ∧
  ∀ (ns' : List Int) (p : Addr), ns'.Perm ns → ns'.Pairwise (· ≤ ·) → H p = none → Q (.ref p) (upd H p (.lst (ns'.map V.int)))
theorem cr_sortIT : CallR X (.builtin "sorted") (rSortIT X.K) := by
  intro pins s σ H vs us Q I r ⟨a, ns, e, hs, q⟩
  subst e
  obtain ⟨its, rv, hl, hz⟩ := I.tuple hs
  have hi := rv.ints
  rw [Vals.ref1 r]
  refine sortedT SrtO.swo_int (show s.heap.IsTuple a its.toArray from hl) (by rw [← rv.length]; exact hz) (fun h2 h₁ a' => SrtO.ints_sortable hi h2) fun out h1 h2 => ?_
  obtain ⟨k1, k2, k3⟩ := SrtO.ints_out hi h1 h2
  obtain ⟨ep, he'⟩ := PyProof.Rows.sortedAll_at s.heap its out.toArray
  have hlen : ((out.map SrtO.iv).map V.int).length ≤ sizeLine := by
    have := k2.length_eq
    rw [List.length_map] at hz ⊢
    omega
  have inv := I.laid (t' := s.toks) (fun _ _ => PyProof.Rows.sortedAll_old) (Nat.le_succ _) (a := s.heap.objs.size + 1) (o := .lst ((out.map SrtO.iv).map V.int)) ⟨hlen, out, ep, vals_of_ints k1, he'⟩
  exact ⟨.ref _, _, inv, rfl, q _ _ k2 k3 (I.hok.fresh (Nat.le_succ _))⟩
def oSortIT : DCM := fun xs R => ∃ x, ∃ ns : List Int, xs = [x] ∧ x.toD = .tuple (ns.map .int) ∧ ∀ ns' : List Int, ns'.Perm ns → ns'.Pairwise (· ≤ ·) → R (ns'.map .int)
theorem ck_sortIT {K : PySem.W.Frag} : CallOkM K (rSortIT K) oSortIT := fun δ F H xs vs R Q hs hv ⟨x, ns, e, e2, hr⟩ b => by
  subst e
  obtain ⟨v, rfl, h1⟩ := vr1 hv
  obtain ⟨a, us, rfl, h2, h3⟩ := h1.tpl hs e2
  rw [h3.ints] at h2
  exact ⟨a, ns, rfl, sqtR (rdS hs h2), fun ns' p k1 k2 hp => b _ _ _ (hr ns' k1 k2) hp (rps_ints ns')⟩
end DL
set_option maxHeartbeats 4000000
namespace DL
open PySem PySem.Spec PyProof.Rows L2
variable {X : Cx} {Y : Fx}
def dThaw (i : Nat) (t : DTS) : DTS := fun E ρ n => ∃ ds, ρ[i]? = some (some (.mt ds)) ∧ t E (ρ.set i (some (.dat (.list ds)))) n
theorem dss_thaw {i : Nat} {sts : List Stmt} {t : DTS} (h : DSs Y X sts t) : DSs Y X sts (dThaw i t) :=
  pss_imp h fun D σ H ⟨Z, F, ρ, n, E, r, ⟨ds, e, hx⟩, k⟩ => by
    obtain ⟨F', a, e1, r', _⟩ := r.freeze e
    exact ⟨Z, F', _, n, E, r', hx, k⟩
end DL
namespace DL
open PySem PySem.Spec PyProof.Rows L2
variable {X : Cx} {Y : Fx}
theorem isInt_of {k : Int} {v : Value} (h : Value.isInt k v = true) : ∃ t, v = .int k t := by
  unfold Value.isInt at h
  split at h
  · have := of_decide_eq_true h
    subst this
    exact ⟨_, rfl⟩
  · cases h
theorem isStr_of {k : Str} {v : Value} (h : Value.isStrOf k v = true) : ∃ t, v = .str k t := by
  unfold Value.isStrOf at h
  split at h
  · have := eq_of_beq h
    subst this
    exact ⟨_, rfl⟩
  · cases h
theorem dict_entries {prog : Program} {w : World} : ∀ {ps : List (Key × Int)} {es : List DictEntry} {vs : List (Key × Value)}, Pairs (mixKind prog w) es vs → KV (ps.map fun p => (p.1, V.int p.2)) vs →
    ∀ h : Heap, ReadsAll h (es.map (·.key)) (ps.map fun p => keyD p.1) [] ∧ ReadsAll h (es.map (·.val)) (ps.map fun p => PyData.int p.2) []
  | [], es, vs, hp, hk, h => by
    cases hk
    cases hp
    exact ⟨.nil, .nil⟩
  | p :: ps, es, vs, hp, hk, h => by
    cases hk with
    | cons a b =>
      cases hp with
      | cons c d e =>
        obtain ⟨i1, i2⟩ := dict_entries e b h
        obtain ⟨a1, a2⟩ := a
        obtain ⟨t, a2⟩ := a2
        rw [← a1] at c
        refine ⟨?_, ?_⟩
        · cases hk1 : p.1 with
          | inl i =>
            rw [hk1] at c
            obtain ⟨t, ht⟩ := isInt_of c
            rw [List.map_cons, List.map_cons, hk1, ht]
            exact .cons (as := []) (.int i t) i1
          | inr x =>
            rw [hk1] at c
            obtain ⟨t, ht⟩ := isStr_of c
            rw [List.map_cons, List.map_cons, hk1, ht]
            exact .cons (as := []) (.str x t) i1
        · rw [List.map_cons, List.map_cons, d, a2]
          exact .cons (as := []) (.int p.2 t) i2
section
variable {pins : List (Addr × Obj)} {σ : L2.St} {H : Hp} {s : Shared}
theorem ref_hidden (a : Addr) : (refD a).showable = false := by
  show PyData.showable (.dict [(.none, .int (((2 : Nat) ^ 2000 + a : Nat) : Int))]) = false
  simp only [PyData.showable, PyData.showableKv, Bool.true_and, Bool.and_true]
  refine decide_eq_false fun h => ?_
  have e : ((((2 : Nat) ^ 2000 + a : Nat) : Int)).natAbs = 2 ^ 2000 + a := Int.natAbs_natCast _
  rw [e] at h
  have h2 : 2000 ≤ (2 ^ 2000 + a).log2 := (Nat.le_log2 (by have := Nat.two_pow_pos 2000; omega)).mpr (Nat.le_add_right _ _)
  omega
theorem cln_hidden (ns : List Int) : (clnD ns).showable = false := by
  have h := ref_hidden (0 : Nat)
  rw [show refD (0 : Nat) = PyData.dict [(.none, .int (((2 : Nat) ^ 2000 : Nat) : Int))] from rfl] at h
  simp only [PyData.showable, PyData.showableKv, Bool.true_and, Bool.and_true] at h
  unfold clnD
  simp only [PyData.showable, PyData.showableKv, PyData.showableAll, Bool.true_and, Bool.and_true]
  rw [h, Bool.false_and]
theorem ref_unshown {H : Hp} {kvs : List (PyData × PyData)} {v : V} (hs : (PyData.dict kvs).showable = true) : ¬ ((∃ a : Addr, PyData.dict kvs = refD a ∧ v = .ref a) ∨ ∃ (a : Addr) (ns : List Int) (o : Obj), PyData.dict kvs = clnD ns ∧ v = .ref a ∧ H a = some (.frz o (.tup (ns.map V.int))) ∧ o.cls = .type "tuple" ∧ o.dict = none) := by
  rintro (⟨a, e, _⟩ | ⟨_, ns, _, e, _⟩)
  · rw [e, ref_hidden] at hs
    cases hs
  · rw [e, cln_hidden] at hs
    cases hs
mutual
theorem Rp.readsE (I : Inv X pins σ H s) : ∀ (d : PyData) (v : V) (u : Value), Rp X.K H d v → L2.RelV v u → d.showable = true → ∃ as, Reads s.heap u d as
  | .none, v, u, h, r, _ => by simp only [Rp] at h; subst h; cases r; exact ⟨[], .none⟩
  | .bool b, v, u, h, r, _ => by simp only [Rp] at h; subst h; cases r; exact ⟨[], .bool b⟩
  | .int i, v, u, h, r, _ => by simp only [Rp] at h; subst h; obtain ⟨t, rfl⟩ := r; exact ⟨[], .int i t⟩
  | .str x, v, u, h, r, _ => by simp only [Rp] at h; subst h; obtain ⟨t, rfl⟩ := r; exact ⟨[], .str x t⟩
  | .list ds, v, u, h, r, hs => by
    simp only [Rp] at h
    obtain ⟨a, xs, rfl, h1, h2⟩ := h
    cases r
    obtain ⟨_, its, n, hv, hg⟩ := I.hok a _ h1
    obtain ⟨as, hr⟩ := Rps.readsE I ds xs its h2 hv (by simpa only [PyData.showable] using hs)
    exact ⟨a :: as, .list hg rfl rfl hr⟩
  | .tuple ds, v, u, h, r, hs => by
    simp only [Rp] at h
    obtain ⟨a, xs, rfl, h1, h2⟩ := h
    cases r
    obtain ⟨_, its, hv, o, hg, hc, n, hd⟩ := tupOk I h1
    obtain ⟨as, hr⟩ := Rps.readsE I ds xs its h2 hv (by simpa only [PyData.showable] using hs)
    exact ⟨as, .tuple hg hc hd hr⟩
  | .dict kvs, v, u, h, r, hs => by
    simp only [Rp] at h
    obtain ⟨a, ks, rfl, h1, ps, rfl, rfl⟩ := h.resolve_right (ref_unshown hs)
    cases r
    obtain ⟨_, _, vs, hk, o, es, ep, hg, hx, hd, _, hp, _⟩ := dk_of I.hok h1
    obtain ⟨r1, r2⟩ := dict_entries hp hk s.heap
    refine ⟨_, .dict hg hx.1 hd (as := []) (bs := []) ?_ ?_⟩
    · rw [List.map_map]; exact r1
    · rw [List.map_map]; exact r2
theorem Rps.readsE (I : Inv X pins σ H s) : ∀ (ds : List PyData) (vs : List V) (us : List Value), Rps X.K H ds vs → Vals vs us → PyData.showableAll ds = true → ∃ as, ReadsAll s.heap us ds as
  | [], vs, us, h, r, _ => by simp only [Rps] at h; subst h; cases r; exact ⟨[], .nil⟩
  | d :: ds, vs, us, h, r, hs => by
    simp only [Rps] at h
    obtain ⟨v, vs', rfl, h1, h2⟩ := h
    simp only [PyData.showableAll, Bool.and_eq_true] at hs
    cases r with
    | cons r1 r2 =>
      obtain ⟨as, a1⟩ := Rp.readsE I d v _ h1 r1 hs.1
      obtain ⟨bs, a2⟩ := Rps.readsE I ds vs' _ h2 r2 hs.2
      exact ⟨as ++ bs, .cons a1 a2⟩
end
theorem leafK {h : Heap} {u : Value} {d : PyData} {as : List Addr} {P : Program} {w : World} (r : Reads h u d as) (hs : d.showable = true) (hd : d.hasDict = false) (hl : d.shown.length ≤ sizeLine) : ∃ bs, ReadAtMost h d.depth bs ∧ ReprK P w bs h d.depth u d.shown :=
  ReprK.of_reads r hs (fun q => by rw [hd] at q; cases q) hl
theorem dictE (I : Inv X pins σ H s) {a : Addr} {ps : List (Key × Int)} {as : List Addr} (h1 : H a = some (.dK (ps.map fun p => (p.1, V.int p.2)))) (q : Reads s.heap (.ref a) (.dict (ps.map fun p => (keyD p.1, PyData.int p.2))) as)
    (hs : (PyData.dict (ps.map fun p => (keyD p.1, PyData.int p.2))).showable = true) (hl : (PyData.dict (ps.map fun p => (keyD p.1, PyData.int p.2))).shown.length ≤ sizeLine) :
    ∃ o es ep bs, s.heap.get? a = some o ∧ o.cls = .type "dict" ∧ o.data = .dict es ep ∧ (a == sysModules) = false ∧ ReadAtMost s.heap (PyData.depthKv (ps.map fun p => (keyD p.1, PyData.int p.2))) bs ∧ a ∉ bs ∧
      ReprEntriesK X.prog X.w bs s.heap (PyData.depthKv (ps.map fun p => (keyD p.1, PyData.int p.2))) es.toList (PyData.shownKv (ps.map fun p => (keyD p.1, PyData.int p.2))) := by
  obtain ⟨_, low, vs, hk, o, es, ep, hg, hx, hd, _, hp, _⟩ := dk_of I.hok h1
  obtain ⟨r1, r2⟩ := dict_entries hp hk s.heap
  generalize hkv : (ps.map fun p => (keyD p.1, PyData.int p.2)) = kvs at q hs hl ⊢
  have r1' : ReadsAll s.heap (es.toList.map (·.key)) (kvs.map (·.1)) [] := by rw [← hkv, List.map_map]; exact r1
  have r2' : ReadsAll s.heap (es.toList.map (·.val)) (kvs.map (·.2)) [] := by rw [← hkv, List.map_map]; exact r2
  obtain ⟨sk, sv⟩ := PyData.showableKv_split kvs (by simpa only [PyData.showable] using hs)
  have hl : (dictText (PyData.shownKv kvs)).length ≤ sizeLine := by rw [← PyData.shown.eq_7]; exact hl
  obtain ⟨b1, m1, k1⟩ := ReprAllK.of_readsAll (prog := X.prog) (w := X.w) r1' sk (fun _ h => (nomatch h)) fun t ht => by
    obtain ⟨p, hp, hle⟩ := PyData.shownKv_key_le _ t ht
    exact Nat.le_trans hle (Nat.le_trans (dictText_mem_le hp) hl)
  obtain ⟨b2, m2, k2⟩ := ReprAllK.of_readsAll (prog := X.prog) (w := X.w) r2' sv (fun _ h => (nomatch h)) fun t ht => by
    obtain ⟨p, hp, hle⟩ := PyData.shownKv_val_le _ t ht
    exact Nat.le_trans hle (Nat.le_trans (dictText_mem_le hp) hl)
  have hdp : (PyData.dict kvs).depth = PyData.depthKv kvs + 1 := by simp only [PyData.depth]
  have d1 := PyData.depthAll_keys_le kvs
  have d2 := PyData.depthAll_vals_le kvs
  have m3 : ReadAtMost s.heap (PyData.depthKv kvs) (b1 ++ b2) := ReadAtMost.append (m1.mono d1) (m2.mono d2)
  have nin : a ∉ b1 ++ b2 := not_mem_of_deeper q (by rw [hdp]; exact Nat.lt_succ_self _) m3
  refine ⟨o, es, ep, b1 ++ b2, hg, hx.1, hd, low, m3, nin, ?_⟩
  rw [PyData.shownKv_eq]
  exact ReprEntriesK.of_two es.toList _ _ (k1.more_le (fun b hb => List.mem_append_left _ hb) d1) (k2.more_le (fun b hb => List.mem_append_right _ hb) d2)
mutual
theorem Rp.reprE (I : Inv X pins σ H s) : ∀ (d : PyData) (v : V) (u : Value), Rp X.K H d v → L2.RelV v u → d.showable = true → d.shown.length ≤ sizeLine → ∃ bs, ReadAtMost s.heap d.depth bs ∧ ReprK X.prog X.w bs s.heap d.depth u d.shown
  | .none, v, u, h, r, hs, hl => by obtain ⟨as, q⟩ := Rp.readsE I _ v u h r hs; exact leafK q hs rfl hl
  | .bool b, v, u, h, r, hs, hl => by obtain ⟨as, q⟩ := Rp.readsE I _ v u h r hs; exact leafK q hs rfl hl
  | .int i, v, u, h, r, hs, hl => by obtain ⟨as, q⟩ := Rp.readsE I _ v u h r hs; exact leafK q hs rfl hl
  | .str x, v, u, h, r, hs, hl => by obtain ⟨as, q⟩ := Rp.readsE I _ v u h r hs; exact leafK q hs rfl hl
  | .list ds, v, u, h, r, hs, hl => by
    obtain ⟨as, q⟩ := Rp.readsE I _ v u h r hs
    simp only [Rp] at h
    obtain ⟨a, xs, rfl, h1, h2⟩ := h
    cases r
    obtain ⟨_, its, n, hv, hg⟩ := I.hok a _ h1
    have hl2 : ∀ t ∈ PyData.shownAll ds, t.length ≤ sizeLine := fun t ht => Nat.le_trans (listText_mem_le ht) hl
    obtain ⟨bs, b1, b2⟩ := Rps.reprE I ds xs its h2 hv (by simpa only [PyData.showable] using hs) hl2
    have hdp : (PyData.list ds).depth = PyData.depthAll ds + 1 := by simp only [PyData.depth]
    have nin : a ∉ bs := not_mem_of_deeper q (by rw [hdp]; exact Nat.lt_succ_self _) b1
    refine ⟨a :: bs, fun b hb => ?_, ?_⟩
    · rcases List.mem_cons.mp hb with rfl | hb
      · exact ⟨_, _, q, Nat.le_refl _⟩
      · obtain ⟨e, es, x1, x2⟩ := b1 b hb
        exact ⟨e, es, x1, by rw [hdp]; omega⟩
    · rw [hdp]
      show ReprK X.prog X.w (a :: bs) s.heap (PyData.depthAll ds + 1) (.ref a) (listText (PyData.shownAll ds))
      cases its with
      | nil =>
        have hn : PyData.shownAll ds = [] := List.eq_nil_of_length_eq_zero b2.length_eq
        rw [hn]
        exact ReprK.listEmpty hg rfl rfl
      | cons x l => exact ReprK.list hg rfl rfl nin (by rw [b2.length_eq]; simp) fun i y hy => b2.item i y (by simpa using hy)
  | .tuple ds, v, u, h, r, hs, hl => by
    obtain ⟨as, q⟩ := Rp.readsE I _ v u h r hs
    simp only [Rp] at h
    obtain ⟨a, xs, rfl, h1, h2⟩ := h
    cases r
    obtain ⟨_, its, hv, o, hg, hc, n, hd⟩ := tupOk I h1
    have hl2 : ∀ t ∈ PyData.shownAll ds, t.length ≤ sizeLine := fun t ht => Nat.le_trans (tupleText_mem_le ht) hl
    obtain ⟨bs, b1, b2⟩ := Rps.reprE I ds xs its h2 hv (by simpa only [PyData.showable] using hs) hl2
    have hdp : (PyData.tuple ds).depth = PyData.depthAll ds + 1 := by simp only [PyData.depth]
    have nin : a ∉ bs := not_mem_of_deeper q (by rw [hdp]; exact Nat.lt_succ_self _) b1
    refine ⟨a :: bs, fun b hb => ?_, ?_⟩
    · rcases List.mem_cons.mp hb with rfl | hb
      · exact ⟨_, _, q, Nat.le_refl _⟩
      · obtain ⟨e, es, x1, x2⟩ := b1 b hb
        exact ⟨e, es, x1, by rw [hdp]; omega⟩
    · rw [hdp]
      exact ReprK.tuple hg hc hd nin (by simpa using b2)
  | .dict kvs, v, u, h, r, hs, hl => by
    obtain ⟨as, q⟩ := Rp.readsE I _ v u h r hs
    simp only [Rp] at h
    obtain ⟨a, ks, rfl, h1, ps, rfl, rfl⟩ := h.resolve_right (ref_unshown hs)
    cases r
    have hdp : (PyData.dict (ps.map fun p => (keyD p.1, PyData.int p.2))).depth = PyData.depthKv (ps.map fun p => (keyD p.1, PyData.int p.2)) + 1 := by simp only [PyData.depth]
    obtain ⟨o, es, ep, bs, hg, hc, hd, low, m3, nin, k⟩ := dictE I h1 q hs hl
    refine ⟨a :: bs, fun b hb => ?_, ?_⟩
    · rcases List.mem_cons.mp hb with rfl | hb
      · exact ⟨_, _, q, Nat.le_refl _⟩
      · obtain ⟨e, es, x1, x2⟩ := m3 b hb
        exact ⟨e, es, x1, by rw [hdp]; omega⟩
    · rw [hdp, PyData.shown.eq_7]
      exact ReprK.dict hg hc hd low nin k
theorem Rps.reprE (I : Inv X pins σ H s) : ∀ (ds : List PyData) (vs : List V) (us : List Value), Rps X.K H ds vs → Vals vs us → PyData.showableAll ds = true → (∀ t ∈ PyData.shownAll ds, t.length ≤ sizeLine) → ∃ bs, ReadAtMost s.heap (PyData.depthAll ds) bs ∧ ReprAllK X.prog X.w bs s.heap (PyData.depthAll ds) us (PyData.shownAll ds)
  | [], vs, us, h, r, _, _ => by simp only [Rps] at h; subst h; cases r; exact ⟨[], fun _ h => (nomatch h), .nil⟩
  | d :: ds, vs, us, h, r, hs, hl => by
    simp only [Rps] at h
    obtain ⟨v, vs', rfl, h1, h2⟩ := h
    simp only [PyData.showableAll, Bool.and_eq_true] at hs
    cases r with
    | cons r1 r2 =>
      obtain ⟨as, a1, a2⟩ := Rp.reprE I d v _ h1 r1 hs.1 (hl _ (by simp only [PyData.shownAll]; exact List.mem_cons_self))
      obtain ⟨bs, b1, b2⟩ := Rps.reprE I ds vs' _ h2 r2 hs.2 fun t ht => hl t (by simp only [PyData.shownAll]; exact List.mem_cons_of_mem _ ht)
      have e : PyData.depthAll (d :: ds) = max d.depth (PyData.depthAll ds) := by simp only [PyData.depthAll]
      refine ⟨as ++ bs, ReadAtMost.append (a1.mono (by rw [e]; omega)) (b1.mono (by rw [e]; omega)), ?_⟩
      simp only [PyData.shownAll]
      exact .cons ((a2.more fun b hb => List.mem_append_left _ hb).level_le (by rw [e]; omega)) (b2.more_le (fun b hb => List.mem_append_right _ hb) (by rw [e]; omega))
end
end
/-- what may be shown, with dicts -/
structure TameE (m k : Nat) (d : PyData) : Prop where
  sh : d.showable = true
  dp : d.depth ≤ k
  le : d.shown.length ≤ m
theorem TameE.mono {m k m' k' : Nat} {d : PyData} (h : TameE m k d) (h1 : m ≤ m') (h2 : k ≤ k') : TameE m' k' d := ⟨h.sh, Nat.le_trans h.dp h2, Nat.le_trans h.le h1⟩
theorem Tame.e {m k : Nat} {d : PyData} (h : Tame m k d) : TameE m k d := ⟨h.sh, h.dp, Nat.le_trans (shown_le d h.cl) h.le⟩
theorem texts_le {m : Nat} : ∀ {ds : List PyData}, (∀ d ∈ ds, d.shown.length ≤ m) → ((PyData.shownAll ds).map fun t => t.length + 2).sum ≤ ds.length * (m + 2)
  | [], _ => by simp [PyData.shownAll]
  | d :: ds, h => by
    have h1 := h d (by simp)
    have h2 := texts_le (ds := ds) fun e he => h e (by simp [he])
    simp only [PyData.shownAll, List.map_cons, List.sum_cons, List.length_cons, Nat.add_mul]
    omega
theorem tameE_tuple {m k l : Nat} {ds : List PyData} (h : ∀ d ∈ ds, TameE m k d) (hl : ds.length ≤ l) : TameE (l * (m + 2) + 3) (k + 1) (.tuple ds) :=
  ⟨by simp only [PyData.showable]; exact showAll fun d hd => (h d hd).sh, by simp only [PyData.depth]; exact Nat.succ_le_succ (depthAll_le fun d hd => (h d hd).dp), by
    simp only [PyData.shown]
    have := texts_le fun d hd => (h d hd).le
    have := Nat.mul_le_mul_right (m + 2) hl
    have := tupleText_le (PyData.shownAll ds)
    omega⟩
theorem tameE_list {m k l : Nat} {ds : List PyData} (h : ∀ d ∈ ds, TameE m k d) (hl : ds.length ≤ l) : TameE (l * (m + 2) + 3) (k + 1) (.list ds) :=
  ⟨by simp only [PyData.showable]; exact showAll fun d hd => (h d hd).sh, by simp only [PyData.depth]; exact Nat.succ_le_succ (depthAll_le fun d hd => (h d hd).dp), by
    simp only [PyData.shown]
    have := texts_le fun d hd => (h d hd).le
    have := Nat.mul_le_mul_right (m + 2) hl
    have := listText_le (PyData.shownAll ds)
    omega⟩
def rReprE (K : PySem.W.Frag) : List V → Hp → VK → Prop := fun xs H Q => ∃ v d, xs = [v] ∧ Rp K H d v ∧ TameE 1000000 60 d ∧ Q (.str d.shown) H
theorem call_reprE (hg : X.A.guards = some []) (hu : X.A.units + 64 < cLine) : CallR X (.builtin "repr") (rReprE X.K) := by
  intro pins s σ H xs us Q I r h
  obtain ⟨v, d, rfl, hr, ht, q⟩ := h
  obtain ⟨u, rfl, ru⟩ := vals1 r
  have hz : d.shown.length ≤ sizeLine := Nat.le_trans ht.le (by decide)
  have hu1 : X.A.units + 1 < cLine := by omega
  have hdp := ht.dp
  cases d with
  | none =>
    simp only [Rp] at hr; subst hr; cases ru
    exact PySem.P.repr_of_none ⟨.str _, H, I.tok _, ⟨_, rfl⟩, q⟩
  | bool b =>
    simp only [Rp] at hr; subst hr; cases ru
    refine PySem.P.repr_of_bool ⟨.str (PyData.shown (.bool b)), H, I.tok _, ⟨s.toks, ?_⟩, q⟩
    cases b <;> rfl
  | int i =>
    simp only [Rp] at hr; subst hr; obtain ⟨t, rfl⟩ := ru
    have := ht.sh
    simp only [PyData.showable, decide_eq_true_eq] at this
    exact PySem.P.repr_of_int this ⟨.str _, H, I.tok _, ⟨_, rfl⟩, q⟩
  | str z =>
    simp only [Rp] at hr; subst hr; obtain ⟨t, rfl⟩ := ru
    exact PySem.P.repr_of_str ⟨.str _, H, I.tok _, ⟨_, rfl⟩, q⟩ hz
  | list ds =>
    obtain ⟨as, hq⟩ := Rp.readsE I _ v u hr ru ht.sh
    simp only [Rp] at hr
    obtain ⟨a, xs, rfl, h1, h2⟩ := hr
    cases ru
    obtain ⟨_, its, n, hv, hget⟩ := I.hok a _ h1
    have hl2 : ∀ t ∈ PyData.shownAll ds, t.length ≤ sizeLine := fun t h => Nat.le_trans (listText_mem_le h) hz
    obtain ⟨bs, b1, b2⟩ := Rps.reprE I ds xs its h2 hv (by simpa only [PyData.showable] using ht.sh) hl2
    have hd1 : (PyData.list ds).depth = PyData.depthAll ds + 1 := by simp only [PyData.depth]
    have nin : a ∉ bs := not_mem_of_deeper hq (by rw [hd1]; exact Nat.lt_succ_self _) b1
    have ty : s.TypeIs (.ref a) "list" := ⟨_, hget, rfl⟩
    refine call_repr_slot hu1 ty (Slot.toG PySem.F.slot_list_repr) ?_
    cases its with
    | nil =>
      have hn : PyData.shownAll ds = [] := List.eq_nil_of_length_eq_zero b2.length_eq
      refine call_list_repr_empty ty hget rfl ⟨_, _, rfl, .str (PyData.list ds).shown, H, I.tok _, ⟨s.toks, ?_⟩, q⟩
      simp only [PyData.shown, hn]
      rfl
    | cons x l =>
      refine call_list_reprK hget rfl rfl nin (by rw [b2.length_eq]; simp) (fun i y hy => b2.item i y (by simpa using hy)) (A := X.A.in1) (g := []) hg (fun b _ => Clear.nil b) (by show X.A.units + 1 + (PyData.depthAll ds + 1) < cLine; omega) (fun _ _ e => e) (fun h' u tk hk => ⟨_, _, rfl, .str (PyData.list ds).shown, H, I.kept (t' := tk) hk, ⟨u, ?_⟩, q⟩) (by simpa only [PyData.shown] using hz)
      simp only [PyData.shown]
  | tuple ds =>
    obtain ⟨as, hq⟩ := Rp.readsE I _ v u hr ru ht.sh
    simp only [Rp] at hr
    obtain ⟨a, xs, rfl, h1, h2⟩ := hr
    cases ru
    obtain ⟨_, its, hv, o, hget, hc, n, hd⟩ := tupOk I h1
    have hl2 : ∀ t ∈ PyData.shownAll ds, t.length ≤ sizeLine := fun t h => Nat.le_trans (tupleText_mem_le h) hz
    obtain ⟨bs, b1, b2⟩ := Rps.reprE I ds xs its h2 hv (by simpa only [PyData.showable] using ht.sh) hl2
    have hd1 : (PyData.tuple ds).depth = PyData.depthAll ds + 1 := by simp only [PyData.depth]
    have nin : a ∉ bs := not_mem_of_deeper hq (by rw [hd1]; exact Nat.lt_succ_self _) b1
    have ty : s.TypeIs (.ref a) "tuple" := ⟨_, hget, hc⟩
    refine call_repr_slot hu1 ty PySem.F.slot_tuple_repr ?_
    refine call_tuple_reprK hget hc hd nin (by simpa using b2) (A := X.A.in1) (g := []) hg (fun b _ => Clear.nil b) (by show X.A.units + 1 + (PyData.depthAll ds + 1) < cLine; omega) (fun _ _ e => e) (fun h' u tk hk => ⟨_, _, rfl, .str (PyData.tuple ds).shown, H, I.kept (t' := tk) hk, ⟨u, ?_⟩, q⟩) (by simpa only [PyData.shown] using hz)
    simp only [PyData.shown]
  | dict kvs =>
    obtain ⟨as, hq⟩ := Rp.readsE I _ v u hr ru ht.sh
    simp only [Rp] at hr
    obtain ⟨a, ks, rfl, h1, ps, rfl, rfl⟩ := hr.resolve_right (ref_unshown ht.sh)
    cases ru
    have hd1 : (PyData.dict (ps.map fun p => (keyD p.1, PyData.int p.2))).depth = PyData.depthKv (ps.map fun p => (keyD p.1, PyData.int p.2)) + 1 := by simp only [PyData.depth]
    obtain ⟨o, es, ep, bs, hget, hc, hd, low, m3, nin, k⟩ := dictE I h1 hq ht.sh hz
    have ty : s.TypeIs (.ref a) "dict" := ⟨_, hget, hc⟩
    have hz2 := hz
    rw [PyData.shown.eq_7] at hz2
    refine call_repr_slot hu1 ty PySem.F.slot_dict_repr ?_
    refine call_dict_reprK hget hc hd low nin k (A := X.A.in1) (g := []) hg (fun b _ => Clear.nil b) (by show X.A.units + 1 + (_ + 1) < cLine; omega) (fun _ _ e => e) (fun h' u tk hk => ⟨_, _, rfl, .str _, H, I.kept (t' := tk) hk, ⟨u, ?_⟩, q⟩) hz2
    rw [PyData.shown.eq_7]
def oReprE : DC := fun xs R => ∃ x, xs = [x] ∧ x.isDk = false ∧ TameE 1000000 60 x.toD ∧ R (.str x.toD.shown)
end DL
namespace DL
open PySem PySem.Spec PyProof.Rows L2
variable {X : Cx} {Y : Fx}
theorem ck_reprE {K : PySem.W.Frag} : CallOk K (rReprE K) oReprE := fun δ F H xs vs R Q hs hv ⟨x, e, hd, ht, hr⟩ b => by
  subst e
  obtain ⟨v, rfl, h1⟩ := vr1 hv
  exact ⟨v, x.toD, rfl, h1.rp hs hd, ht, b.here hs hr (by simp [Rp])⟩
theorem we_dict0 {pos : Pos} : WE Y X (.Dict [] [] pos) (dC (.dict [])) :=
  pe_imp pe_dnewK fun σ H Q ⟨Z, F, ρ, n, R, r, ht, k⟩ => fun p hp => by
    obtain ⟨g2, s2⟩ := Gp.new (o := .dK []) hp r.b.sub
    exact k _ _ _ _ _ ht g2.gr s2 (g2.dk r.b) (by simp only [VR, Rp]; exact .inl ⟨p, [], rfl, upd_same, [], rfl, rfl⟩)
end DL
set_option maxHeartbeats 4000000
namespace DL
open PySem PySem.Spec PyProof.Rows L2
/-- the pairs' own addresses, one behind the other -/
def zAcc (S i : Nat) : Array Value := ((List.range i).map fun j => Value.ref (S + 1 + j)).toArray
theorem zAcc_size {S i : Nat} : (zAcc S i).size = i := by simp [zAcc]
theorem zAcc_push {S i : Nat} : (zAcc S i).push (.ref (S + 1 + i)) = zAcc S (i + 1) := by simp [zAcc, List.range_succ]
/-- the pairs that were given out -/
def ZPairs (S : Nat) (xs ys : Array Value) (i : Nat) (h : Heap) : Prop := ∀ j, j < i → ∃ x y, xs[j]? = some x ∧ ys[j]? = some y ∧ IsPair h (S + 1 + j) x y
theorem nl {a b : Addr} (h : (a : Nat) < b) : a ≠ b := Nat.ne_of_lt h
theorem ng {a b : Addr} (h : (b : Nat) < a) : a ≠ b := Nat.ne_of_gt h
theorem nfar {a S j m : Nat} (e : m = S + 1 + j) (h : a < S) : m ≠ a := by omega
theorem nfarS {S j m : Nat} (e : m = S + 1 + j) : m ≠ S := by omega
/-- the others lie before S -/
structure ZLt (z TI TO i1 i2 l1 l2 S : Addr) : Prop where
  z : (z : Nat) < S
  TI : (TI : Nat) < S
  TO : (TO : Nat) < S
  i1 : (i1 : Nat) < S
  i2 : (i2 : Nat) < S
  l1 : (l1 : Nat) < S
  l2 : (l2 : Nat) < S
theorem ZPairs.keep {S i : Nat} {xs ys : Array Value} {h h' : Heap} (p : ZPairs S xs ys i h) (k : ∀ b o, S < b → h.get? b = some o → h'.get? b = some o) : ZPairs S xs ys i h' := fun j hj => by
  obtain ⟨x, y, e1, e2, e3⟩ := p j hj
  exact ⟨x, y, e1, e2, k _ _ (by omega) e3⟩
section
variable {P : Program} {w : World} {A : Around} {z TI TO i1 i2 l1 l2 S : Addr} {xs ys : Array Value} {h0 : Heap}
/-- a zip just made of two lists -/
structure ZNew (z TI TO i1 i2 l1 l2 : Addr) (xs ys : Array Value) (h : Heap) : Prop where
  hz : IsZip h z TI TO .none
  tI : IsPair h TI (.ref i1) (.ref i2)
  tO : ∃ a b, IsPair h TO a b
  j1 : h.IsListIter i1 l1 0
  j2 : h.IsListIter i2 l2 0
  m1 : h.IsList l1 xs
  m2 : h.IsList l2 ys
theorem ZNew.lt {h : Heap} (Z : ZNew z TI TO i1 i2 l1 l2 xs ys h) : ZLt z TI TO i1 i2 l1 l2 h.objs.size := by
  obtain ⟨a, b, tO⟩ := Z.tO
  obtain ⟨_, q1, _⟩ := Z.j1
  obtain ⟨_, q2, _⟩ := Z.j2
  obtain ⟨_, q3, _⟩ := Z.m1
  obtain ⟨_, q4, _⟩ := Z.m2
  exact ⟨Heap.lt_size Z.hz, Heap.lt_size Z.tI, Heap.lt_size tO, Heap.lt_size q1, Heap.lt_size q2, Heap.lt_size q3, Heap.lt_size q4⟩
end
/-- the pairs' tuples tracked, from N on -/
def layZ (H : Hp) (N : Nat) (ps : List (V × V)) : Hp := fun c => if N ≤ c then (match ps[c - N]? with | some p => some (.tup [p.1, p.2]) | none => H c) else H c
theorem layZ_old {H : Hp} {N : Nat} {ps : List (V × V)} {c : Addr} (h : (c : Nat) < N) : layZ H N ps c = H c := if_neg (Nat.not_le_of_lt h)
theorem layZ_at {H : Hp} {N j : Nat} {ps : List (V × V)} {p : V × V} (h : ps[j]? = some p) : layZ H N ps (N + j) = some (.tup [p.1, p.2]) := by
  unfold layZ
  rw [if_pos (Nat.le_add_right _ _), Nat.add_sub_cancel_left, h]
theorem layZ_cases {H : Hp} {N : Nat} {ps : List (V × V)} {c : Addr} {o : HO} (h : layZ H N ps c = some o) : (∃ j p, c = N + j ∧ ps[j]? = some p ∧ o = .tup [p.1, p.2]) ∨ H c = some o := by
  unfold layZ at h
  split at h
  · rename_i le
    cases e : ps[c - N]? with
    | none => rw [e] at h; exact .inr h
    | some p =>
      rw [e] at h
      cases h
      exact .inl ⟨c - N, p, (Nat.add_sub_of_le le).symm, e, rfl⟩
  · exact .inr h
def refsV (N n : Nat) : List V := (List.range n).map fun j => V.ref (N + j)
theorem vals_refs {N : Nat} : ∀ {l : List Nat}, Vals (l.map fun j => V.ref (N + j)) (l.map fun j => Value.ref (N + j))
  | [] => .nil
  | _ :: _ => .cons rfl vals_refs
section
variable {X : Cx} {Y : Fx}
theorem rps_at {K : PySem.W.Frag} {F : Hp} : ∀ {ds : List PyData} {vs : List V}, ds.length = vs.length → (∀ (i : Nat) d v, ds[i]? = some d → vs[i]? = some v → Rp K F d v) → Rps K F ds vs
  | [], [], _, _ => rps_nil
  | [], _ :: _, e, _ => nomatch e
  | _ :: _, [], e, _ => nomatch e
  | d :: ds, v :: vs, e, h => rps_cons (h 0 d v rfl rfl) (rps_at (Nat.succ.inj e) fun i d v e1 e2 => h (i + 1) d v e1 e2)
end
end DL
set_option maxHeartbeats 4000000
set_option maxHeartbeats 4000000
namespace DL
open PySem PySem.Spec PyProof.Rows L2
section
variable {X : Cx} {Y : Fx}
/-- a list != [], whatever its items -/
def rNeNil (K : PySem.W.Frag) : R2 := fun x y H Q => ∃ (a b : Addr) (xs : List V), x = .ref a ∧ y = .ref b ∧ SqL K H a xs ∧ SqL K H b [] ∧ Q (.bl (!xs.isEmpty)) H
theorem or_neNil (hu : X.A.units + 64 < cLine) : OpR X (compareOp .NotEq) (rNeNil X.K) := by
  intro pins s σ H x y v u Q I rx ry h
  obtain ⟨a, b, xs, rfl, rfl, ha, hb, q⟩ := h
  cases rx
  cases ry
  obtain ⟨us, r1, p1, _⟩ := I.list ha
  obtain ⟨ws, r2, p2, _⟩ := I.list hb
  cases r2
  have hu' : X.A.units < cLine := by omega
  cases xs with
  | nil =>
    cases r1
    exact SeqAt.RcNeAt.lists (e := fun _ => true) p1.isList p2.isList rfl hu' (fun j h1 _ => absurd h1 (Nat.not_lt_zero j)) _ _ _ _ ⟨.bl _, H, I, rfl, q⟩
  | cons x xs =>
    cases r1 with
    | cons r1 rs => exact SeqAt.RcNeAt.lists_lengths p1.isList p2.isList (by simp) hu' _ _ _ _ ⟨.bl _, H, I, rfl, q⟩
def oNeNil : D2 := fun x y R => ∃ ds, x.toD = .list ds ∧ x.isDk = false ∧ y = .dat (.list []) ∧ R (.bool (!ds.isEmpty))
theorem bi_neNil {K : PySem.W.Frag} : BinOk K (rNeNil K) oNeNil := fun δ F H x y v u R Q hs hx hy ⟨ds, e1, e2, e3, hr⟩ b => by
  subst e3
  have rx := hx.rp hs e2
  rw [e1] at rx
  simp only [Rp] at rx
  simp only [VR, Rp] at hy
  obtain ⟨a, xs, rfl, ha, rr⟩ := rx
  obtain ⟨c, ys, rfl, hc, rfl⟩ := hy
  exact ⟨a, c, xs, rfl, rfl, SqL.of ha, SqL.of (hs _ _ hc), b.bl hs (rr.isEmpty ▸ hr)⟩
end
end DL
set_option maxHeartbeats 4000000
namespace DL
open PySem PySem.Spec PyProof.Rows L2
theorem VR.lstF {K : PySem.W.Frag} {δ : DkS} {F H : Hp} {x : Dv} {v : V} {ds : List PyData} (h : VR K δ F H x v) (hs : Same F H) (e : x.toD = .list ds) : ∃ a xs, v = .ref a ∧ H a = some (.lst xs) ∧ Rps K F ds xs := by
  cases x with
  | dat d =>
    simp only [Dv.toD] at e
    subst e
    simp only [VR, Rp] at h
    obtain ⟨a, xs, rfl, h1, h2⟩ := h
    exact ⟨a, xs, rfl, hs _ _ h1, h2⟩
  | vw es =>
    simp only [Dv.toD] at e
    injection e with e
    subst e
    obtain ⟨a, xs, rfl, h1, h2, _⟩ := h
    exact ⟨a, xs, rfl, h1, h2⟩
  | mt es => exact h.elim
  | deck k => cases e
  | md a ks => exact h.elim
section
variable {X : Cx} {Y : Fx}
def mCat (t u : DTE) : DTM := fun ρ n R => t ρ n fun x n1 => u ρ n1 fun y n2 => ∃ ds es, x.toD = .list ds ∧ y.toD = .list es ∧ ds.length + es.length ≤ sizeLine ∧ R (ds ++ es) n2
theorem me_cat {a b : Expr} {t u : DTE} {pos : Pos} (ha : WE Y X a t) (hb : WE Y X b u) : ME Y X (.BinOp a .Add b pos) (mCat t u) :=
  pe_imp (pe_op op_cat ha hb) fun σ H Q ⟨Z, F, ρ, n, R, r, ht, k⟩ => ⟨Z, F, ρ, n, _, r, ht, fun x n1 F1 H1 v hx g1 s1 d1 w1 => ⟨Z, F1, ρ, n1, _, r.step g1 s1 d1, hx, fun y n2 F2 H2 v2 hy g2 s2 d2 w2 => by
    obtain ⟨ds, es, e1, e2, hl, hR⟩ := hy
    obtain ⟨p1, xs, rfl, h1, r1⟩ := (w1.step g2).lstF s2 e1
    obtain ⟨p2, ys, rfl, h2, r2⟩ := w2.lstF s2 e2
    refine ⟨p1, p2, xs, ys, rfl, rfl, h1, h2, by rw [← r1.length, ← r2.length]; exact hl, fun p hp => ?_⟩
    obtain ⟨g3, s3⟩ := Gp.newM (o := .lst (xs ++ ys)) hp s2
    have g12 := g1.trans g2
    have hp0 : H p = none := by
      cases e : H p with
      | none => rfl
      | some o => exact absurd hp (g12.dH p (by rw [e]; nofun))
    exact k _ _ _ _ _ _ hR (g12.trans g3.gr) s3 (g3.dk (((r.step g1 s1 d1).step g2 s2 d2).b)) hp0 (s2.free hp) upd_same (r1.append r2)⟩⟩
end
theorem Has.mono {P : Program} {w : World} {K : PySem.W.Frag} {mg : Str → Option Value} {base : Heap} {x : Str} {j k : Nat} {ps : List Str} {c : DSpec} (h : Has P w K mg base x j ps c) (hj : j ≤ k) : Has P w K mg base x k ps c := by
  obtain ⟨f, fd, h1, h2, h3, h4⟩ := h
  exact ⟨f, fd, h1, h2, h3, h4.mono hj⟩
end DL
set_option maxHeartbeats 4000000
namespace DL
open PySem PySem.Spec PyProof.Rows L2
structure FnGX (P : Program) (w : World) (K : PySem.W.Frag) (mg : Str → Option Value) (base : Heap) (k : Nat) (f : Addr) (fd : FuncData) (ps : List Str) (sp : Sp) : Prop where
  len : ∀ vs H Q E, sp vs H Q E → vs.length = ps.length
  run : ∀ (A : Around) (outer : List Env) (s : Shared) (H : Hp) (args : Args) (us : List Value) (vs : List V) (Q : VK) (E : XK), A.guards = some [] → Room k A → Env0 P w K mg base A outer s H →
    BindsTo s fd args (ps.zip us) → Vals vs us → sp vs H Q E → codeAny (model P w) A (.call (.ref f) args) (CR (L2.CX P w) outer P w H s Q E) s
section
variable {P : Program} {w : World} {K : PySem.W.Frag} {mg : Str → Option Value} {base : Heap} {j k : Nat} {f : Addr} {fd : FuncData} {ps : List Str} {sp : Sp}
theorem FnGX.mono (F : FnGX P w K mg base j f fd ps sp) (h : j ≤ k) : FnGX P w K mg base k f fd ps sp :=
  ⟨F.len, fun A outer s H args us vs Q E hg hr => F.run A outer s H args us vs Q E hg (hr.mono h)⟩
theorem FnG.x (F : FnG P w K mg base k f fd ps sp) : FnGX P w K mg base k f fd ps (fun vs H Q _ => sp vs H Q E0) :=
  ⟨fun vs H Q _ h => F.len vs H Q E0 h, fun A outer s H args us vs Q E hg hr e0 hb rv h => codeAny_mono (F.run A outer s H args us vs Q hg hr e0 hb rv h) fun q s' hq => by
    cases q with
    | error e => exact hq.elim
    | ok fl =>
      cases fl with
      | ret u => exact hq
      | next => exact hq
      | brk => exact hq
      | cont => exact hq⟩
theorem fngx_of {x qual : Str} {st : Stmt} {N : List Str} (F : Fun K x qual st f fd) (S : FnScope N ps (defScope st)) (len : ∀ vs H Q E, sp vs H Q E → vs.length = ps.length)
    (hb : ∀ (cdv : Value) (A : Around) (outer : List Env) (s : Shared) (H : Hp) (vs : List V) (Q : VK) (E : XK), A.guards = some [] → Room k (A.deeper (envOfC qual (defScope st) s.heap.objs.size f cdv)) → sp vs H Q E →
      ∃ t, PSs (cxOf (L2.CX P w) P w K mg base N qual (defScope st) f cdv A outer s H E) (defBody st) t ∧ t { nx := fun _ H' => Q .non H', rt := Q } (start N vs) H) : FnGX P w K mg base (k + 1) f fd ps sp := by
  refine ⟨len, fun A outer s H args us vs Q E hgd hr e0 hbi rv hsp => ?_⟩
  obtain ⟨oc, od, kV, doc, pm, an, cdv, ct, osl, rfl, lk, hcd⟩ := F.ex
  have hl := len _ _ _ _ hsp
  have kin : K.In s.heap := e0.mod.kin.keeps fun b o e => (e0.bs b o e).1
  have lim : s.heap.NoLimit := e0.mod.nolimit.keeps fun b o e => (e0.bs b o e).1
  refine Att.call_fn kin lim lk hcd hr.depth hbi (List.all_eq_true.mpr fun ⟨y, u⟩ hy => ?_) (fun s1 x => ?_) S.co S.gen S.kind
  · rcases S.par y (List.of_mem_zip hy).1 with q | q <;> simp [q]
  · obtain ⟨t, ht, hq⟩ := hb cdv A outer s H vs Q E hgd (hr.deeper _) hsp
    have I := inv_start (CX := L2.CX P w) (P := P) (w := w) (E := E) S hr.hd e0 hl rv x
    refine wpAny_mono (ht.run [] s1 (start N vs) H _ I hq) (fun fl s' hs => ?_) fun e s' hs => hs
    have fin : ∀ {σ' : L2.St} {H' : Hp} {v : V} {u : Value}, Inv (cxOf (L2.CX P w) P w K mg base N qual (defScope st) f cdv A outer s H E) [] σ' H' s' → RelV v u → Q v H' → CE outer P w H s Q u s' :=
      fun J r q => ⟨_, _, J.os, J.bare, J.base, J.hok, r, q⟩
    cases fl with
    | ret u =>
      obtain ⟨v, σ', H', J, r, q⟩ := hs
      exact fin J r q
    | next =>
      obtain ⟨σ', H', J, q⟩ := hs
      exact fin (v := V.non) (u := Value.none) J rfl q
    | brk => obtain ⟨_, _, _, q⟩ := hs; exact q.elim
    | cont => obtain ⟨_, _, _, q⟩ := hs; exact q.elim
end
section
variable {X : Cx} {k : Nat} {f : Addr} {fd : FuncData} {ps : List Str} {sp : Sp}
theorem runx {pins : List (Addr × Obj)} {σ : L2.St} {H : Hp} {s : Shared} {Q : VK} {E : XK} {us : List Value} {vs : List V} (F : FnGX X.prog X.w X.K X.mg X.base k f fd ps sp) (hgd : X.A.guards = some []) (hr : Room k X.A) (hb : Binds X.K fd ps [])
    (hx : PassesAt (L2.CX X.prog X.w) X σ E) (I : Inv X pins σ H s) (r : Vals vs us) (h : sp vs H Q E) : wpAny (model X.prog X.w) X.A (call (.ref f) us) (EP X pins σ Q) X.xe s := by
  have hl : (us ++ []).length = ps.length := by rw [List.append_nil, ← r.length]; exact F.len _ _ _ _ h
  have hbi := hb s us I.kIn hl
  rw [List.append_nil] at hbi
  refine wpAny_call (codeAny_mono (F.run X.A X.stack s H ⟨us, []⟩ us vs Q E hgd hr I.env0 hbi r h) fun q s' hq => ?_)
  cases q with
  | error e => exact hx pins H s e s' I hq
  | ok fl =>
    cases fl with
    | ret u => exact I.after hq
    | next => exact hq.elim
    | brk => exact hq.elim
    | cont => exact hq.elim
theorem runx_make {pins : List (Addr × Obj)} {σ : L2.St} {H : Hp} {s : Shared} {Q : VK} {E : XK} {C : Addr} {us : List Value} {vs : List V} (M : Mk X.K C f) (F : FnGX X.prog X.w X.K X.mg X.base k f fd ps sp) (hgd : X.A.guards = some []) (hr : Room (k + 1) X.A) (hb : Binds X.K fd ps [])
    (hx : PassesAt (L2.CX X.prog X.w) X σ E) (I : Inv X pins σ H s) (r : Vals vs us)
    (h : ∀ x dx, H x = none → H dx = none → dx ≠ x → sp (.ref x :: vs) (upd (upd H dx (.own x)) x (.ins C dx [])) (fun v H2 => v = .non ∧ Q (.ref x) H2) E) :
    wpAny (model X.prog X.w) X.A (call (.ref C) us) (EP X pins σ Q) X.xe s := by
  have hq := h (s.heap.objs.size + 1) s.heap.objs.size (I.hok.fresh (Nat.le_succ _)) (I.hok.fresh (Nat.le_refl _)) (Nat.ne_of_lt (Nat.lt_succ_self _))
  have I2 := Inv.made (C := C) I
  have r2 : Vals (V.ref (s.heap.objs.size + 1) :: vs) (Value.ref (s.heap.objs.size + 1) :: us) := .cons rfl r
  have hl : (Value.ref (s.heap.objs.size + 1) :: us ++ []).length = ps.length := by
    have e := r2.length
    rw [F.len _ _ _ _ hq] at e
    rw [List.append_nil]
    exact e.symm
  have hbi := hb _ (Value.ref (s.heap.objs.size + 1) :: us) I2.kIn hl
  rw [List.append_nil] at hbi
  refine wpAny_call (make_map (f := f) I.kIn M.makes M.init (beq_iff_eq.mp M.fn) (codeAny_mono (F.run _ X.stack _ _ ⟨Value.ref (s.heap.objs.size + 1) :: us, []⟩ (Value.ref (s.heap.objs.size + 1) :: us) _ _ E hgd (hr.make C us [])
    (I2.env0.make C us []) hbi r2 hq) fun r s' hq' => ?_))
  cases r with
  | error e => exact hx pins _ _ e s' I2 hq'
  | ok fl =>
    cases fl with
    | ret u =>
      obtain ⟨v, H', I3, rv, ev, q3⟩ := I2.after hq'
      subst ev
      exact ⟨rv, ⟨V.ref (s.heap.objs.size + 1), H', I3, rfl, q3⟩⟩
    | next => exact False.elim hq'
    | brk => exact False.elim hq'
    | cont => exact False.elim hq'
end
structure Ex where
  C : Addr
  fs : List (Str × PyData)
def ExR (K : PySem.W.Frag) (F : Hp) (ex : Ex) (cls : Value) (d : Option Addr) : Prop := cls = .ref ex.C ∧ XoAt K F ⟨cls, d, ex.fs⟩
theorem ExR.mono {K : PySem.W.Frag} {F F' : Hp} {ex : Ex} {cls : Value} {d : Option Addr} (h : ExR K F ex cls d) (e : Same F F') : ExR K F' ex cls d := ⟨h.1, h.2.mono e⟩
abbrev DSpecX := List Dv → Wo → (PyData → Wo → Prop) → (Ex → Wo → Prop) → Prop
def spDX (K : PySem.W.Frag) (m : Nat) (c : DSpecX) : Sp := fun vs H Q Eh => ∃ δ F as n R E, as.length = m ∧ VRs K δ F H as vs ∧ Same F H ∧ δ.at_ K F H n ∧ (∀ a, a ∈ δ.own → F a = none ∧ H a ≠ none) ∧ c as n R E ∧
  (∀ d n' F' H' v, R d n' → Gr δ F H F' H' → Same F' H' → δ.at_ K F' H' n' → Rp K F' d v → Q v H') ∧
  ∀ ex n' F' H' cls d, E ex n' → Gr δ F H F' H' → Same F' H' → δ.at_ K F' H' n' → ExR K F' ex cls d → Eh cls d H'
/-- what is wished of an error, at the slots -/
abbrev DW := Ex → Rho → Wo → Prop
def WOk (Y : Fx) (K : PySem.W.Frag) (dw : DW) (W : WX) : Prop := ∀ ex ρ n F H σ cls d Z, dw ex ρ n → SR Y K Z F H σ ρ n → ExR K F ex cls d → W cls d σ H
def dwN : DW := fun _ _ _ => False
theorem wok0 {Y : Fx} {K : PySem.W.Frag} : WOk Y K dwN (fun _ _ _ _ => False) := fun _ _ _ _ _ _ _ _ _ h _ _ => h
def dFnX (m : Nat) (c : DSpecX) (dw : DW) (t : DTA) : DTE := fun ρ n R => t ρ n fun as n1 => as.length = m ∧ c as n1 (fun d n2 => R (.dat d) n2) fun ex n2 => dw ex ρ n2
section
variable {X : Cx} {Y : Fx}
theorem callX_im {m : Nat} {c : DSpecX} {dw : DW} {W : WX} {t : DTA} (ok : WOk Y X.K dw W) : ∀ σ H Q, up Y X.K (dFnX m c dw t) σ H Q → (upA Y X.K t) σ H fun vs H1 => spDX X.K m c vs H1 Q (L2.WE W σ) :=
  fun σ H Q ⟨Z, F, ρ, n, R, r, ht, k⟩ => ⟨Z, F, ρ, n, _, r, ht, fun as n1 F1 H1 vs ⟨hl, hx⟩ g1 s1 d1 w1 => by
    have r1 := r.step g1 s1 d1
    exact ⟨Z.δ, F1, as, n1, _, _, hl, w1, s1, d1, r1.b.dkF, hx, fun d n2 F2 H2 v h2 g2 s2 d2 w2 => k _ _ _ _ _ h2 (g1.trans g2) s2 d2 w2, fun ex n2 F2 H2 cls d h2 g2 s2 d2 w2 => ok _ _ _ _ _ _ _ _ _ h2 (r1.step g2 s2 d2) w2⟩⟩
theorem we_fnX {k m : Nat} {c : DSpecX} {dw : DW} {W : WX} {f : Addr} {fd : FuncData} {ps : List Str} {x : Str} {p pos : Pos} {e : Expr} {es : List Expr} {t : DTA} (tk : Takes X W) (ok : WOk Y X.K dw W) (F : FnGX X.prog X.w X.K X.mg X.base k f fd ps (spDX X.K m c)) (hgd : X.A.guards = some []) (hr : Room k X.A) (hg : Gl X x) (hm : X.mg x = some (.ref f)) (hk : PySem.W.keepIn X.K (.ref f) = true) (hb : Binds X.K fd ps [])
    (ha : WA Y X (e :: es) t) (hdb : (x == ("__debug__" : Str)) = false := by decide) (he : starEach (e :: es) X.env = (false, eval e X.env) :: starEach es X.env := by rfl) (hpl : (backTo pos (starEach es X.env)).any (·.1) = false := by rfl) :
    WE Y X (.Call (.Name x p) (e :: es) [] pos) (dFnX m c dw t) :=
  ⟨fun pins s σ H Q I h => wpAny_Call_Name_kw (ld_glob I hg hm (PySem.W.callWith_K (h₀ := X.base) I.ok.mod.kin hk (thn (ha.run pos pins s σ H _ I (callX_im ok σ H Q h)) fun us s1 ⟨vs, H1, I1, r, q⟩ => ⟨I1.kIn, runx F hgd hr hb (passAt tk σ) I1 r q⟩) he hpl) hdb)⟩
end
/-- THE RULE for a def that may raise: its body over data -/
theorem fndX {P : Program} {w : World} {K : PySem.W.Frag} {mg : Str → Option Value} {base : Heap} {x qual : Str} {st : Stmt} {f : Addr} {fd : FuncData} {N ps : List Str} {k : Nat} (c : DSpecX) (F : Fun K x qual st f fd) (S : FnScope N ps (defScope st))
    (hb : ∀ (cdv : Value) (A : Around) (outer : List Env) (s : Shared) (H : Hp) (Eh : XK), A.guards = some [] → Room k (A.deeper (envOfC qual (defScope st) s.heap.objs.size f cdv)) → ∀ (Y : Fx) (E : Ex → Wo → Prop), WOk Y K (fun ex _ n => E ex n) (fun cls d _ H => Eh cls d H) →
      Takes (cxOf (L2.CX P w) P w K mg base N qual (defScope st) f cdv A outer s H Eh) (fun cls d _ H => Eh cls d H) →
      ∃ t, DSs Y (cxOf (L2.CX P w) P w K mg base N qual (defScope st) f cdv A outer s H Eh) (defBody st) t ∧ ∀ as n R, as.length = ps.length → c as n R E → t { nx := fun _ n' => R .none n', rt := R } (startR N as) n) : FnGX P w K mg base (k + 1) f fd ps (spDX K ps.length c) := by
  refine fngx_of F S (fun vs H Q E ⟨δ, Fz, as, n, R, E', hl, w1, _⟩ => by rw [← Paired.length w1]; exact hl) fun cdv A outer s H vs Q Eh hgd hr ⟨δ, Fz, as, n, R, E, hl, w1, s1, d1, o1, hc, hk, hx⟩ => ?_
  obtain ⟨t, h1, h2⟩ := hb cdv A outer s H Eh hgd hr ⟨Fz, H, δ⟩ E (fun ex ρ n' F' H' σ cls d Z he r hd => hx _ _ _ _ _ _ he r.gr r.b.sub (by have q := r.b.dk; rw [r.de] at q; exact q) hd) (takes_of rfl rfl rfl rfl)
  exact ⟨_, h1, ⟨Fz, H, δ⟩, Fz, startR N as, n, _, sr_start w1 s1 d1 o1, h2 as n R hl hc, ⟨fun F' H' σ' ρ' n' q r' => hk _ _ _ _ _ q (Base.gr o1 r'.b) r'.b.sub r'.b.dk (by simp [Rp]), fun d n' F' H' v q b q2 => hk _ _ _ _ _ q (Base.gr o1 b) b.sub b.dk q2, fun _ _ _ _ _ q _ => q.elim, fun _ _ _ _ _ q _ => q.elim⟩⟩
end DL
set_option maxHeartbeats 4000000
namespace DL
open PySem PySem.Spec PyProof.Rows L2
def putD (f : Str) (d : PyData) : List (Str × PyData) → List (Str × PyData)
  | [] => [(f, d)]
  | (g, x) :: r => if g = f then (g, d) :: r else (g, x) :: putD f d r
section
variable {K : PySem.W.Frag} {F : Hp}
theorem FsR.lookup {f : Str} {d : PyData} : ∀ {fs : List (Str × PyData)} {vs : List (Str × V)}, FsR K F fs vs → fs.lookup f = some d → ∃ v, vs.lookup f = some v ∧ Rp K F d v
  | [], _, .nil, h => by cases h
  | (g, x) :: fs, _, .cons (b := (g', v)) (l₂ := vs) hr ht, h => by
    obtain ⟨e, hr⟩ := hr
    have e : g = g' := e
    subst e
    by_cases q : f = g
    · subst q
      have h2 : List.lookup f ((f, x) :: fs) = some x := by simp [List.lookup]
      rw [h2] at h
      cases h
      exact ⟨v, by simp [List.lookup], hr⟩
    · have q2 : (f == g) = false := by simpa using q
      have h2 : List.lookup f ((g, x) :: fs) = List.lookup f fs := by simp [List.lookup, q2]
      rw [h2] at h
      obtain ⟨w, e1, e2⟩ := FsR.lookup ht h
      exact ⟨w, by simp only [List.lookup, q2]; exact e1, e2⟩
theorem FsR.lookup_none {f : Str} : ∀ {fs : List (Str × PyData)} {vs : List (Str × V)}, FsR K F fs vs → fs.lookup f = none → vs.lookup f = none
  | [], _, .nil, h => rfl
  | (g, x) :: fs, _, .cons (b := (g', v)) (l₂ := vs) hr ht, h => by
    obtain ⟨e, hr⟩ := hr
    have e : g = g' := e
    subst e
    by_cases q : f = g
    · subst q
      have h2 : List.lookup f ((f, x) :: fs) = some x := by simp [List.lookup]
      rw [h2] at h
      cases h
    · have q2 : (f == g) = false := by simpa using q
      have h2 : List.lookup f ((g, x) :: fs) = List.lookup f fs := by simp [List.lookup, q2]
      rw [h2] at h
      simp only [List.lookup, q2]
      exact FsR.lookup_none ht h
theorem FsR.put {f : Str} {d : PyData} {v : V} (hd : Rp K F d v) : ∀ {fs : List (Str × PyData)} {vs : List (Str × V)}, FsR K F fs vs → FsR K F (putD f d fs) (putF f v vs)
  | [], _, .nil => .cons ⟨rfl, hd⟩ .nil
  | (g, x) :: fs, _, .cons (b := (g', u)) (l₂ := vs) hr ht => by
    obtain ⟨e, hr⟩ := hr
    have e : g = g' := e
    subst e
    unfold putD putF
    by_cases q : g = f
    · rw [if_pos q, if_pos q]; exact .cons ⟨rfl, hd⟩ ht
    · rw [if_neg q, if_neg q]; exact .cons ⟨rfl, hr⟩ (FsR.put hd ht)
theorem VR.ref {δ : DkS} {H : Hp} {a : Addr} {v : V} (h : VR K δ F H (.dat (refD a)) v) : v = .ref a := Rp.ref (K := K) (F := F) h
theorem vr_ref {δ : DkS} {H : Hp} {a : Addr} : VR K δ F H (.dat (refD a)) (.ref a) := rp_ref (K := K) (F := F)
theorem FsR.length {fs : List (Str × PyData)} {vs : List (Str × V)} (h : FsR K F fs vs) : fs.length = vs.length := Paired.length h
end
/-- a class whose instances are plain, and a field of it -/
structure FldC (K : PySem.W.Frag) (C : Addr) (f : Str) : Prop where
  c : Cls K C
  n : NoAttr K C f
section
variable {X : Cx} {Y : Fx}
/-- e.f -/
def dFld (K : PySem.W.Frag) (f : Str) (t : DTE) : DTE := fun ρ n R => t ρ n fun x n1 => ∃ a o d, x = .dat (refD a) ∧ n1.ob a = some o ∧ FldC K o.C f ∧ o.fs.lookup f = some d ∧ R (.dat d) n1
theorem we_fld {e : Expr} {f : Str} {t : DTE} {pos : Pos} (he : WE Y X e t) (hb : attributeBase e f X.env (eval e X.env) = eval e X.env := by rfl) : WE Y X (.Attribute e f pos) (dFld X.K f t) :=
  pe_imp (pe_fld he hb) fun σ H Q ⟨Z, F, ρ, n, R, r, ht, k⟩ => ⟨Z, F, ρ, n, _, r, ht, fun x n1 F1 H1 v ⟨a, o, d, ex, ho, hc, hl, hR⟩ g1 s1 d1 w1 => by
    subst ex
    obtain rfl := VR.ref w1
    obtain ⟨_, dx, vs, h2, h3⟩ := d1.2.1 a o ho
    obtain ⟨u, h4, h5⟩ := h3.lookup hl
    exact ⟨a, o.C, dx, vs, u, rfl, h2, hc.c, hc.n, h4, k _ _ _ _ _ hR g1 s1 d1 h5⟩⟩
/-- e.f, a constant of the class -/
def dCon (K : PySem.W.Frag) (f : Str) (t : DTE) : DTE := fun ρ n R => t ρ n fun x n1 => ∃ a o i u, x = .dat (refD a) ∧ n1.ob a = some o ∧ Cls K o.C ∧ Con K o.C f (.int i) u ∧ o.fs.lookup f = none ∧ R (.dat (.int i)) n1
theorem we_con {e : Expr} {f : Str} {t : DTE} {pos : Pos} (he : WE Y X e t) (hb : attributeBase e f X.env (eval e X.env) = eval e X.env := by rfl) : WE Y X (.Attribute e f pos) (dCon X.K f t) :=
  pe_imp (pe_con he hb) fun σ H Q ⟨Z, F, ρ, n, R, r, ht, k⟩ => ⟨Z, F, ρ, n, _, r, ht, fun x n1 F1 H1 v ⟨a, o, i, u, ex, ho, hc, hk, hl, hR⟩ g1 s1 d1 w1 => by
    subst ex
    obtain rfl := VR.ref w1
    obtain ⟨_, dx, vs, h2, h3⟩ := d1.2.1 a o ho
    exact ⟨a, o.C, dx, vs, .int i, u, rfl, h2, hc, hk, h3.lookup_none hl, k _ _ _ _ _ hR g1 s1 d1 (by simp [VR, Rp])⟩⟩
/-- an object is written -/
theorem at_put {K : PySem.W.Frag} {δ : DkS} {F H : Hp} {n : Wo} {a dx : Addr} {o : Ob} {C : Addr} {vs vs' : List (Str × V)} {fs' : List (Str × PyData)} (h : δ.at_ K F H n) (ho : n.ob a = some o) (hH : H a = some (.ins o.C dx vs)) (hr : FsR K F fs' vs') :
    δ.at_ K F (upd H a (.ins o.C dx vs')) (n.put a ⟨o.C, fs'⟩) :=
  ⟨δ.stay H _ n.n (fun b hb => upd_ne fun q => by
      obtain ⟨xs, e⟩ := δ.lsts H n.n h.1 b hb
      rw [q, hH] at e
      cases e) h.1,
    ⟨fun b ob e => by
      have e : (if b = a then some ⟨o.C, fs'⟩ else n.ob b) = some ob := e
      by_cases q : b = a
      · rw [if_pos q] at e
        cases e
        subst q
        exact ⟨(h.2.1 b o ho).1, dx, vs', upd_same, hr⟩
      · rw [if_neg q] at e
        obtain ⟨h1, dx', us, h2, h3⟩ := h.2.1 b ob e
        exact ⟨h1, dx', us, by rw [upd_ne q]; exact h2, h3⟩, h.2.2⟩⟩
theorem gr_put {δ : DkS} {F H : Hp} {a dx C : Addr} {vs vs' : List (Str × V)} (hH : H a = some (.ins C dx vs)) : Gr δ F H F (upd H a (.ins C dx vs')) where
  sF := Same.refl _
  nF := fun _ _ h => h
  kH := fun b o _ e hi => by
    rw [upd_ne fun q => by rw [q, hH] at e; cases e; cases hi]
    exact e
  iH := fun b C' dx' fs e => by
    by_cases q : b = a
    · subst q
      rw [hH] at e
      cases e
      exact ⟨vs', upd_same⟩
    · exact ⟨fs, by rw [upd_ne q]; exact e⟩
  dH := fun b h => by
    by_cases q : b = a
    · subst q; rw [upd_same]; nofun
    · rw [upd_ne q]; exact h
theorem same_put {F H : Hp} {a : Addr} {u : HO} (hs : Same F H) (hF : F a = none) : Same F (upd H a u) := fun b o e => by
  rw [upd_ne (ne_of_none e hF)]; exact hs _ _ e
/-- o.f = e -/
def dFldS (K : PySem.W.Frag) (f : Str) (to te : DTE) : DTS := fun E ρ n => te ρ n fun y n1 => needD y fun d => to ρ n1 fun x n2 => ∃ a o, x = .dat (refD a) ∧ n2.ob a = some o ∧ FldC K o.C f ∧ o.fs.length < 1000 ∧ E.nx ρ (n2.put a ⟨o.C, putD f d o.fs⟩)
theorem ds_fld {o e : Expr} {f : Str} {to te : DTE} {pos pos' : Pos} (ho : WE Y X o to) (he : WE Y X e te) (hs : swapsWith e (some (.Attribute o f pos')) pos.line X.env = pure false := by rfl) : DS Y X (.Assign [.Attribute o f pos'] e pos) (dFldS X.K f to te) :=
  ps_imp (ps_fld ho he hs) fun D σ H ⟨Z, F, ρ, n, E, r, ht, k⟩ => ⟨Z, F, ρ, n, _, r, ht, fun y n1 F1 H1 v hy g1 s1 d1 w1 => by
    obtain ⟨d, rfl, hy⟩ := needD_is hy
    have r1 := r.step g1 s1 d1
    refine ⟨Z, F1, ρ, n1, _, r1, hy, fun x n2 F2 H2 u ⟨a, o, ex, ho, hc, hl, hx⟩ g2 s2 d2 w2 => ?_⟩
    subst ex
    obtain rfl := VR.ref w2
    obtain ⟨hF, dx, vs, h2, h3⟩ := d2.2.1 a o ho
    have hd : Rp X.K F2 d v := Rp.mono g2.sF d v w1
    refine ⟨a, o.C, dx, vs, rfl, h2, hc.c, hc.n, by rw [← h3.length]; exact hl, ?_⟩
    have r2 := r1.step g2 s2 d2
    exact k.nx _ _ _ _ _ hx (r2.step (gr_put h2) (same_put s2 hF) (at_put (C := o.C) d2 ho h2 (h3.put hd)))⟩
theorem obN {K : PySem.W.Frag} {δ : DkS} {F H : Hp} {n : Wo} {x : Addr} (h : δ.at_ K F H n) (hx : H x = none) : n.ob x = none := by
  cases e : n.ob x with
  | none => rfl
  | some o =>
    obtain ⟨_, _, _, h2, _⟩ := h.2.1 x o e
    rw [hx] at h2; cases h2
theorem gr_mk {δ : DkS} {F H : Hp} {x dx : Addr} {u w : HO} (hx : H x = none) (hd : H dx = none) : Gr δ F H F (upd (upd H dx w) x u) :=
  (Gr.refl.chg hd).chg hx
theorem same_mk {F H : Hp} {x dx : Addr} {u w : HO} (hs : Same F H) (hx : H x = none) (hd : H dx = none) : Same F (upd (upd H dx w) x u) :=
  same_put (same_put hs (hs.free hd)) (hs.free hx)
theorem at_mk {K : PySem.W.Frag} {δ : DkS} {F H : Hp} {n : Wo} {x dx C : Addr} (hs : Same F H) (h : δ.at_ K F H n) (ho : ∀ a, a ∈ δ.own → F a = none ∧ H a ≠ none) (hx : H x = none) (hd : H dx = none) (hne : dx ≠ x) : δ.at_ K F (upd (upd H dx (.own x)) x (.ins C dx [])) (n.put x ⟨C, []⟩) := by
  have nd : dx ∉ δ.own := fun q => (ho dx q).2 hd
  have nx : x ∉ δ.own := fun q => (ho x q).2 hx
  have h1 := h.lay (u := .own x) nd hd
  have h2 := h1.lay (u := .ins C dx []) nx (by rw [upd_ne (Ne.symm hne)]; exact hx)
  refine ⟨h2.1, fun b ob e => ?_, h2.2.2⟩
  have e : (if b = x then some ⟨C, []⟩ else n.ob b) = some ob := e
  by_cases q : b = x
  · rw [if_pos q] at e
    cases e
    subst q
    exact ⟨hs.free hx, dx, [], upd_same, .nil⟩
  · rw [if_neg q] at e
    exact h2.2.1 b ob e
def dMake (C : Addr) (c : DSpecX) (dw : DW) (t : DTA) : DTE := fun ρ n R => t ρ n fun as n1 => ∀ x, n1.ob x = none → c (.dat (refD x) :: as) (n1.put x ⟨C, []⟩) (fun d n2 => d = .none ∧ R (.dat (refD x)) n2) fun ex n2 => dw ex ρ n2
theorem make_im {m : Nat} {C : Addr} {c : DSpecX} {dw : DW} {W : WX} {t : DTA} (ok : WOk Y X.K dw W) (hm : ∀ as n R E, c as n R E → as.length = m) : ∀ σ H Q, up Y X.K (dMake C c dw t) σ H Q → (upA Y X.K t) σ H fun vs H1 => ∀ x dx, H1 x = none → H1 dx = none → dx ≠ x →
    spDX X.K m c (.ref x :: vs) (upd (upd H1 dx (.own x)) x (.ins C dx [])) (fun v H2 => v = .non ∧ Q (.ref x) H2) (L2.WE W σ) :=
  fun σ H Q ⟨Z, F, ρ, n, R, r, ht, k⟩ => ⟨Z, F, ρ, n, _, r, ht, fun as n1 F1 H1 vs hx g1 s1 d1 w1 => fun x dx nx nd ne => by
    have r1 := r.step g1 s1 d1
    have gm : Gr Z.δ F1 H1 F1 (upd (upd H1 dx (.own x)) x (.ins C dx [])) := gr_mk nx nd
    have sm : Same F1 (upd (upd H1 dx (.own x)) x (.ins C dx [])) := same_mk s1 nx nd
    have dm := at_mk (C := C) s1 d1 r1.b.dkF nx nd ne
    have r2 := r1.step gm sm dm
    have hc := hx x (obN d1 nx)
    refine ⟨Z.δ, F1, _, _, _, _, hm _ _ _ _ hc, .cons vr_ref (Paired.mapP w1 fun a b h => h.step gm), sm, dm, r2.b.dkF, hc, fun d n2 F2 H2 v ⟨e, h2⟩ g2 s2 d2 w2 => ?_, fun ex n2 F2 H2 cls d h2 g2 s2 d2 w2 => ok _ _ _ _ _ _ _ _ _ h2 (r2.step g2 s2 d2) w2⟩
    subst e
    simp only [Rp] at w2
    exact ⟨w2, k _ _ _ _ _ h2 ((g1.trans gm).trans g2) s2 d2 vr_ref⟩⟩
theorem we_make {k : Nat} {C : Addr} {c : DSpecX} {dw : DW} {W : WX} {f : Addr} {fd : FuncData} {ps : List Str} {x : Str} {p pos : Pos} {e : Expr} {es : List Expr} {t : DTA} (tk : Takes X W) (ok : WOk Y X.K dw W) (M : Mk X.K C f) (F : FnGX X.prog X.w X.K X.mg X.base k f fd ps (spDX X.K ps.length c)) (hc : ∀ as n R E, c as n R E → as.length = ps.length) (hgd : X.A.guards = some []) (hr : Room (k + 1) X.A) (hg : Gl X x) (hm : X.mg x = some (.ref C)) (hb : Binds X.K fd ps [])
    (ha : WA Y X (e :: es) t) (hdb : (x == ("__debug__" : Str)) = false := by decide) (he : starEach (e :: es) X.env = (false, eval e X.env) :: starEach es X.env := by rfl) (hpl : (backTo pos (starEach es X.env)).any (·.1) = false := by rfl) :
    WE Y X (.Call (.Name x p) (e :: es) [] pos) (dMake C c dw t) :=
  ⟨fun pins s σ H Q I h => wpAny_Call_Name_kw (ld_glob I hg hm (PySem.W.callWith_K (h₀ := X.base) I.ok.mod.kin M.kp (thn (ha.run pos pins s σ H _ I (make_im (m := ps.length) ok hc σ H Q h)) fun us s1 ⟨vs, H1, I1, r, q⟩ => ⟨I1.kIn, runx_make M F hgd hr hb (passAt tk σ) I1 r q⟩) he hpl) hdb)⟩
/-- every class of PC has the method m, and it keeps c -/
def HasM (P : Program) (w : World) (K : PySem.W.Frag) (mg : Str → Option Value) (base : Heap) (PC : Addr → Prop) (m : Str) (k : Nat) (ps : List Str) (c : Addr → DSpecX) : Prop :=
  ∀ C, PC C → Cls K C ∧ ∃ g fd, Meth K C m g ∧ Binds K fd ps [] ∧ FnGX P w K mg base k g fd ps (spDX K ps.length (c C))
def dMeth (PC : Addr → Prop) (m : Str) (l : Nat) (c : Addr → DSpecX) (dw : DW) (to : DTE) (t : DTA) : DTE := fun ρ n R => to ρ n fun x n1 => ∃ a o, x = .dat (refD a) ∧ n1.ob a = some o ∧ PC o.C ∧ o.fs.lookup m = none ∧
  t ρ n1 fun as n2 => as.length + 1 = l ∧ c o.C (.dat (refD a) :: as) n2 (fun d n3 => R (.dat d) n3) fun ex n3 => dw ex ρ n3
theorem we_meth {pl : Sem Bool} {k : Nat} {PC : Addr → Prop} {m : Str} {ps : List Str} {c : Addr → DSpecX} {dw : DW} {W : WX} {o e : Expr} {es : List Expr} {to : DTE} {t : DTA} {apos pos : Pos} (tk : Takes X W) (ok : WOk Y X.K dw W) (HM : HasM X.prog X.w X.K X.mg X.base PC m k ps c) (hgd : X.A.guards = some []) (hr : Room k X.A)
    (ho : WE Y X o to) (ha : WA Y X (e :: es) t)
    (hst : starEach (e :: es) X.env = (false, eval e X.env) :: starEach es X.env := by rfl) (hpl : (backTo pos (starEach es X.env)).any (·.1) = false := by rfl)
    (ht : eval (.Call (.Attribute o m apos) (e :: es) [] pos) X.env = (do
      let ov ← eval o X.env
      standAt apos.atName
      let (f, first) ← holding [ov] (getMethod ov m pl)
      callWith pos f first (backTo pos (starEach (e :: es) X.env)) (backToKw pos (keywordEach [] X.env))) := by rfl) :
    WE Y X (.Call (.Attribute o m apos) (e :: es) [] pos) (dMeth PC m ps.length c dw to t) :=
  ⟨fun pins s σ H Q I ⟨Z, F, ρ, n, R, r, hto, kk⟩ => by
    refine PySem.W.methodCall_KW (pl := pl) (thn (ho.run pins s σ H (fun v H1 => ∃ x n1 F1, _ ∧ Gr Z.δ F H F1 H1 ∧ Same F1 H1 ∧ Z.δ.at_ X.K F1 H1 n1 ∧ VR X.K Z.δ F1 H1 x v) I ⟨Z, F, ρ, n, _, r, hto, fun x n1 F1 H1 v hx g1 s1 d1 w1 => ⟨x, n1, F1, hx, g1, s1, d1, w1⟩⟩) fun u s1 ⟨v, H1, I1, rx, x, n1, F1, ⟨a, ob, ex, hob, hPC, hl, hta⟩, g1, s1', d1, w1⟩ => ?_) ht
    subst ex
    obtain rfl := VR.ref w1
    obtain rfl : u = Value.ref a := rx
    obtain ⟨_, dx, vs, h2, h3⟩ := d1.2.1 a ob hob
    obtain ⟨hcl, g, fd, hM, hB, hF⟩ := HM _ hPC
    refine getmeth_ok I1 h2 hcl hM (h3.lookup_none hl) ?_
    have r1 := r.step g1 s1' d1
    refine PySem.W.callWith_K (first := [.ref a]) (h₀ := X.base) I.ok.mod.kin hM.kp (thn (ha.run pos pins s1 σ H1 (fun vs H2 => spDX X.K ps.length (c ob.C) (.ref a :: vs) H2 Q (L2.WE W σ)) I1 ⟨Z, F1, ρ, n1, _, r1, hta, fun as n2 F2 H2 vs2 ⟨hlen, hx⟩ g2 s2 d2 w2 => ?_⟩) fun us s2 ⟨vs, H2, I2, rr, q2⟩ => ⟨I2.kIn, runx (us := .ref a :: us) (vs := .ref a :: vs) hF hgd hr hB (passAt tk σ) I2 (.cons rfl rr) q2⟩) hst hpl
    have r2 := r1.step g2 s2 d2
    exact ⟨Z.δ, F2, .dat (refD a) :: as, n2, _, _, hlen, .cons vr_ref w2, s2, d2, r2.b.dkF, hx, fun d n3 F3 H3 v h4 g3 s3 d3 w3 => kk _ _ _ _ _ h4 ((g1.trans g2).trans g3) s3 d3 w3, fun ex n3 F3 H3 cls d h4 g3 s3 d3 w3 => ok _ _ _ _ _ _ _ _ _ h4 (r2.step g3 s3 d3) w3⟩⟩
theorem we_meth0 {pl : Sem Bool} {k : Nat} {PC : Addr → Prop} {m : Str} {ps : List Str} {c : Addr → DSpecX} {dw : DW} {W : WX} {o : Expr} {to : DTE} {apos pos : Pos} (tk : Takes X W) (ok : WOk Y X.K dw W) (HM : HasM X.prog X.w X.K X.mg X.base PC m k ps c) (hgd : X.A.guards = some []) (hr : Room k X.A)
    (ho : WE Y X o to)
    (ht : eval (.Call (.Attribute o m apos) [] [] pos) X.env = (do
      let ov ← eval o X.env
      standAt apos.atName
      let (f, first) ← holding [ov] (getMethod ov m pl)
      callWith pos f first (backTo pos (starEach [] X.env)) (backToKw pos (keywordEach [] X.env))) := by rfl) :
    WE Y X (.Call (.Attribute o m apos) [] [] pos) (dMeth PC m ps.length c dw to dNil) :=
  ⟨fun pins s σ H Q I ⟨Z, F, ρ, n, R, r, hto, kk⟩ => by
    refine PySem.W.methodCall_KW (pl := pl) (thn (ho.run pins s σ H (fun v H1 => ∃ x n1 F1, _ ∧ Gr Z.δ F H F1 H1 ∧ Same F1 H1 ∧ Z.δ.at_ X.K F1 H1 n1 ∧ VR X.K Z.δ F1 H1 x v) I ⟨Z, F, ρ, n, _, r, hto, fun x n1 F1 H1 v hx g1 s1 d1 w1 => ⟨x, n1, F1, hx, g1, s1, d1, w1⟩⟩) fun u s1 ⟨v, H1, I1, rx, x, n1, F1, ⟨a, ob, ex, hob, hPC, hl, hlen, hx⟩, g1, s1', d1, w1⟩ => ?_) ht
    subst ex
    obtain rfl := VR.ref w1
    obtain rfl : u = Value.ref a := rx
    obtain ⟨_, dx, vs, h2, h3⟩ := d1.2.1 a ob hob
    obtain ⟨hcl, g, fd, hM, hB, hF⟩ := HM _ hPC
    refine getmeth_ok I1 h2 hcl hM (h3.lookup_none hl) ?_
    have r1 := r.step g1 s1' d1
    exact PySem.W.callWith_K0 (first := [.ref a]) I1.kIn hM.kp (runx (us := [.ref a]) (vs := [.ref a]) hF hgd hr hB (passAt tk σ) I1 (.cons rfl .nil) ⟨Z.δ, F1, [.dat (refD a)], n1, _, _, hlen, .cons vr_ref .nil, s1', d1, r1.b.dkF, hx, fun d n3 F3 H3 v h4 g3 s3 d3 w3 => kk _ _ _ _ _ h4 (g1.trans g3) s3 d3 w3, fun ex n3 F3 H3 cls d h4 g3 s3 d3 w3 => ok _ _ _ _ _ _ _ _ _ h4 (r1.step g3 s3 d3) w3⟩)⟩
end
end DL
set_option maxHeartbeats 4000000
namespace DL
open PySem PySem.Spec PyProof.Rows L2
/-- what the __init__ of an error class with one field keeps -/
def spEI (C : Addr) (f : Str) : Sp := fun vs H Q _ => ∃ a v, vs = [.ref a, v] ∧ H a = some (exo a C none) ∧ ∀ dx, H dx = none → dx ≠ a → Q .non (upd (upd H dx (exd dx [(f, v)])) a (exo a C (some dx)))
theorem heap_back {H : Hp} {a d : Addr} {o u w x : HO} (ha : H a = none) (hne : d ≠ a) : upd (del (upd (upd (upd H a o) d u) a w) a) d x = upd H d x := by
  funext b
  by_cases h1 : b = d
  · subst h1; rw [upd_same, upd_same]
  · rw [upd_ne h1, upd_ne h1]
    by_cases h2 : b = a
    · subst h2; rw [del_same, ha]
    · rw [del_ne h2, upd_ne h2, upd_ne h1, upd_ne h2]
/-- what an error class of one field must have -/
structure ErrC (P : Program) (w : World) (K : PySem.W.Frag) (mg : Str → Option Value) (base : Heap) (x : Str) (C : Addr) (f : Str) : Prop where
  g : mg x = some (.ref C)
  T : OexC K C
  i : ∃ fI fd ps, PySem.W.findIn K (.ref C) "__init__" = some (some (.ref fI)) ∧ PySem.W.typeIn K (.ref fI) = some (.type "function") ∧ FnOk P w K mg base CX0 1 fI fd ps (spEI C f) ∧ Binds K fd ps []
/-- .. of none -/
structure ErrC0 (K : PySem.W.Frag) (mg : Str → Option Value) (x : Str) (C : Addr) : Prop where
  g : mg x = some (.ref C)
  kC : PySem.W.keepIn K (.ref C) = true
  e : PySem.W.excIn K C [.type "ValueError", .type "Exception", .type "BaseException", .type "object"] "ValueError.__new__" = true
  bP : PySem.W.subIn K (.ref C) (.type "BaseException") = some true
  tP : PySem.W.typeIn K (.ref C) = some (.type "type")
section
variable {X : Cx} {Y : Fx} {dw : DW} {W : WX}
def dRaise (C : Addr) (f : Str) (dw : DW) (t : DTE) : DTS := fun _ ρ n => t ρ n fun x n1 => needD x fun d => dw ⟨C, [(f, d)]⟩ ρ n1
theorem ds_raise {C : Addr} {x f : Str} {e : Expr} {t : DTE} {p pos pos2 : Pos} (hc : X.calm = true) (tk : Takes X W) (ok : WOk Y X.K dw W) (T : ErrC X.prog X.w X.K X.mg X.base x C f) (hr : Room 2 X.A) (hg : Gl X x) (ha : WE Y X e t)
    (hdb : (x == ("__debug__" : Str)) = false := by decide) (he : starEach [e] X.env = (false, eval e X.env) :: starEach [] X.env := by rfl) (hpl : (backTo pos (starEach [] X.env)).any (·.1) = false := by rfl) :
    DS Y X (.Raise (some (.Call (.Name x p) [e] [] pos)) none pos2) (dRaise C f dw t) := by
  obtain ⟨fI, fd, ps, i1, i2, i3, i4⟩ := T.i
  refine ps_imp (ps_raise hc tk (pmk_oex (k := 1) (ds := []) (dvs := []) T.T i1 i2 i3 hr i4 .nil pass0 hg T.g (pa_cons ha pa_nil he) hdb he hpl)) fun D σ H ⟨Z, F, ρ, n, E, r, ht, k⟩ => ?_
  refine ⟨Z, F, ρ, n, _, r, ht, fun y n1 F1 H1 v hy g1 s1 d1 w1 => ?_⟩
  obtain ⟨d, rfl, hy⟩ := needD_is hy
  refine ⟨(by decide : 1 ≤ 1000), fun a ha => ⟨a, v, rfl, upd_same, fun dx h1 h2 => ?_⟩⟩
  have hd1 : H1 dx = none := by rw [upd_ne h2] at h1; exact h1
  refine ⟨rfl, dx, [(f, v)], upd_same, by rw [upd_ne h2]; exact upd_same, hd1, ?_⟩
  rw [heap_back ha h2]
  have r1 := r.step g1 s1 d1
  obtain ⟨g2, s2⟩ := Gp.new (o := .xd [(f, v)]) hd1 s1
  exact ok _ _ _ _ _ _ _ _ _ hy (r1.step g2.gr s2 (g2.dk r1.b)) ⟨rfl, .inr ⟨dx, _, rfl, upd_same, .cons ⟨rfl, Rp.mono g2.sF d v w1⟩ .nil⟩⟩
def dRaise0 (C : Addr) (dw : DW) : DTS := fun _ ρ n => dw ⟨C, []⟩ ρ n
theorem pmk_err0 {C : Addr} {x : Str} {p pos : Pos} (T : ErrC0 X.K X.mg x C) (hg : Gl X x) (hdb : (x == ("__debug__" : Str)) = false := by decide) : PMk X (.Call (.Name x p) [] [] pos) (fun _ H Q => Q (.ref C) none H) := by
  intro pins s σ H Q I h
  refine wpAny_Call_Name_kw (ld_glob I hg T.g ?_ hdb)
  refine PySem.W.callWith_K0 I.kIn T.kC ?_
  obtain ⟨bm, N, nm, qn, bs, hdct, sn, sub, ab, col, dd, k0, k1, k2, k3, k5, mN, hC, hN, hni, Tl⟩ := exc_obj I.kIn T.e
  refine wpAny_call_exc_subT F.excBase_ValueError Tl hC hN hni (fun h' e hm => ?_) (Nat.zero_le _)
  exact mk_of I hm (raises_own T.bP T.tP) h (I.hok.gone hm.new)
theorem ds_raise0 {C : Addr} {x : Str} {p pos pos2 : Pos} (hc : X.calm = true) (tk : Takes X W) (ok : WOk Y X.K dw W) (T : ErrC0 X.K X.mg x C) (hg : Gl X x) (hdb : (x == ("__debug__" : Str)) = false := by decide) : DS Y X (.Raise (some (.Call (.Name x p) [] [] pos)) none pos2) (dRaise0 C dw) :=
  ps_imp (ps_raise hc tk (pmk_err0 T hg hdb)) fun D σ H ⟨Z, F, ρ, n, E, r, ht, k⟩ => ok _ _ _ _ _ _ _ _ _ ht r ⟨rfl, .inl ⟨rfl, rfl⟩⟩
/-- an error is caught -/
def caught (a : Addr) (ex : Ex) (d : Option Addr) (n : Wo) : Wo := n.putX a ⟨.ref ex.C, d, ex.fs⟩
theorem at_caught {K : PySem.W.Frag} {δ : DkS} {F H : Hp} {n : Wo} {a : Addr} {ex : Ex} {d : Option Addr} (h : δ.at_ K F H n) (hx : XoAt K F ⟨.ref ex.C, d, ex.fs⟩) : δ.at_ K F H (caught a ex d n) :=
  ⟨h.1, h.2.1, fun b x e => by
    have e : (if b = a then some ⟨.ref ex.C, d, ex.fs⟩ else n.xs b) = some x := e
    by_cases q : b = a
    · rw [if_pos q] at e; cases e; exact hx
    · rw [if_neg q] at e; exact h.2.2 b x e⟩
/-- the ends of a suite, where slot i is emptied -/
def endsX (i : Nat) (E : DEnds) : DEnds := { nx := fun ρ n => E.nx (ρ.set i none) n, rt := E.rt, bk := fun ρ n => E.bk (ρ.set i none) n, ct := fun ρ n => E.ct (ρ.set i none) n }
theorem SR.clear {K : PySem.W.Frag} {Z : Fx} {F H : Hp} {σ : L2.St} {ρ : Rho} {n : Wo} (r : SR Y K Z F H σ ρ n) (i : Nat) : SR Y K Z F H (σ.set i none) (ρ.set i none) n where
  b := r.b
  de := r.de
  he := r.he
  gr := r.gr
  len := by simp [r.len]
  slot := fun j x e => by
    by_cases q : i = j
    · subst q
      by_cases hl : i < ρ.length
      · rw [List.getElem?_set_self hl] at e; cases e
      · rw [List.getElem?_eq_none (by rw [List.length_set]; omega)] at e; cases e
    · rw [List.getElem?_set_ne q] at e
      obtain ⟨v, e1, e2⟩ := r.slot j x e
      exact ⟨v, by rw [List.getElem?_set_ne q]; exact e1, e2⟩
  apart := fun j k a ds y hjk e1 e2 e3 hy e4 => by
    have nz : ∀ {m : Nat} {z : Dv}, (ρ.set i none)[m]? = some (some z) → i ≠ m ∧ ρ[m]? = some (some z) := fun {m z} e => by
      by_cases q : i = m
      · subst q
        by_cases hl : i < ρ.length
        · rw [List.getElem?_set_self hl] at e; cases e
        · rw [List.getElem?_eq_none (by rw [List.length_set]; omega)] at e; cases e
      · rw [List.getElem?_set_ne q] at e; exact ⟨q, e⟩
    obtain ⟨n1, e1⟩ := nz e1
    obtain ⟨n3, e3⟩ := nz e3
    rw [List.getElem?_set_ne n1] at e2
    rw [List.getElem?_set_ne n3] at e4
    exact r.apart j k a ds y hjk e1 e2 e3 hy e4
theorem ends_x {K : PySem.W.Frag} {Z : Fx} {E : DEnds} {D : Ends} {i : Nat} (k : EndsOk Y K Z E D) : EndsOk Y K Z (endsX i E) { nx := fun σ' H' => D.nx (σ'.set i none) H', rt := D.rt, bk := fun σ' H' => D.bk (σ'.set i none) H', ct := fun σ' H' => D.ct (σ'.set i none) H' } :=
  ⟨fun F H σ ρ n h r => k.nx _ _ _ _ _ h (r.clear i), k.rt, fun F H σ ρ n h r => k.bk _ _ _ _ _ h (r.clear i), fun F H σ ρ n h r => k.ct _ _ _ _ _ h (r.clear i)⟩
/-- a def's entry, moved to where F stands -/
def Fx.at_ (Y : Fx) (F : Hp) : Fx := ⟨F, Y.H0, Y.δ⟩
theorem SlotV.re {K : PySem.W.Frag} {Z Z' : Fx} {F H : Hp} {x : Dv} {v : V} (h0 : Z.H0 = Z'.H0) (hd : Z.δ = Z'.δ) (h : SlotV K Z F H x v) : SlotV K Z' F H x v := by
  cases x with
  | mt ds =>
    obtain ⟨a, vs, e, h1, h2, h3, h4, h5⟩ := h
    exact ⟨a, vs, e, by rw [← h0]; exact h1, h2, h3, h4, by rw [← hd]; exact h5⟩
  | md a ks =>
    obtain ⟨e, h1, h2, h3, h4⟩ := h
    exact ⟨e, by rw [← h0]; exact h1, h2, h3, by rw [← hd]; exact h4⟩
  | dat d => exact h
  | vw ds =>
    obtain ⟨a, vs, e, h1, h2, h3⟩ := h
    exact ⟨a, vs, e, h1, h2, by rw [← hd]; exact h3⟩
  | deck k =>
    obtain ⟨a, e, h1⟩ := h
    exact ⟨a, e, by rw [← hd]; exact h1⟩
theorem SR.enter {K : PySem.W.Frag} {Z : Fx} {F H : Hp} {σ : L2.St} {ρ : Rho} {n : Wo} (r : SR Y K Z F H σ ρ n) : SR (Y.at_ F) K (Y.at_ F) F H σ ρ n where
  b := by
    have hd := r.de
    have h0 := r.he
    refine ⟨r.b.sub, ?_, ?_, Same.refl _, fun _ _ h => h, r.gr.kH, r.gr.iH⟩
    · show Y.δ.at_ K F H n
      rw [← hd]; exact r.b.dk
    · intro a ha
      exact r.b.dkF a (by rw [hd]; exact ha)
  de := rfl
  he := rfl
  gr := ⟨Same.refl _, fun _ _ h => h, r.gr.kH, r.gr.iH, r.gr.dH⟩
  len := r.len
  slot := fun i x e => by
    obtain ⟨v, e1, e2⟩ := r.slot i x e
    exact ⟨v, e1, e2.re r.he r.de⟩
  apart := r.apart
theorem Base.exit {K : PySem.W.Frag} {Z Z1 : Fx} {F H F2 H2 : Hp} {σ : L2.St} {ρ : Rho} {n n2 : Wo} (r : SR Y K Z F H σ ρ n) (hd : Z1.δ = Y.δ) (h0 : Z1.H0 = Y.H0) (g : Gr Y.δ F Y.H0 F2 H2) (b : Base K Z1 F2 H2 n2) : Base K Z F2 H2 n2 :=
  ⟨b.sub, by rw [r.de, ← hd]; exact b.dk, fun a ha => b.dkF a (by rw [hd, ← r.de]; exact ha), r.b.gF.trans g.sF, fun a h1 h2 => g.nF a (by rw [← r.he]; exact h1) (r.b.gN a h1 h2), fun a o na e hi => g.kH a o (by rw [← r.de]; exact na) (by rw [← r.he]; exact e) hi, fun a C dx fs e => g.iH a C dx fs (by rw [← r.he]; exact e)⟩
theorem SR.exit {K : PySem.W.Frag} {Z Z1 : Fx} {F H F2 H2 : Hp} {σ σ2 : L2.St} {ρ ρ2 : Rho} {n n2 : Wo} (r : SR Y K Z F H σ ρ n) (q : SR (Y.at_ F) K Z1 F2 H2 σ2 ρ2 n2) : SR Y K Z F2 H2 σ2 ρ2 n2 where
  b := Base.exit r q.de q.he q.gr q.b
  de := r.de
  he := r.he
  gr := ⟨r.gr.sF.trans q.gr.sF, fun a h1 h2 => q.gr.nF a h1 (r.gr.nF a h1 h2), q.gr.kH, q.gr.iH, q.gr.dH⟩
  len := q.len
  slot := fun i x e => by
    obtain ⟨v, e1, e2⟩ := q.slot i x e
    exact ⟨v, e1, e2.re (q.he.trans r.he.symm) (q.de.trans r.de.symm)⟩
  apart := q.apart
theorem ends_in {K : PySem.W.Frag} {Z : Fx} {F H : Hp} {σ : L2.St} {ρ : Rho} {n : Wo} {E : DEnds} {D : Ends} (r : SR Y K Z F H σ ρ n) (k : EndsOk Y K Z E D) : EndsOk (Y.at_ F) K (Y.at_ F) E D :=
  ⟨fun _ _ _ _ _ h q => k.nx _ _ _ _ _ h (r.exit q), fun d n2 F2 H2 v h b q => k.rt _ _ _ _ _ h (Base.exit (Z1 := Y.at_ F) r rfl rfl ⟨b.gF, b.gN, b.gH, b.gI, fun a h => b.gD a h⟩ b) q, fun _ _ _ _ _ h q => k.bk _ _ _ _ _ h (r.exit q), fun _ _ _ _ _ h q => k.ct _ _ _ _ _ h (r.exit q)⟩
theorem pss_ex {α : Sort _} {st : List Stmt} {Q : α → Prop} {t : α → TS} (h : ∀ a, Q a → PSs X st (t a)) : PSs X st (fun D σ H => ∃ a, Q a ∧ t a D σ H) := ⟨fun p s σ H D I ⟨a, q, w⟩ => (h a q).run p s σ H D I w⟩
end
end DL
set_option maxHeartbeats 4000000
namespace DL
open PySem PySem.Spec PyProof.Rows L2
/-- the classes' expressions, evaluated -/
def tK (vs : List V) : TA := fun _ H Q => Q vs H
theorem pa_k0 {X : Cx} : PA X [] (tK []) := pa_nil
theorem pa_k {X : Cx} {e : Expr} {es : List Expr} {v : V} {vs : List V} (h : PE X e (tC v)) (r : PA X es (tK vs)) (hs : starEach (e :: es) X.env = (false, eval e X.env) :: starEach es X.env := by rfl) : PA X (e :: es) (tK (v :: vs)) :=
  pa_imp (pa_cons h r hs) fun σ H Q h => h
/-- what the text says of an error class, for isinstance -/
structure IsC (K : PySem.W.Frag) (C : Addr) : Prop where
  cl : (PySem.W.clsIn K C).isSome = true
  ga : PySem.W.findIn K (.ref C) "__getattribute__" = some (some (.builtin "BaseException.__getattribute__"))
  gt : PySem.W.findIn K (.ref C) "__getattr__" = some none
  su : PySem.W.subIn K (.ref C) (.type "BaseException") = some true
  ca : PySem.W.findIn K (.ref C) "__class__" = some (some (.builtin "object.__class__"))
  cg : PySem.W.specialIn K (.builtin "object.__class__") "__get__" = some (some (.builtin "getset_descriptor.__get__"))
  ct : PySem.W.takesIn K (.builtin "object.__class__") = some true
  mo : PySem.W.mroIn K C (.type "object") = some true
/-- .. of a plain class -/
structure InsC (K : PySem.W.Frag) (C : Addr) : Prop where
  c : Cls K C
  ca : PySem.W.findIn K (.ref C) "__class__" = some (some (.builtin "object.__class__"))
  cg : PySem.W.specialIn K (.builtin "object.__class__") "__get__" = some (some (.builtin "getset_descriptor.__get__"))
  ct : PySem.W.takesIn K (.builtin "object.__class__") = some true
  mo : PySem.W.mroIn K C (.type "object") = some true
section
variable {X : Cx} {Y : Fx}
/-- the caught error stands -/
theorem inst_x {pins pn : List (Addr × Obj)} {σ : L2.St} {H : Hp} {s : Shared} {a C : Addr} {oe : Obj} {d : Option Addr} (I : Inv (X.suite a ((a, oe) :: pn)) pins σ H s) (hz : Zc (.ref C) d oe) (hf : ∃ vs, oe.data = .fields vs) (hd : d = none ∨ ∃ dd fs, d = some dd ∧ H dd = some (.xd fs)) :
    ∃ od, PySem.W.InstAt s.heap a oe C od := by
  obtain ⟨hget, _⟩ := I.pin (a, oe) (List.mem_append.mpr (.inl List.mem_cons_self))
  obtain ⟨vs, hv⟩ := hf
  rcases hd with rfl | ⟨dd, fs, rfl, hdd⟩
  · refine ⟨none, hget, hz.1, by unfold PySem.W.notCls; rw [hv] <;> rfl, ?_⟩
    rw [hz.2]
    trivial
  · have hx : ObjOk X.prog X.w H s.heap dd (.xd fs) := I.hok dd _ hdd
    obtain ⟨mA, hns, hr⟩ := hx
    obtain ⟨od, ho, hl⟩ := lookIn_ns hns
    exact ⟨some od, hget, hz.1, by unfold PySem.W.notCls; rw [hv] <;> rfl, by rw [hz.2]; exact ho⟩
def rIsX (K : PySem.W.Frag) (a : Addr) (cls : Value) (d : Option Addr) : List V → Hp → VK → Prop := fun xs H Q => ∃ (c : V) (cv : Value) (C : Addr) (b : Bool), xs = [.ref a, c] ∧ cls = .ref C ∧ (d = none ∨ ∃ dd fs, d = some dd ∧ H dd = some (.xd fs)) ∧ IsC K C ∧ ClsV c cv ∧ PySem.W.kitOne K (.ref C) cv = some b ∧ Q (.bl b) H
theorem call_isX {a : Addr} {oe : Obj} {cls : Value} {d : Option Addr} {pn : List (Addr × Obj)} (hz : Zc cls d oe) (hf : ∃ vs, oe.data = .fields vs) : CallR (X.suite a ((a, oe) :: pn)) (.builtin "isinstance") (rIsX X.K a cls d) := by
  intro pins s σ H xs us Q I r h
  obtain ⟨c, cv, C, b, rfl, rfl, hd, T, hc, e, q⟩ := h
  cases r with
  | cons rx rr =>
    cases rr with
    | cons rt rr =>
      cases rr
      cases rx
      have ec := hc.eq rt
      subst ec
      obtain ⟨od, J⟩ := inst_x I hz hf hd
      exact PySem.W.kia_one (PySem.W.kitx_exc T.cl T.ga T.gt T.su T.ca T.cg T.ct T.mo) I.kIn J e (fun z => nomatch z) fun tk => ⟨.bl b, H, I.tok tk, rfl, q⟩
def rIsXT (K : PySem.W.Frag) (a : Addr) (cls : Value) (d : Option Addr) : List V → Hp → VK → Prop := fun xs H Q => ∃ (tp : Addr) (cs : List V) (us : List Value) (C : Addr) (b : Bool), xs = [.ref a, .ref tp] ∧ H tp = some (.tup cs) ∧ cls = .ref C ∧ (d = none ∨ ∃ dd fs, d = some dd ∧ H dd = some (.xd fs)) ∧ IsC K C ∧ Paired ClsV cs us ∧ PySem.W.kitAny K (.ref C) us = some b ∧ Q (.bl b) H
theorem call_isXT {a : Addr} {oe : Obj} {cls : Value} {d : Option Addr} {pn : List (Addr × Obj)} (hz : Zc cls d oe) (hf : ∃ vs, oe.data = .fields vs) : CallR (X.suite a ((a, oe) :: pn)) (.builtin "isinstance") (rIsXT X.K a cls d) := by
  intro pins s σ H xs us Q I r h
  obtain ⟨tp, cs, ts, C, b, rfl, htp, rfl, hd, T, hc, e, q⟩ := h
  cases r with
  | cons rx rr =>
    cases rr with
    | cons rt rr =>
      cases rr
      cases rx
      cases rt
      obtain ⟨od, J⟩ := inst_x I hz hf hd
      obtain ⟨its, rv, ⟨o, hg, hcl, n, hdt⟩, _⟩ := I.tuple (SqT.of htp)
      have ei := ClsV.all hc rv
      subst ei
      obtain ⟨oc, odd, oda, osl⟩ := o
      dsimp only at hcl hdt
      subst hcl hdt
      exact PySem.W.kia_tup (PySem.W.kitx_exc T.cl T.ga T.gt T.su T.ca T.cg T.ct T.mo) I.kIn J hg e (fun z => nomatch z) fun tk => ⟨.bl b, H, I.tok tk, rfl, q⟩
theorem xo_d {K : PySem.W.Frag} {F H : Hp} {x : Xo} (h : XoAt K F x) (hs : Same F H) : x.d = none ∨ ∃ dd fs, x.d = some dd ∧ H dd = some (.xd fs) := by
  rcases h with h | ⟨dd, vs, h1, h2, _⟩
  · exact .inl h.1
  · exact .inr ⟨dd, vs, h1, hs _ _ h2⟩
/-- isinstance(e, C), e the caught error -/
def dIsX (K : PySem.W.Frag) (a : Addr) (cls : Value) (d : Option Addr) (cv : Value) (t : DTE) : DTE := fun ρ n R => t ρ n fun x n1 => x = .dat (refD a) ∧ ∃ C fs b, cls = .ref C ∧ n1.xs a = some ⟨cls, d, fs⟩ ∧ IsC K C ∧ PySem.W.kitOne K (.ref C) cv = some b ∧ R (.dat (.bool b)) n1
theorem we_isX {a : Addr} {oe : Obj} {cls : Value} {d : Option Addr} {pn : List (Addr × Obj)} {c : V} {cv : Value} {e ec : Expr} {t : DTE} {p pos : Pos} (hz : Zc cls d oe) (hf : ∃ vs, oe.data = .fields vs) (hg : Gl X "isinstance") (hm : X.mg "isinstance" = none) (he : WE Y (X.suite a ((a, oe) :: pn)) e t) (hec : PE (X.suite a ((a, oe) :: pn)) ec (tC c)) (hcv : ClsV c cv)
    (h1 : starEach [e, ec] X.env = (false, eval e X.env) :: starEach [ec] X.env := by rfl) (h2 : starEach [ec] X.env = (false, eval ec X.env) :: starEach [] X.env := by rfl) (hpl : (backTo pos (starEach [ec] X.env)).any (·.1) = false := by rfl) :
    WE Y (X.suite a ((a, oe) :: pn)) (.Call (.Name "isinstance" p) [e, ec] [] pos) (dIsX X.K a cls d cv t) :=
  pe_imp (pe_callB (call_isX hz hf) hg hm PyProof.Rows.boot_isinstance (pa_cons he (pa_cons hec pa_nil h2) h1) (by decide) (by decide) h1 hpl) fun σ H Q ⟨Z, F, ρ, n, R, r, ht, k⟩ =>
    ⟨Z, F, ρ, n, _, r, ht, fun x n1 F1 H1 v ⟨ex, C, fs, b, hcls, hxs, hT, hk, hR⟩ g1 s1 d1 w1 => by
      subst ex
      obtain rfl := VR.ref w1
      exact ⟨c, cv, C, b, rfl, hcls, xo_d (d1.2.2 _ _ hxs) s1, hT, hcv, hk, k _ _ _ _ _ hR g1 s1 d1 (by simp [VR, Rp])⟩⟩
/-- isinstance(e, (C, ..)) -/
def dIsXT (K : PySem.W.Frag) (a : Addr) (cls : Value) (d : Option Addr) (us : List Value) (t : DTE) : DTE := fun ρ n R => t ρ n fun x n1 => x = .dat (refD a) ∧ ∃ C fs b, cls = .ref C ∧ n1.xs a = some ⟨cls, d, fs⟩ ∧ IsC K C ∧ PySem.W.kitAny K (.ref C) us = some b ∧ R (.dat (.bool b)) n1
theorem we_isXT {a : Addr} {oe : Obj} {cls : Value} {d : Option Addr} {pn : List (Addr × Obj)} {cs : List V} {us : List Value} {e : Expr} {es : List Expr} {t : DTE} {p pos p2 : Pos} {x1} (hz : Zc cls d oe) (hf : ∃ vs, oe.data = .fields vs) (hg : Gl X "isinstance") (hm : X.mg "isinstance" = none) (he : WE Y (X.suite a ((a, oe) :: pn)) e t) (hes : PA (X.suite a ((a, oe) :: pn)) es (tK cs)) (hcv : Paired ClsV cs us) (hl : cs.length ≤ sizeLine)
    (h1 : starEach [e, .Tuple es x1 p2] X.env = (false, eval e X.env) :: starEach [.Tuple es x1 p2] X.env := by rfl) (h2 : starEach [.Tuple es x1 p2] X.env = (false, eval (.Tuple es x1 p2) X.env) :: starEach [] X.env := by rfl) (hpl : (backTo pos (starEach [.Tuple es x1 p2] X.env)).any (·.1) = false := by rfl) :
    WE Y (X.suite a ((a, oe) :: pn)) (.Call (.Name "isinstance" p) [e, .Tuple es x1 p2] [] pos) (dIsXT X.K a cls d us t) :=
  pe_imp (pe_callB (call_isXT hz hf) hg hm PyProof.Rows.boot_isinstance (pa_cons he (pa_cons (pe_tup hes) pa_nil h2) h1) (by decide) (by decide) h1 hpl) fun σ H Q ⟨Z, F, ρ, n, R, r, ht, k⟩ =>
    ⟨Z, F, ρ, n, _, r, ht, fun x n1 F1 H1 v ⟨ex, C, fs, b, hcls, hxs, hT, hk, hR⟩ g1 s1 d1 w1 => by
      subst ex
      obtain rfl := VR.ref w1
      refine ⟨hl, fun tp hp => ?_⟩
      obtain ⟨g2, s2⟩ := Gp.newM (o := .tup cs) hp s1
      have r1 := r.step g1 s1 d1
      exact ⟨tp, cs, us, C, b, rfl, upd_same, hcls, xo_d (d1.2.2 _ _ hxs) s2, hT, hcv, hk, k _ _ _ _ _ hR (g1.trans g2.gr) s2 (g2.dk r1.b) (by simp [VR, Rp])⟩⟩
/-- e.f, e the caught error -/
def dXf (K : PySem.W.Frag) (a : Addr) (cls : Value) (d : Option Addr) (f : Str) (t : DTE) : DTE := fun ρ n R => t ρ n fun x n1 => x = .dat (refD a) ∧ ∃ C fs v, cls = .ref C ∧ n1.xs a = some ⟨cls, d, fs⟩ ∧ (XfC K C ∧ PySem.W.findIn K (.ref C) f = some none) ∧ fs.lookup f = some v ∧ R (.dat v) n1
theorem we_xf {a : Addr} {oe : Obj} {cls : Value} {d : Option Addr} {pn : List (Addr × Obj)} {e : Expr} {f : Str} {t : DTE} {pos : Pos} (hz : Zc cls d oe) (hf : ∃ vs, oe.data = .fields vs) (he : WE Y (X.suite a ((a, oe) :: pn)) e t) (hb : attributeBase e f X.env (eval e X.env) = eval e X.env := by rfl) :
    WE Y (X.suite a ((a, oe) :: pn)) (.Attribute e f pos) (dXf X.K a cls d f t) := by
  have key : PE (X.suite a ((a, oe) :: pn)) (.Attribute e f pos) (fun σ H Q => up Y X.K t σ H fun x H1 => x = .ref a ∧ ∃ C, (XfC X.K C ∧ PySem.W.findIn X.K (.ref C) f = some none) ∧ cls = .ref C ∧ ∃ (dd : Addr) (fs : List (Str × V)) (v : V), d = some dd ∧ H1 dd = some (.xd fs) ∧ fs.lookup f = some v ∧ Q v H1) := by
    refine ⟨fun pins s σ H Q I h => ?_⟩
    refine attr_of hb (thn (he.run pins s σ H _ I h) fun u s1 hh => ?_)
    obtain ⟨x, H1, I1, rx, ex, C, ⟨T, hno⟩, ec, dd, fs, v, ed, ea, l, q⟩ := hh
    subst ex
    obtain rfl : u = Value.ref a := rx
    subst ec
    obtain ⟨ha, _⟩ := I1.pin (a, oe) (List.mem_append_left _ List.mem_cons_self)
    obtain ⟨mA, hns, hr⟩ := (show ObjOk X.prog X.w H1 s1.heap dd (.xd fs) from I1.hok dd _ ea)
    obtain ⟨u, hu, ru⟩ := RelO.some_of (v := v) (o := mA f) (by rw [← l]; exact hr f)
    obtain ⟨od, ho, hl⟩ := lookIn_ns hns
    obtain ⟨ws, hw⟩ := hf
    subst ed
    have J : PySem.W.InstAt s1.heap a oe C (some od) := ⟨ha, hz.1, by unfold PySem.W.notCls; rw [hw] <;> rfl, by rw [hz.2]; exact ho⟩
    exact HandSPX.exc_get I1.kIn J T.ga T.gg T.exC (PySem.W.findObj_own T.hdC hno rfl (by rw [hl, hu])) (handed_of ru) ⟨v, H1, I1.tok _, ru, q⟩
  refine pe_imp key fun σ H Q ⟨Z, F, ρ, n, R, r, ht, k⟩ => ⟨Z, F, ρ, n, _, r, ht, fun x n1 F1 H1 v ⟨ex, C, fs, w, hcls, hxs, hT, hl, hR⟩ g1 s1 d1 w1 => ?_⟩
  subst ex
  obtain rfl := VR.ref w1
  rcases d1.2.2 _ _ hxs with ⟨h1, h2⟩ | ⟨dd, vs, h1, h2, h3⟩
  · have h2 : fs = [] := h2
    rw [h2] at hl
    cases hl
  · obtain ⟨u, h4, h5⟩ := h3.lookup hl
    exact ⟨rfl, C, hT, hcls, dd, vs, u, h1, s1 _ _ h2, h4, k _ _ _ _ _ hR g1 s1 d1 h5⟩
def TyDv (K : PySem.W.Frag) (n : Wo) (x : Dv) (ty : Value) : Prop := (isDR x = false ∧ ty = .type (tyD x.toD)) ∨ ∃ a o, x = .dat (refD a) ∧ n.ob a = some o ∧ InsC K o.C ∧ ty = .ref o.C
theorem TyDv.x {K : PySem.W.Frag} {δ : DkS} {F H : Hp} {n : Wo} {x : Dv} {v : V} {ty : Value} (h : TyDv K n x ty) (hv : VR K δ F H x v) (hs : Same F H) (hd : δ.at_ K F H n) : TyX K H v ty := by
  rcases h with ⟨h1, rfl⟩ | ⟨a, o, rfl, ho, hc, rfl⟩
  · exact tyD_of (hv.rp hs (isDR_dk h1)) (isDR_rf h1)
  · obtain rfl := VR.ref hv
    obtain ⟨_, dx, vs, h2, _⟩ := hd.2.1 a o ho
    exact .base (.ins h2 hc.c hc.ca hc.cg hc.ct hc.mo)
end
end DL
set_option maxHeartbeats 4000000
namespace DL
open PySem PySem.Spec PyProof.Rows L2
def HasX (P : Program) (w : World) (K : PySem.W.Frag) (mg : Str → Option Value) (base : Heap) (x : Str) (k : Nat) (ps : List Str) (c : DSpecX) : Prop :=
  ∃ f fd, mg x = some (.ref f) ∧ PySem.W.keepIn K (.ref f) = true ∧ Binds K fd ps [] ∧ FnGX P w K mg base k f fd ps (spDX K ps.length c)
/-- the class x stands at C, and its __init__ keeps c -/
def HasC (P : Program) (w : World) (K : PySem.W.Frag) (mg : Str → Option Value) (base : Heap) (x : Str) (C : Addr) (k : Nat) (ps : List Str) (c : DSpecX) : Prop :=
  mg x = some (.ref C) ∧ (∀ as n R E, c as n R E → as.length = ps.length) ∧ ∃ f fd, Mk K C f ∧ Binds K fd ps [] ∧ FnGX P w K mg base k f fd ps (spDX K ps.length c)
section
variable {X : Cx} {Y : Fx} {dw : DW} {W : WX}
theorem we_hasX {k : Nat} {c : DSpecX} {ps : List Str} {x : Str} {p pos : Pos} {e : Expr} {es : List Expr} {t : DTA} (tk : Takes X W) (ok : WOk Y X.K dw W) (h : HasX X.prog X.w X.K X.mg X.base x k ps c) (hgd : X.A.guards = some []) (hr : Room k X.A) (hg : Gl X x)
    (ha : WA Y X (e :: es) t) (hdb : (x == ("__debug__" : Str)) = false := by decide) (he : starEach (e :: es) X.env = (false, eval e X.env) :: starEach es X.env := by rfl) (hpl : (backTo pos (starEach es X.env)).any (·.1) = false := by rfl) :
    WE Y X (.Call (.Name x p) (e :: es) [] pos) (dFnX ps.length c dw t) := by
  obtain ⟨f, fd, h1, h2, h3, h4⟩ := h
  exact we_fnX tk ok h4 hgd hr hg h1 h2 h3 ha hdb he hpl
theorem we_hasC {k : Nat} {C : Addr} {c : DSpecX} {ps : List Str} {x : Str} {p pos : Pos} {e : Expr} {es : List Expr} {t : DTA} (tk : Takes X W) (ok : WOk Y X.K dw W) (h : HasC X.prog X.w X.K X.mg X.base x C k ps c) (hgd : X.A.guards = some []) (hr : Room (k + 1) X.A) (hg : Gl X x)
    (ha : WA Y X (e :: es) t) (hdb : (x == ("__debug__" : Str)) = false := by decide) (he : starEach (e :: es) X.env = (false, eval e X.env) :: starEach es X.env := by rfl) (hpl : (backTo pos (starEach es X.env)).any (·.1) = false := by rfl) :
    WE Y X (.Call (.Name x p) (e :: es) [] pos) (dMake C c dw t) := by
  obtain ⟨h1, h2, f, fd, h3, h4, h5⟩ := h
  exact we_make tk ok h3 h5 h2 hgd hr hg h1 h4 ha hdb he hpl
/-- .. in a try: statement whose body is one expression that may raise -/
theorem names_own {x : Str} {C : Addr} (hg : Gl X x) (hm : X.mg x = some (.ref C)) (hdb : (x == ("__debug__" : Str)) = false := by decide) : Names X x (.ref C) := ⟨hg, hdb, .inl hm⟩
end
def inCls (st : Stmt) (j : Nat) : Stmt := match st with
  | .ClassDef _ _ _ b _ _ _ _ _ _ _ => b.getD j (.Pass ⟨0, 0, 0, 0⟩)
  | _ => .Pass ⟨0, 0, 0, 0⟩
end DL
namespace DL
open PySem PySem.Spec PyProof.Rows L2
theorem kit_own {K : PySem.W.Frag} {t : Value} {D : Addr} {b : Bool} (h1 : PySem.W.isClsIn K D = true) (h2 : PySem.W.typeIn K (.ref D) = some (.type "type")) (h3 : PySem.W.subIn K (.ref D) (.ref D) = some true) (h4 : PySem.W.subIn K t (.ref D) = some b) : PySem.W.kitOne K t (.ref D) = some b := by
  unfold PySem.W.kitOne
  by_cases e : (t == Value.ref D) = true
  · rw [if_pos e]
    have e2 : t = .ref D := beq_iff_eq.mp e
    rw [e2] at h4
    rw [← h4, h3]
  · rw [if_neg e]
    unfold PySem.W.kitCls
    have h1' : (PySem.W.clsIn K D).isSome = true := h1
    simp only [h1', h2, Bool.true_and]
    rw [if_pos (by simp)]
    exact h4
theorem kit_oty {K : PySem.W.Frag} {T : String} {D : Addr} {b : Bool} (h1 : PySem.W.kitMeta T = true) (h4 : PySem.W.subIn K (.ref D) (.type T) = some b) : PySem.W.kitOne K (.ref D) (.type T) = some b := by
  unfold PySem.W.kitOne
  rw [if_neg (by simp)]
  unfold PySem.W.kitCls
  simp only [h1, if_true]
  exact h4
end DL
set_option maxHeartbeats 4000000
namespace DL
open PySem PySem.Spec PyProof.Rows L2
section
variable {X : Cx} {Y : Fx} {k : Nat} {f : Addr} {fd : FuncData} {ps : List Str} {sp : Sp} {W : WX} {dw : DW} {PC : Addr → Prop} {m : Str} {c : Addr → DSpecX}
theorem runxA {A : Around} {pins : List (Addr × Obj)} {σ : L2.St} {H : Hp} {s : Shared} {Q : VK} {E : XK} {us : List Value} {vs : List V} (F : FnGX X.prog X.w X.K X.mg X.base k f fd ps sp) (hgd : A.guards = some []) (hr : Room k A) (e0 : Env0 X.prog X.w X.K X.mg X.base A X.stack s H) (hb : Binds X.K fd ps [])
    (hx : PassesAt (L2.CX X.prog X.w) X σ E) (I : Inv X pins σ H s) (r : Vals vs us) (h : sp vs H Q E) : wpAny (model X.prog X.w) A (call (.ref f) us) (EP X pins σ Q) X.xe s := by
  have hl : (us ++ []).length = ps.length := by rw [List.append_nil, ← r.length]; exact F.len _ _ _ _ h
  have hbi := hb s us I.kIn hl
  rw [List.append_nil] at hbi
  refine wpAny_call (codeAny_mono (F.run A X.stack s H ⟨us, []⟩ us vs Q E hgd hr e0 hbi r h) fun q s' hq => ?_)
  cases q with
  | error e => exact hx pins H s e s' I hq
  | ok fl =>
    cases fl with
    | ret u => exact I.after hq
    | next => exact hq.elim
    | brk => exact hq.elim
    | cont => exact hq.elim
/-- two values, left then right -/
theorem two_run {a b : Expr} {ta tb : DTE} (ha : WE Y X a ta) (hb : WE Y X b tb) {pins : List (Addr × Obj)} {s : Shared} {σ : L2.St} {H F : Hp} {Z : Fx} {ρ : Rho} {n : Wo} {P : Dv → Dv → Wo → Prop} (I : Inv X pins σ H s) (r : SR Y X.K Z F H σ ρ n)
    (h : ta ρ n fun x n1 => tb ρ n1 fun y n2 => P x y n2) {Q : Value → Shared → Prop} {f : Value → Value → Sem Value}
    (hf : ∀ v u s2 x y xv yv n2 F2 H2, Inv X pins σ H2 s2 → RelV xv v → RelV yv u → P x y n2 → Gr Z.δ F H F2 H2 → Same F2 H2 → Z.δ.at_ X.K F2 H2 n2 → VR X.K Z.δ F2 H2 x xv → VR X.K Z.δ F2 H2 y yv → wpAny (model X.prog X.w) X.A (f v u) Q X.xe s2) :
    wpAny (model X.prog X.w) X.A (eval a X.env) (fun v s₁ => wpAny (model X.prog X.w) X.A (eval b X.env) (fun u s₂ => wpAny (model X.prog X.w) X.A (f v u) Q X.xe s₂) X.xe s₁) X.xe s := by
  refine thn (ha.run pins s σ H (fun v H1 => ∃ x n1 F1, _ ∧ Gr Z.δ F H F1 H1 ∧ Same F1 H1 ∧ Z.δ.at_ X.K F1 H1 n1 ∧ VR X.K Z.δ F1 H1 x v) I ⟨Z, F, ρ, n, _, r, h, fun x n1 F1 H1 v hx g1 s1 d1 w1 => ⟨x, n1, F1, hx, g1, s1, d1, w1⟩⟩) fun u s1 ⟨v, H1, I1, rx, x, n1, F1, hx, g1, s1', d1, w1⟩ => ?_
  have r1 := r.step g1 s1' d1
  refine thn (hb.run pins s1 σ H1 (fun v H2 => ∃ y n2 F2, P x y n2 ∧ Gr Z.δ F1 H1 F2 H2 ∧ Same F2 H2 ∧ Z.δ.at_ X.K F2 H2 n2 ∧ VR X.K Z.δ F2 H2 y v) I1 ⟨Z, F1, ρ, n1, _, r1, hx, fun y n2 F2 H2 v hy g2 s2 d2 w2 => ⟨y, n2, F2, hy, g2, s2, d2, w2⟩⟩) fun u2 s2 ⟨v2, H2, I2, ry, y, n2, F2, hy, g2, s2', d2, w2⟩ => ?_
  exact hf u u2 s2 x y v v2 n2 F2 H2 I2 rx ry hy (g1.trans g2) s2' d2 (w1.step g2) w2
end
end DL
set_option maxHeartbeats 4000000
namespace DL
open PySem PySem.Spec PyProof.Rows L2
section
variable {X : Cx} {Y : Fx} {k : Nat} {f : Addr} {fd : FuncData} {ps : List Str} {sp : Sp} {W : WX} {dw : DW} {PC : Addr → Prop} {m : Str} {c : Addr → DSpecX}
theorem paired_app {α β : Type} {R : α → β → Prop} {as as' : List α} {bs bs' : List β} (h : PySem.Paired R as bs) (h' : PySem.Paired R as' bs') : PySem.Paired R (as ++ as') (bs ++ bs') := by
  induction h with
  | nil => exact h'
  | cons a b ih => exact .cons a ih
def HasMD (P : Program) (w : World) (K : PySem.W.Frag) (mg : Str → Option Value) (base : Heap) (PC : Addr → Prop) (m : Str) (k : Nat) (ps : List Str) (c : Addr → DSpecX) : Prop :=
  ∀ C, PC C → Cls K C ∧ ∃ g fd ds, Meth K C m g ∧ Vals [V.non] ds ∧ Binds K fd ps ds ∧ FnGX P w K mg base k g fd ps (spDX K ps.length (c C))
def HasMK (P : Program) (w : World) (K : PySem.W.Frag) (mg : Str → Option Value) (base : Heap) (PC : Addr → Prop) (m kw : Str) (k : Nat) (ps : List Str) (c : Addr → DSpecX) : Prop :=
  ∀ C, PC C → Cls K C ∧ ∃ g fd, Meth K C m g ∧ KBn K fd ps (ps.length - 1) [kw] (fun us ws => us ++ ws) (fun us ws => us ++ ws) ∧ FnGX P w K mg base k g fd ps (spDX K ps.length (c C))
theorem runxK {kw : Str} {A : Around} {pins : List (Addr × Obj)} {σ : L2.St} {H : Hp} {s : Shared} {Q : VK} {E : XK} {us ws : List Value} {vs zs : List V} (F : FnGX X.prog X.w X.K X.mg X.base k f fd ps sp) (hgd : A.guards = some []) (hr : Room k A) (e0 : Env0 X.prog X.w X.K X.mg X.base A X.stack s H)
    (hb : KBn X.K fd ps (ps.length - 1) [kw] (fun us ws => us ++ ws) (fun us ws => us ++ ws)) (hx : PassesAt (L2.CX X.prog X.w) X σ E) (I : Inv X pins σ H s) (r : Vals vs us) (rz : Vals zs ws) (hz : zs.length = 1) (h : sp (vs ++ zs) H Q E) : wpAny (model X.prog X.w) A (call (.ref f) us ([kw].zip ws)) (EP X pins σ Q) X.xe s := by
  have r2 : Vals (vs ++ zs) (us ++ ws) := hb.rel r rz
  have hl := F.len _ _ _ _ h
  rw [List.length_append, hz] at hl
  refine wpAny_call (codeAny_mono (F.run A X.stack s H ⟨us, [kw].zip ws⟩ (us ++ ws) (vs ++ zs) Q E hgd hr e0 (hb.to s us ws I.kIn (by rw [← r.length]; omega) (by rw [← rz.length]; exact hz)) r2 h) fun q s' hq => ?_)
  cases q with
  | error e => exact hx pins H s e s' I hq
  | ok fl =>
    cases fl with
    | ret u => exact I.after hq
    | next => exact hq.elim
    | brk => exact hq.elim
    | cont => exact hq.elim
def dMethK (PC : Addr → Prop) (m : Str) (l : Nat) (c : Addr → DSpecX) (dw : DW) (to : DTE) (t : DTA) (tv : DTE) : DTE := fun ρ n R => to ρ n fun x n1 => ∃ a o, x = .dat (refD a) ∧ n1.ob a = some o ∧ PC o.C ∧ o.fs.lookup m = none ∧
  t ρ n1 fun as n2 => tv ρ n2 fun y n3 => as.length + 2 = l ∧ c o.C (.dat (refD a) :: (as ++ [y])) n3 (fun d n4 => R (.dat d) n4) fun ex n4 => dw ex ρ n4
theorem we_methK {pl : Sem Bool} {kw : Str} {o e ev : Expr} {es : List Expr} {to tv : DTE} {t : DTA} {apos pos kpos : Pos} (tk : Takes X W) (ok : WOk Y X.K dw W) (HM : HasMK X.prog X.w X.K X.mg X.base PC m kw k ps c) (hgd : X.A.guards = some []) (hr : Room k X.A)
    (ho : WE Y X o to) (ha : WA Y X (e :: es) t) (hv : WE Y X ev tv)
    (hall : (backToKw pos (keywordEach [⟨some kw, ev, kpos⟩] X.env)).all (·.1.isSome) = true := by rfl) (hks : (backToKw pos (keywordEach [⟨some kw, ev, kpos⟩] X.env)).filterMap (·.1) = [kw] := by rfl)
    (he : starEach (e :: es) X.env = (false, eval e X.env) :: starEach es X.env := by rfl) (hpl : ((backTo pos (starEach (e :: es) X.env)).any (·.1) || (backToKw pos (keywordEach [⟨some kw, ev, kpos⟩] X.env)).any (·.1.isNone)) = false := by rfl)
    (ht : eval (.Call (.Attribute o m apos) (e :: es) [⟨some kw, ev, kpos⟩] pos) X.env = (do
      let ov ← eval o X.env
      standAt apos.atName
      let (f, first) ← holding [ov] (getMethod ov m pl)
      callWith pos f first (backTo pos (starEach (e :: es) X.env)) (backToKw pos (keywordEach [⟨some kw, ev, kpos⟩] X.env))) := by rfl) :
    WE Y X (.Call (.Attribute o m apos) (e :: es) [⟨some kw, ev, kpos⟩] pos) (dMethK PC m ps.length c dw to t tv) :=
  ⟨fun pins s σ H Q I ⟨Z, F, ρ, n, R, r, hto, kk⟩ => by
    refine PySem.W.methodCall_KW (pl := pl) (thn (ho.run pins s σ H (fun v H1 => ∃ x n1 F1, _ ∧ Gr Z.δ F H F1 H1 ∧ Same F1 H1 ∧ Z.δ.at_ X.K F1 H1 n1 ∧ VR X.K Z.δ F1 H1 x v) I ⟨Z, F, ρ, n, _, r, hto, fun x n1 F1 H1 v hx g1 s1 d1 w1 => ⟨x, n1, F1, hx, g1, s1, d1, w1⟩⟩) fun u s1 ⟨v, H1, I1, rx, x, n1, F1, ⟨a, ob, ex, hob, hPC, hl, hta⟩, g1, s1', d1, w1⟩ => ?_) ht
    subst ex
    obtain rfl := VR.ref w1
    obtain rfl : u = Value.ref a := rx
    obtain ⟨_, dx, vs, h2, h3⟩ := d1.2.1 a ob hob
    obtain ⟨hcl, g, fd, hM, hB, hF⟩ := HM _ hPC
    refine getmeth_ok I1 h2 hcl hM (h3.lookup_none hl) ?_
    have r1 := r.step g1 s1' d1
    refine PySem.W.callWith_KW (first := [.ref a]) (h₀ := X.base) I.ok.mod.kin hM.kp hall (thn (ha.run pos pins s1 σ H1 (fun vs H2 => ∃ as n2 F2, tv ρ n2 (fun y n3 => as.length + 2 = ps.length ∧ c ob.C (.dat (refD a) :: (as ++ [y])) n3 (fun d n4 => R (.dat d) n4) fun ex n4 => dw ex ρ n4) ∧ Gr Z.δ F1 H1 F2 H2 ∧ Same F2 H2 ∧ Z.δ.at_ X.K F2 H2 n2 ∧ VRs X.K Z.δ F2 H2 as vs) I1 ⟨Z, F1, ρ, n1, _, r1, hta, fun as n2 F2 H2 vs2 hx g2 s2 d2 w2 => ⟨as, n2, F2, hx, g2, s2, d2, w2⟩⟩) fun us s2 ⟨vs, H2, I2, rr, as, n2, F2, hx, g2, s2', d2, w2⟩ => ?_) hpl he
    have r2 := r1.step g2 s2' d2
    refine thn ((pk_cons hv pk_nil).run pos pins s2 σ H2 (fun zs H3 => zs.length = 1 ∧ spDX X.K ps.length (c ob.C) ((.ref a :: vs) ++ zs) H3 Q (L2.WE W σ)) I2 ⟨Z, F2, ρ, n2, _, r2, hx, fun y n3 F3 H3 v ⟨hlen, hx⟩ g3 s3 d3 w3 => ⟨rfl, ?_⟩⟩) fun ws s3 ⟨zs, H3, I3, rz, hz, q3⟩ => ⟨I3.kIn, ?_⟩
    · have r3 := r2.step g3 s3 d3
      have w4 : VRs X.K Z.δ F3 H3 (as ++ [y]) (vs ++ [v]) := paired_app (Paired.mapP w2 fun a b h => h.step g3) (.cons w3 .nil)
      have w6 : VRs X.K Z.δ F3 H3 (.dat (refD a) :: (as ++ [y])) ((.ref a :: vs) ++ [v]) := .cons vr_ref w4
      exact ⟨Z.δ, F3, .dat (refD a) :: (as ++ [y]), n3, (fun d n4 => R (.dat d) n4), (fun ex n4 => dw ex ρ n4), by rw [List.length_cons, List.length_append]; exact hlen, w6, s3, d3, r3.b.dkF, hx, fun d n4 F4 H4 v h4 g4 s4 d4 w5 => kk _ _ _ _ _ h4 (((g1.trans g2).trans g3).trans g4) s4 d4 w5, fun ex n4 F4 H4 cls d h4 g4 s4 d4 w5 => ok _ _ _ _ _ _ _ _ _ h4 (r3.step g4 s4 d4) w5⟩
    · rw [hks]
      exact runxK (us := .ref a :: us) (vs := .ref a :: vs) hF hgd hr I3.env0 hB (passAt tk σ) I3 (.cons rfl rr) rz hz q3⟩
theorem we_methK0 {pl : Sem Bool} {kw : Str} {o ev : Expr} {to tv : DTE} {apos pos kpos : Pos} (tk : Takes X W) (ok : WOk Y X.K dw W) (HM : HasMK X.prog X.w X.K X.mg X.base PC m kw k ps c) (hgd : X.A.guards = some []) (hr : Room k X.A)
    (ho : WE Y X o to) (hv : WE Y X ev tv)
    (hall : (backToKw pos (keywordEach [⟨some kw, ev, kpos⟩] X.env)).all (·.1.isSome) = true := by rfl) (hks : (backToKw pos (keywordEach [⟨some kw, ev, kpos⟩] X.env)).filterMap (·.1) = [kw] := by rfl)
    (hpl : ((backTo pos (starEach [] X.env)).any (·.1) || (backToKw pos (keywordEach [⟨some kw, ev, kpos⟩] X.env)).any (·.1.isNone)) = false := by rfl)
    (ht : eval (.Call (.Attribute o m apos) [] [⟨some kw, ev, kpos⟩] pos) X.env = (do
      let ov ← eval o X.env
      standAt apos.atName
      let (f, first) ← holding [ov] (getMethod ov m pl)
      callWith pos f first (backTo pos (starEach [] X.env)) (backToKw pos (keywordEach [⟨some kw, ev, kpos⟩] X.env))) := by rfl) :
    WE Y X (.Call (.Attribute o m apos) [] [⟨some kw, ev, kpos⟩] pos) (dMethK PC m ps.length c dw to dNil tv) :=
  ⟨fun pins s σ H Q I ⟨Z, F, ρ, n, R, r, hto, kk⟩ => by
    refine PySem.W.methodCall_KW (pl := pl) (thn (ho.run pins s σ H (fun v H1 => ∃ x n1 F1, _ ∧ Gr Z.δ F H F1 H1 ∧ Same F1 H1 ∧ Z.δ.at_ X.K F1 H1 n1 ∧ VR X.K Z.δ F1 H1 x v) I ⟨Z, F, ρ, n, _, r, hto, fun x n1 F1 H1 v hx g1 s1 d1 w1 => ⟨x, n1, F1, hx, g1, s1, d1, w1⟩⟩) fun u s1 ⟨v, H1, I1, rx, x, n1, F1, ⟨a, ob, ex, hob, hPC, hl, hta⟩, g1, s1', d1, w1⟩ => ?_) ht
    subst ex
    obtain rfl := VR.ref w1
    obtain rfl : u = Value.ref a := rx
    obtain ⟨_, dx, vs, h2, h3⟩ := d1.2.1 a ob hob
    obtain ⟨hcl, g, fd, hM, hB, hF⟩ := HM _ hPC
    refine getmeth_ok I1 h2 hcl hM (h3.lookup_none hl) ?_
    have r1 := r.step g1 s1' d1
    refine PySem.W.callWith_KW0 (first := [.ref a]) (h₀ := X.base) I.ok.mod.kin hM.kp hall ?_ hpl
    refine thn ((pk_cons hv pk_nil).run pos pins s1 σ H1 (fun zs H3 => zs.length = 1 ∧ spDX X.K ps.length (c ob.C) ([.ref a] ++ zs) H3 Q (L2.WE W σ)) I1 ⟨Z, F1, ρ, n1, _, r1, hta, fun y n3 F3 H3 v ⟨hlen, hx⟩ g3 s3 d3 w3 => ⟨rfl, ?_⟩⟩) fun ws s3 ⟨zs, H3, I3, rz, hz, q3⟩ => ⟨I3.kIn, ?_⟩
    · have r3 := r1.step g3 s3 d3
      exact ⟨Z.δ, F3, [.dat (refD a), y], n3, _, _, hlen, .cons vr_ref (.cons w3 .nil), s3, d3, r3.b.dkF, hx, fun d n4 F4 H4 v h4 g4 s4 d4 w5 => kk _ _ _ _ _ h4 ((g1.trans g3).trans g4) s4 d4 w5, fun ex n4 F4 H4 cls d h4 g4 s4 d4 w5 => ok _ _ _ _ _ _ _ _ _ h4 (r3.step g4 s4 d4) w5⟩
    · rw [hks]
      exact runxK (us := [.ref a]) (vs := [.ref a]) hF hgd hr I3.env0 hB (passAt tk σ) I3 (.cons rfl .nil) rz hz q3⟩
def oKD (K : PySem.W.Frag) (d : Addr) : D2 := fun x y R => ∃ (z : Str) (g : Addr), x = .dat (refD d) ∧ y = .dat (.str z) ∧ PySem.W.nsIn K d z = some (some (.ref g)) ∧ R (refD g)
theorem we_kd {d : Addr} {es : Array DictEntry} {n : Nat} {a b : Expr} {ta tb : DTE} {pos : Pos} (D : KDict X.K X.w d es n) (ha : WE Y X a ta) (hb : WE Y X b tb) (hs : PlainIx b := by intro _ _; rfl) : WE Y X (.Subscript a b pos) (dBin (oKD X.K d) ta tb) :=
  ⟨fun pins s σ H Q I ⟨Z, F, ρ, n, R, r, h, kk⟩ => Subscript_ (two_run ha hb I r h fun v u s2 x y xv yv n2 F2 H2 I2 rx ry ⟨z, g, ex, ey, hg, hR⟩ g2 s2' d2 w2 w3 => by
    subst ex ey
    obtain rfl := VR.ref w2
    simp only [VR, Rp] at w3
    subst w3
    obtain rfl : v = Value.ref d := rx
    refine wpAny_mono (tail_any (kd_type D I2) (PySem.F.slot_dict_getitem).lookup (op_item_kd D pins s2 σ H2 (.ref d) (.str z) (.ref d) u (fun v H' => v = .ref g ∧ H' = H2) I2 rfl ry ⟨z, .ref g, .ref g, rfl, rfl, hg, rfl, rfl, rfl⟩) (hs _ _)) (fun w s' ⟨zz, H', I', rz, e1, e2⟩ => ?_) fun _ _ q => q
    subst e1 e2
    exact ⟨.ref g, H', I', rz, kk _ _ _ _ _ hR g2 s2' d2 vr_ref⟩)⟩
def dCallR (i : Nat) (S : Addr → DSpecX → Prop) (l : Nat) (dw : DW) (t : DTA) : DTE := fun ρ n R => ∃ g c, ρ[i]? = some (some (.dat (refD g))) ∧ S g c ∧ t ρ n fun as n1 => as.length = l ∧ c as n1 (fun d n2 => R (.dat d) n2) fun ex n2 => dw ex ρ n2
theorem we_callR {m : Nat} {S : Addr → DSpecX → Prop} {i : Nat} {x : Str} {p pos : Pos} {e : Expr} {es : List Expr} {t : DTA} (tk : Takes X W) (ok : WOk Y X.K dw W) (hS : ∀ g c, S g c → PySem.W.keepIn X.K (.ref g) = true ∧ ∃ fd ps, Binds X.K fd ps [] ∧ FnGX X.prog X.w X.K X.mg X.base k g fd ps (spDX X.K m c)) (hgd : X.A.guards = some []) (hr : Room k X.A)
    (hN : X.N[i]? = some x) (hv : Vis X.env.scope x) (ha : WA Y X (e :: es) t) (hdb : (x == ("__debug__" : Str)) = false := by decide) (hcd : (x == ("__classdict__" : Str)) = false := by decide)
    (he : starEach (e :: es) X.env = (false, eval e X.env) :: starEach es X.env := by rfl) (hpl : (backTo pos (starEach es X.env)).any (·.1) = false := by rfl) : WE Y X (.Call (.Name x p) (e :: es) [] pos) (dCallR i S m dw t) :=
  ⟨fun pins s σ H Q I ⟨Z, F, ρ, n, R, r, ⟨g, c, hi, hSc, ht⟩, kk⟩ => by
    obtain ⟨v, e1, e2⟩ := r.slot i _ hi
    obtain rfl := VR.ref (K := X.K) (δ := Z.δ) (F := F) (H := H) e2
    obtain ⟨hk, fd, ps, hb, hF⟩ := hS g c hSc
    refine wpAny_Call_Name_kw (thn ((pe_var (pos := p) hN hv hdb hcd).run pins s σ H (fun v H1 => v = .ref g ∧ H1 = H) I ⟨.ref g, e1, rfl, rfl⟩) fun u s1 ⟨v, H1, I1, r1, q1⟩ => ?_)
    obtain ⟨rfl, rfl⟩ := q1
    cases r1
    refine PySem.W.callWith_K (h₀ := X.base) I.ok.mod.kin hk (thn (ha.run pos pins s1 σ _ _ I1 (callX_im ok σ _ Q ⟨Z, F, ρ, n, R, r, ht, kk⟩)) fun us s2 ⟨vs, H2, I2, rr, q⟩ => ⟨I2.kIn, runxA hF hgd hr I2.env0 hb (passAt tk σ) I2 rr q⟩) he hpl⟩
end
end DL
set_option maxHeartbeats 4000000
namespace DL
open PySem PySem.Spec PyProof.Rows L2
section
variable {X : Cx} {Y : Fx}
/-- a global name that stands for an object -/
theorem we_gref {x : Str} {a : Addr} {pos : Pos} (hg : Gl X x) (hm : X.mg x = some (.ref a)) (hd : (x == ("__debug__" : Str)) = false := by decide) : WE Y X (.Name x pos) (dC (refD a)) :=
  pe_imp (pe_glob (v := .ref a) hg hm rfl hd) fun σ H Q ⟨Z, F, ρ, n, R, r, h, k⟩ => k _ _ F H _ h Gr.refl r.b.sub r.b.dk vr_ref
end
theorem hs_of {P : Program} {w : World} {K : PySem.W.Frag} {mg : Str → Option Value} {base : Heap} {x : Str} {j k : Nat} {ps : List Str} {c : DSpecX} {g : Addr} (h : mg x = some (.ref g)) (H : HasX P w K mg base x j ps c) (hj : j ≤ k) : PySem.W.keepIn K (.ref g) = true ∧ ∃ fd ps', Binds K fd ps' [] ∧ FnGX P w K mg base k g fd ps' (spDX K ps.length c) := by
  obtain ⟨f, fd, h1, h2, h3, h4⟩ := H
  rw [h] at h1
  cases h1
  exact ⟨h2, fd, ps, h3, h4.mono hj⟩
theorem bindsD_mk {P : Program} {K : PySem.W.Frag} {x qual : Str} {params : Arguments} {body : List Stmt} {scope : Scope} {f : Addr} {fd : FuncData} {ps : List Str} {kw : Str} (F : FunD K x qual params body scope [] [(kw, V.non)] f fd) (n : Nat) (hn : n + 1 = ps.length)
    (h : ∀ (D : Addr) (doc pm : Value) (an : Option Addr) (cdv ct : Value) (us ks : List Value), us.length = n → ks.length = 1 →
      KwChain D (([kw]).zip ks) (bindArgs (PySem.W.fnOf x qual params body scope .none (.ref D) doc pm an cdv ct) ⟨us, []⟩) (ps.zip (us ++ ks))) : ∃ ds, Vals [V.non] ds ∧ Binds K fd ps ds :=
  FunD.binds0 F n (by simp) hn h
theorem kbn_mk {K : PySem.W.Frag} {x qual : Str} {params : Arguments} {body : List Stmt} {scope : Scope} {f : Addr} {fd : FuncData} {ps : List Str} {kw : Str} (F : FunD K x qual params body scope [] [(kw, V.non)] f fd) (n : Nat)
    (h : ∀ (D : Addr) (doc pm : Value) (an : Option Addr) (cdv ct : Value) (us ws : List Value), us.length = n → ws.length = 1 →
      bindArgs (PySem.W.fnOf x qual params body scope .none (.ref D) doc pm an cdv ct) ⟨us, [kw].zip ws⟩ = pure (ps.zip (us ++ ws))) : KBn K fd ps n [kw] (fun us ws => us ++ ws) (fun us ws => us ++ ws) := by
  obtain ⟨oc, od, dV, kV, doc, pm, an, cdv, ct, osl, rfl, lk, hcd, hD, hK⟩ := F.ex
  rcases hD with ⟨_, rfl⟩ | ⟨e, _⟩
  · rcases hK with e | ⟨D, rfl, hq⟩
    · cases e
    · exact ⟨fun s us ws X l1 l2 => BindsTo.of_looks fun M => PySem.W.Looks.of_pure (h D doc pm an cdv ct us ws l1 l2), fun r1 r2 => r1.append r2⟩
  · exact absurd rfl e
theorem funD_mk {K : PySem.W.Frag} {x qual kw : Str} {st : Stmt} {f D : Addr} {oc doc pm cd ct : Value} {od an : Option Addr} {sl : Array (Option Value)} (l : K.lookup f = some ⟨oc, od, .func (PySem.W.fnOf x qual (defArgs st) (defBody st) (defScope st) .none (.ref D) doc pm an cd ct), sl⟩)
    (c : PySem.W.codeIn K cd qual = true) (k : PySem.W.keepIn K (.ref f) = true) (hd : PySem.W.nsIn K D kw = some (some .none)) : FunD K x qual (defArgs st) (defBody st) (defScope st) [] [(kw, V.non)] f (PySem.W.fnOf x qual (defArgs st) (defBody st) (defScope st) .none (.ref D) doc pm an cd ct) :=
  ⟨⟨oc, od, _, _, doc, pm, an, cd, ct, sl, rfl, l, c, .inl ⟨rfl, rfl⟩, .inr ⟨D, rfl, fun q hq => by
    obtain rfl := List.mem_singleton.mp hq
    exact ⟨.none, hd, rfl⟩⟩⟩, k⟩
end DL
set_option maxHeartbeats 4000000
namespace LkE
open PySem PySem.W PySem.Calls PyProof.Rows PySem.HandSPX
open Builtin Builtin.ObjectAttr
abbrev leT : List Value := [.type "LookupError", .type "Exception", .type "BaseException", .type "object"]
abbrev bare (C : Addr) (od : Option Addr) (fv : Array Value) : Obj := { cls := .ref C, dict := od, data := .fields fv }
section
variable {prog : Program} {w : World} {A : Around} {E : Value → Shared → Prop} {R : Result → Shared → Prop} {hp : Heap} {g : Array GenState} {d : Drawn} {t : Nat} {os : OsState}
theorem mro_pass (me : Value) (C : Addr) : refuseLoop me "__setattr__" (.ref C :: leT) = pure () := (refuseLoop_ref ..).trans (F.store_LookupError.passes me)
/-- what behind object.__setattr__ stands for such an error: its own dict is made -/
theorem own_store {name : Str} {tk : Tok} {v : Value} {x C : Addr} {fv : Array Value} {K : Frag} {cd : ClassData} (X : K.In hp) (hx : hp.get? x = some (bare C none fv)) (hc : clsIn K C = some cd) (hd : cd.hasDict = true) {Q : Fin → Shared → Prop}
    (hq : ∀ h' tk' dx, (∀ b o, b ≠ x → hp.get? b = some o → h'.get? b = some o) → hp.objs.size ≤ dx → dx ≠ x → h'.get? x = some (bare C (some dx) fv) → h'.Ns1 dx (fun y => if y = name then some v else none) → Q (.done (.ret .none)) ⟨h', g, d, tk', os⟩) :
    wpAny (model prog w) A (storeInOwnDict (.ref x) (.ref C) (.str name tk) name v false) Q E ⟨hp, g, d, t, os⟩ := by
  have see : Looks (model prog w) hp (classData C) cd := looks_clsIn X hc
  have far : hp.objs.size ≠ x := Ne.symm (Nat.ne_of_lt (Heap.lt_size hx))
  cases cd with | mk a1 a2 a3 a4 a5 has a7 a8 a9 a10 a11 =>
  have hd : has = true := hd
  cases hd
  unfold storeInOwnDict ownDictForStores
  repeat (first | with_reducible refine store_in_new ?_ ?_ | with_reducible refine wpAny_loadPart_at hx ?_ | with_reducible refine see.at ?_ | wp_step)
  · refine ⟨_, #[], _, (Heap.get?_update_ne _ _ _ _ far).trans (Heap.get?_push_at rfl rfl), rfl, ?_, fun _ => rfl⟩
    intro e he
    simp at he
  · intro h' tk' fresh same
    have there : (hp.push { cls := .type "dict", data := .dict #[] }).get? x = some (bare C none fv) := Heap.get?_push_of_some _ hx
    refine hq h' tk' _ (fun b o nb old => ?_) (Nat.le_refl _) far ((same.2 x far.symm).trans (Heap.get?_update_self _ there rfl)) fresh
    have nb2 : b ≠ hp.objs.size := Nat.ne_of_lt (Heap.lt_size old)
    rw [same.2 b nb2, Heap.get?_update_ne _ _ _ _ nb]
    exact Heap.get?_push_of_some _ old
theorem osaL {K : Frag} {name : Str} {tk : Tok} {v : Value} {x C : Addr} {fv : Array Value} {cd : ClassData} (X : K.In hp) (hx : hp.get? x = some (bare C none fv)) (hc : clsIn K C = some cd) (hm : cd.mro = .ref C :: leT) (hd : cd.hasDict = true) (hf : findIn K (.ref C) name = some none)
    (hq : ∀ h' tk' dx, (∀ b o, b ≠ x → hp.get? b = some o → h'.get? b = some o) → hp.objs.size ≤ dx → dx ≠ x → h'.get? x = some (bare C (some dx) fv) → h'.Ns1 dx (fun y => if y = name then some v else none) → R (.ok (.ret .none)) ⟨h', g, d, tk', os⟩) :
    codeAny (model prog w) A (.call (.builtin "object.__setattr__") ⟨[.ref x, .str name tk, v], []⟩) R ⟨hp, g, d, t, os⟩ := by
  have me : InstAt hp x (bare C none fv) C none := ⟨hx, rfl, rfl, trivial⟩
  have row : Looks (model prog w) hp (mroOf (.ref C)) cd.mro := (looks_clsIn X hc).andThen .now
  have isO : Looks (model prog w) hp (isInstance (.ref x) (.type "object")) true := me.type.andThen (looks_mroIn X (by
    unfold mroIn
    rw [hc, Option.bind_some, hm, if_neg (by simp [leT])]
    rfl))
  have S := F.store_object
  refine codeAny_call_builtin S.slot.plain S.entry (@check_slot (model prog w) _ _ ⟨hp, g, d, t, os⟩ "object.__setattr__" "object" "__setattr__" (.ref x) [.str name tk, v] [] _ S.kind S.split isO (S.args _ _ _) ?_)
  rw [osa_eq, refuse_eq]
  refine wpAny_bind (wpAny_bind (me.type.at (wpAny_bind (row.at ?_))))
  rw [hm, mro_pass]
  have noTaker : Looks (model prog w) hp (storeTaker? none) none := .now
  exact wpAny_pure (wpAny_bind (me.type.at (wpAny_bind ((looks_findIn X hf).at (wpAny_bind (noTaker.at (own_store X hx hc hd hq)))))))
end
end LkE
namespace DL
open PySem PySem.Spec PyProof.Rows L2 LkE
/-- what the written part says of such a class -/
structure OexL (K : PySem.W.Frag) (C : Addr) : Prop where
  row : ∃ nm q N bs sn sub ab col dd k0 k1 k2 k3 k5, K.lookup C = some (excClassObj nm q C N bs leT true sn sub ab col dd k0 k1 k2 k3 k5 "LookupError.__new__")
  sa : PySem.W.findIn K (.ref C) "__setattr__" = some (some (.builtin "object.__setattr__"))
  sb : PySem.W.subIn K (.ref C) (.type "BaseException") = some true
  ty : PySem.W.typeIn K (.ref C) = some (.type "type")
  kp : PySem.W.keepIn K (.ref C) = true
section
variable {X : Cx} {Y : Fx} {dw : DW} {W : WX} {pins : List (Addr × Obj)} {σ : L2.St} {H : Hp} {s : Shared} {a C : Addr} {f : Str} {y : V} {u : Value}
/-- its only field is stored -/
theorem ostL {A : Around} {E : Value → Shared → Prop} {Q : Unit → Shared → Prop} (T : OexL X.K C) (I : Inv X pins σ H s) (e : H a = some (exo a C none)) (hf : PySem.W.findIn X.K (.ref C) f = some none) (ry : RelV y u)
    (h : ∀ dx s', H dx = none → dx ≠ a → Inv X pins σ (upd (upd H dx (exd dx [(f, y)])) a (exo a C (some dx))) s' → Q () s') : wpAny (model X.prog X.w) A (setAttr (.ref a) f u) Q E s := by
  obtain ⟨nm, q, N, bs, sn, sub, ab, col, dd, k0, k1, k2, k3, k5, hC⟩ := T.row
  obtain ⟨t1, ho⟩ := exo_at I.hok e
  have hcl : PySem.W.clsIn X.K C = some ⟨nm, bs, .ref C :: leT, N, q, true, sn, sub, ab, col, false⟩ := by unfold PySem.W.clsIn; rw [hC] <;> rfl
  cases s with | mk hp g d t os =>
  refine PySem.W.set_plain (od := none) I.kIn ⟨ho, rfl, rfl, trivial⟩ T.sa (osaL I.kIn ho hcl rfl rfl hf fun h' tk' dx same big off at_ new => ?_)
  have nx : H dx = none := I.hok.fresh big
  have isnt : ∀ {b : Addr}, H b = none → b ≠ a := fun {b} z e2 => by subst e2; rw [e] at z; cases z
  have low : ∀ {b : Addr} {o : Obj}, hp.get? b = some o → b ≠ dx := fun z => Nat.ne_of_lt (Nat.lt_of_lt_of_le (Heap.lt_size z) big)
  have two : ∀ {b : Addr}, b ≠ a → b ≠ dx → (upd (upd H dx (exd dx [(f, y)])) a (exo a C (some dx))) b = H b := fun p1 p2 => by rw [upd_ne p1, upd_ne p2]
  have U : Un X.fs [] H (upd (upd H dx (exd dx [(f, y)])) a (exo a C (some dx))) hp h' :=
    ⟨fun b o z n _ _ => same b o (isnt n) z, fun b o z n _ _ => ⟨o.slots, same b o (isnt n) z⟩, fun b o z n _ => (two (isnt n) (low z)).trans n,
      fun b o z _ => (Decidable.em (b = a)).elim (fun p => ⟨_, p ▸ at_⟩) fun p => ⟨o, same b o p z⟩,
      fun b xs z => (two (at_ne e z exo_tup) (ne_of_none z nx)).trans z, fun b o v z => (two (at_ne e z exo_frz) (ne_of_none z nx)).trans z,
      fun b ps z => ⟨#[], by rw [two (at_ne e z exo_tbl) (ne_of_none z nx), z]; simp⟩⟩
  refine h dx _ nx off (I.un (t' := tk') U fun b o z => ?_)
  by_cases p1 : b = a
  · subst p1
    have z : some _ = some o := upd_same.symm.trans z
    cases z
    exact exo_ok at_
  by_cases p2 : b = dx
  · subst p2
    rw [upd_ne p1] at z
    have z : some _ = some o := upd_same.symm.trans z
    cases z
    exact exd_ok new (relO_put (fs := []) ry fun g => True.intro)
  rw [two p1 p2] at z
  refine (I.hok b o z).stay (fun c v hc zz => same c v ?_ zz) (fun c hc => (two (at_ne e hc exo_own) (ne_of_none hc nx)).trans hc) fun c xs hc => (two (at_ne e hc exo_tup) (ne_of_none hc nx)).trans hc
  rcases hc with hc | hc
  · rw [hc]; exact p1
  · exact at_ne e hc exo_own
def tOsL (K : PySem.W.Frag) (f : Str) (to te : TE) : TS := fun D σ H => te σ H fun y H1 => to σ H1 fun x H2 => ∃ a C : Addr, x = .ref a ∧ OexL K C ∧ PySem.W.findIn K (.ref C) f = some none ∧
  H2 a = some (exo a C none) ∧ ∀ dx, H2 dx = none → dx ≠ a → D.nx σ (upd (upd H2 dx (exd dx [(f, y)])) a (exo a C (some dx)))
theorem ps_osL {o e : Expr} {to te : TE} {p' pos : Pos} (ho : PE X o to) (he : PE X e te) (hs : swapsWith e (some (.Attribute o f p')) pos.line X.env = pure false := by rfl) : PS X (.Assign [.Attribute o f p'] e pos) (tOsL X.K f to te) :=
  ⟨fun pins s σ H D I h => plainObj_wpAny_Assign_Attribute (thn (he.run pins s σ H _ I h) fun v s1 ⟨y, H1, I1, r1, q1⟩ => thn (ho.run pins s1 σ H1 _ I1 q1) fun u s2 ⟨x, H2, I2, r2, a, C, ex, T, hno, ea, q⟩ => by
    subst ex
    obtain rfl : u = Value.ref a := r2
    exact ostL T I2 ea hno r1 fun dx s' n ne J => ⟨σ, _, J, q dx n ne⟩) hs⟩
/-- C(e) -/
theorem pmkL {x : Str} {C fI : Addr} {k : Nat} {fd : FuncData} {ps : List Str} {sp : Sp} {e : Expr} {es : List Expr} {ta : TA} {p pos : Pos} (T : OexL X.K C) (iC : PySem.W.findIn X.K (.ref C) "__init__" = some (some (.ref fI))) (tI : PySem.W.typeIn X.K (.ref fI) = some (.type "function"))
    (F1 : FnOk X.prog X.w X.K X.mg X.base CX0 k fI fd ps sp) (hr : Room (k + 1) X.A) (hb : Binds X.K fd ps []) (hx : Passes CX0 X (fun _ _ _ => False)) (hg : Gl X x) (hm : X.mg x = some (.ref C)) (ha : PA X (e :: es) ta)
    (hdb : (x == ("__debug__" : Str)) = false := by decide) (he : starEach (e :: es) X.env = (false, eval e X.env) :: starEach es X.env := by rfl) (hpl : (backTo pos (starEach es X.env)).any (·.1) = false := by rfl) :
    PMk X (.Call (.Name x p) (e :: es) [] pos) (tMkO C sp [] ta) := fun pins s σ H Q I h => by
  obtain ⟨nm, q, N, bs, sn, sub, ab, col, dd, k0, k1, k2, k3, k5, hC⟩ := T.row
  refine wpAny_Call_Name_kw (ld_glob I hg hm (PySem.W.callWith_K (h₀ := X.base) I.ok.mod.kin T.kp (thn (ha.run pos pins s σ H _ I h) fun us s1 ⟨vs, H1, I1, r1, hz, q1⟩ => ⟨I1.kIn, ?_⟩) he hpl) hdb)
  cases s1 with | mk hp g dr tk os =>
  have q2 := q1 (hp.objs.size + 1) (I1.hok.fresh (Nat.le_succ _))
  rw [List.append_nil] at q2
  let G := (hp.push (PySem.W.kdv_tup us)).push (PySem.HandSPX.excO C hp.objs.size)
  have old : ∀ b o, hp.get? b = some o → G.get? b = some o := fun b o z => Heap.get?_push_of_some _ (Heap.get?_push_of_some _ z)
  have new : G.get? (hp.objs.size + 1) = some (PySem.HandSPX.excO C hp.objs.size) := by heap_get
  have I2 : Inv X pins σ (upd H1 (hp.objs.size + 1) (exo (hp.objs.size + 1) C none)) ⟨G, g, dr, tk, os⟩ := I1.laid (t' := tk) old (Nat.le_succ _) (exo_ok new)
  have r2 : Vals (V.ref (hp.objs.size + 1) :: vs) (Value.ref (hp.objs.size + 1) :: us) := .cons rfl r1
  have hl : (Value.ref (hp.objs.size + 1) :: us ++ []).length = ps.length := by
    rw [List.append_nil, ← r2.length]
    exact F1.len _ _ _ _ q2
  have hB := hb ⟨G, g, dr, tk, os⟩ (Value.ref (hp.objs.size + 1) :: us) I2.kIn hl
  rw [List.append_nil] at hB
  have hus : us.length ≤ sizeLine := by
    rw [← Paired.length r1, sizeLine_eq]
    omega
  refine wpAny_call (PySem.HandSPX.call_own F.excBase_LookupError (fun _ => rfl) (I1.kIn _ _ hC) (PySem.W.looks_findIn I1.kIn iC) (fun me => PySem.W.bind_fn I1.kIn me tI) hus (codeAny_mono
    (F1.run _ X.stack _ _ ⟨Value.ref (hp.objs.size + 1) :: us, []⟩ _ _ _ (fun _ _ _ => False) (hr.make C us []) (I2.env0.make C us []) hB r2 q2) fun r s' hq => ?_))
  cases r with
  | error er => exact hx pins σ _ _ er s' I2 hq
  | ok fl =>
    cases fl with
    | ret u =>
      obtain ⟨v, H2, os2, bare2, un2, hok2, rv, ev, d, fs, ea, ed, hd1, q3⟩ := hq
      subst ev
      cases s' with | mk h2 g2 d2 t2 os' =>
      exact ⟨rv, mk_end (raises_own T.sb T.ty) I1 (Nat.le_succ _) old un2 hok2 os2 bare2 ea ed hd1 q3⟩
    | next => exact hq.elim
    | brk => exact hq.elim
    | cont => exact hq.elim
structure ErrL (P : Program) (w : World) (K : PySem.W.Frag) (mg : Str → Option Value) (base : Heap) (x : Str) (C : Addr) (f : Str) : Prop where
  g : mg x = some (.ref C)
  T : OexL K C
  i : ∃ fI fd ps, PySem.W.findIn K (.ref C) "__init__" = some (some (.ref fI)) ∧ PySem.W.typeIn K (.ref fI) = some (.type "function") ∧ FnOk P w K mg base CX0 1 fI fd ps (spEI C f) ∧ Binds K fd ps []
theorem ds_raiseL {C : Addr} {x f : Str} {e : Expr} {t : DTE} {p pos pos2 : Pos} (hc : X.calm = true) (tk : Takes X W) (ok : WOk Y X.K dw W) (T : ErrL X.prog X.w X.K X.mg X.base x C f) (hr : Room 2 X.A) (hg : Gl X x) (ha : WE Y X e t)
    (hdb : (x == ("__debug__" : Str)) = false := by decide) (he : starEach [e] X.env = (false, eval e X.env) :: starEach [] X.env := by rfl) (hpl : (backTo pos (starEach [] X.env)).any (·.1) = false := by rfl) :
    DS Y X (.Raise (some (.Call (.Name x p) [e] [] pos)) none pos2) (dRaise C f dw t) := by
  obtain ⟨fI, fd, ps, i1, i2, i3, i4⟩ := T.i
  refine ps_imp (ps_raise hc tk (pmkL (k := 1) T.T i1 i2 i3 hr i4 pass0 hg T.g (pa_cons ha pa_nil he) hdb he hpl)) fun D σ H ⟨Z, F, ρ, n, E, r, ht, k⟩ => ?_
  refine ⟨Z, F, ρ, n, _, r, ht, fun y n1 F1 H1 v hy g1 s1 d1 w1 => ?_⟩
  obtain ⟨d, rfl, hy⟩ := needD_is hy
  refine ⟨(by decide : 1 ≤ 1000), fun a ha => ⟨a, v, rfl, upd_same, fun dx h1 h2 => ?_⟩⟩
  have hd1 : H1 dx = none := by rw [upd_ne h2] at h1; exact h1
  refine ⟨rfl, dx, [(f, v)], upd_same, by rw [upd_ne h2]; exact upd_same, hd1, ?_⟩
  rw [heap_back ha h2]
  have r1 := r.step g1 s1 d1
  obtain ⟨g2, s2⟩ := Gp.new (o := .xd [(f, v)]) hd1 s1
  exact ok _ _ _ _ _ _ _ _ _ hy (r1.step g2.gr s2 (g2.dk r1.b)) ⟨rfl, .inr ⟨dx, _, rfl, upd_same, .cons ⟨rfl, Rp.mono g2.sF d v w1⟩ .nil⟩⟩
end
end DL
set_option maxHeartbeats 4000000
set_option maxHeartbeats 4000000
set_option maxHeartbeats 4000000
namespace DL
open PySem PySem.Spec PyProof.Rows L2
theorem flying_keeps {base : Heap} {l : List Env} {e : Addr} {Z : Obj → Prop} {h h' : Heap} (f : HandSPX.FlyingZ base l e Z h) (k : ∀ q o, h.get? q = some o → h'.get? q = some o) : HandSPX.FlyingZ base l e Z h' := by
  obtain ⟨a1, a2, a3, oe, vs, T, oT, ts, b1, b2, b3, b4, b5, b6, b7, b8, b9⟩ := f
  exact ⟨fun b o q => k _ _ (a1 b o q), a2, a3.of_keeps fun b o e _ => ⟨o, k _ _ e, rfl⟩, oe, vs, T, oT, ts, k _ _ b1, b2, b3, b4, b5, b6, k _ _ b7, b8, b9⟩
inductive Tst (X : Cx) : Expr → (Value → Option Bool) → Prop
  | one {x : Str} {c : Value} {np : Pos} (h : Names X x c) : Tst X (.Name x np) (fun cls => PySem.W.exmOne X.K cls c)
  | two {x1 x2 : Str} {c1 c2 : Value} {p1 p2 tp : Pos} {kk} (h1 : Names X x1 c1) (h2 : Names X x2 c2) : Tst X (.Tuple [.Name x1 p1, .Name x2 p2] kk tp) (fun cls => PySem.W.exmAny X.K cls [c1, c2])
  | three {x1 x2 x3 : Str} {c1 c2 c3 : Value} {p1 p2 p3 tp : Pos} {kk} (h1 : Names X x1 c1) (h2 : Names X x2 c2) (h3 : Names X x3 c3) : Tst X (.Tuple [.Name x1 p1, .Name x2 p2, .Name x3 p3] kk tp) (fun cls => PySem.W.exmAny X.K cls [c1, c2, c3])
section
variable {X : Cx}
theorem ld_names {X : Cx} {E : Value → Shared → Prop} {pins : List (Addr × Obj)} {s : Shared} {σ : L2.St} {H : Hp} {x : Str} {c : Value} {pos : Pos} {Q : Value → Shared → Prop} (I : Inv X pins σ H s) (hc : Names X x c) (h : Q c s) : wpAny (model X.prog X.w) X.A (eval (.Name x pos) X.env) Q E s := by
  obtain ⟨hg, hdbg, hm | ⟨hm, hv, hnn⟩⟩ := hc
  · exact ld_glob I hg hm h hdbg
  · exact ld_blt I hg hm hv h hnn hdbg
theorem Tst.run {t : Expr} {f : Value → Option Bool} (T : Tst X t f) {a : Addr} {pn : List (Addr × Obj)} {pins : List (Addr × Obj)} {σ : L2.St} {H : Hp} {s : Shared} {cls : Value} {b : Bool} {Q : Bool → Shared → Prop} {E : Value → Shared → Prop} (I : Inv (X.suite a pn) pins σ H s)
    (LT : PySem.W.Looks (model X.prog X.w) s.heap (typeOf (.ref a)) cls) (hb : f cls = some b) (q : ∀ h', (∀ q o, s.heap.get? q = some o → h'.get? q = some o) → Q b { s with heap := h' }) :
    wpAny (model X.prog X.w) (X.A.mark (some (.ref a))) (eval t X.env) (fun c s₁ => wpAny (model X.prog X.w) (X.A.mark (some (.ref a))) (excMatches (.ref a) c) Q E s₁) E s := by
  have ld : ∀ {E : Value → Shared → Prop} {x : Str} {c : Value} {p : Pos} {Q : Value → Shared → Prop}, Names X x c → Q c s → wpAny (model X.prog X.w) (X.A.mark (some (.ref a))) (eval (.Name x p) X.env) Q E s := fun h q => ld_names (X := X.suite a pn) I h q
  cases T with
  | one h => exact ld h ((PySem.W.exm_one I.kIn LT hb).here (q _ fun _ _ z => z))
  | @two x1 x2 c1 c2 p1 p2 tp kk h1 h2 =>
    refine wpAny_Tuple ?_
    refine wpAny_items_cons (ld h1 ?_)
    refine wpAny_items_cons (ld h2 ?_)
    refine wpAny_items_nil ⟨by size_fits, ?_⟩
    have kp : ∀ q o, s.heap.get? q = some o → (s.heap.push { cls := .type "tuple", data := .seq [c1, c2].toArray }).get? q = some o := fun _ _ z => Heap.get?_push_of_some _ z
    exact (PySem.W.exm_tup2 (I.kIn.keeps kp) (LT.keeps kp) (Heap.get?_push_size s.heap rfl) hb).here (q _ kp)
  | @three x1 x2 x3 c1 c2 c3 p1 p2 p3 tp kk h1 h2 h3 =>
    refine wpAny_Tuple ?_
    refine wpAny_items_cons (ld h1 ?_)
    refine wpAny_items_cons (ld h2 ?_)
    refine wpAny_items_cons (ld h3 ?_)
    refine wpAny_items_nil ⟨by size_fits, ?_⟩
    have kp : ∀ q o, s.heap.get? q = some o → (s.heap.push { cls := .type "tuple", data := .seq [c1, c2, c3].toArray }).get? q = some o := fun _ _ z => Heap.get?_push_of_some _ z
    exact (PySem.W.exm_tup3 (I.kIn.keeps kp) (LT.keeps kp) (Heap.get?_push_size s.heap rfl) hb).here (q _ kp)
def endsT (i : Nat) (D : Ends) : Ends := { nx := fun σ' H' => D.nx (σ'.set i none) H', rt := D.rt, bk := fun σ' H' => D.bk (σ'.set i none) H', ct := fun σ' H' => D.ct (σ'.set i none) H' }
structure Cz where
  f : Value → Option Bool
  i : Option Nat
  ts : Addr → Value → Option Addr → TS
def wG (Wout : WX) (D : Ends) : List Cz → WX
  | [] => Wout
  | ⟨f, none, ts⟩ :: r => fun cls d σ H => ∃ b, f cls = some b ∧ (b = true → ∀ a, H a = none → ts a cls d D σ H) ∧ (b = false → wG Wout D r cls d σ H)
  | ⟨f, some i, ts⟩ :: r => fun cls d σ H => ∃ b, f cls = some b ∧ (b = true → ∀ a, H a = none → ts a cls d (endsT i D) (σ.set i (some (.ref a))) H) ∧ (b = false → wG Wout D r cls d σ H)
inductive HdsG (X : Cx) : List ExceptHandler → List Cz → Prop
  | nil : HdsG X [] []
  | bare {t : Expr} {f : Value → Option Bool} {ts : Addr → Value → Option Addr → TS} {b₀ : Stmt} {suite : List Stmt} {pos' : Pos} {hds : List ExceptHandler} {l : List Cz} (T : Tst X t f)
      (hsu : ∀ (a : Addr) (oe : Obj) (cls : Value) (d : Option Addr) (pn : List (Addr × Obj)), Zc cls d oe → (∃ vs, oe.data = .fields vs) → PSs (X.suite a ((a, oe) :: pn)) (b₀ :: suite) (ts a cls d)) (r : HdsG X hds l) :
      HdsG X (.ExceptHandler (some t) none (b₀ :: suite) pos' :: hds) (⟨f, none, ts⟩ :: l)
  | as {t : Expr} {n : Str} {i : Nat} {f : Value → Option Bool} {ts : Addr → Value → Option Addr → TS} {b₀ : Stmt} {suite : List Stmt} {pos' : Pos} {hds : List ExceptHandler} {l : List Cz} (T : Tst X t f) (hN : X.N.Nodup) (hi : X.N[i]? = some n) (hln : X.env.kindOf n = some .local)
      (hsu : ∀ (a : Addr) (oe : Obj) (cls : Value) (d : Option Addr) (pn : List (Addr × Obj)), Zc cls d oe → (∃ vs, oe.data = .fields vs) → PSs (X.suite a ((a, oe) :: pn)) (b₀ :: suite) (ts a cls d)) (r : HdsG X hds l) :
      HdsG X (.ExceptHandler (some t) (some n) (b₀ :: suite) pos' :: hds) (⟨f, some i, ts⟩ :: l)
variable {body : List Stmt} {h₀ : ExceptHandler} {hds : List ExceptHandler} {l : List Cz} {pos : Pos} {tb : WX → TS} {Wout : WX}
theorem ps_try_g (hs : X.stack = X.env :: X.outer) (hf : X.env.frame = some X.env.locals) (tk : Takes X Wout)
    (hb : ∀ (W : WX) (pn : List (Addr × Obj)) (xe : Value → Shared → Prop), Takes (X.tr pn xe) W → PassesOwn (model X.prog X.w) X.A X.env xe → PSs (X.tr pn xe) body (tb W))
    (hh : HdsG X (h₀ :: hds) l) : PS X (.Try body (h₀ :: hds) [] [] pos) (fun D σ H => tb (wG Wout D l) D σ H) := by
  refine ⟨fun pins s σ H D I h => ?_⟩
  have ok := I.ok
  have hfr : X.A.frames = some (X.env :: X.outer) := by rw [ok.frames, hs]
  refine wpAny_Try_except ?_
  refine wpAny_mono ((hb (wG Wout D l) (X.pn ++ pins) (fun e s₁ => wpAny (model X.prog X.w) X.A (noteFrame e X.env) (fun _ s₂ => wpAny (model X.prog X.w) X.A (setFlight e none) (fun _ s₃ =>
    wpAny (model X.prog X.w) X.A (handleBy e X.env (h₀ :: hds)) (SP X pins D) X.xe s₃) X.xe s₂) X.xe s₁) (fun u s' xx => ?_) PassesOwn.looking).run [] s σ H D (I.toTry _) h) (fun f s1 hsp => ?_) (fun e s1 he => he)
  · -- the catch
    obtain ⟨a, B, sI, pins', σ', H', cls, d, rfl, J', nb, up, sky, na, os, ag, w⟩ := xx
    have J : Inv X pins σ' H' sI := J'.ofTry ok
    have sky' : Sky B (X.env :: X.outer) a (Zc cls d) X.env.locals s'.heap := by rw [← hs]; exact sky
    show wpAny (model X.prog X.w) X.A (noteFrame (.ref a) X.env) _ _ _
    refine Sky.land Zc.steady hfr hf sky' fun h3 fl3 up3 => ?_
    have notFr : ∀ {h : Heap} {o : Obj} {vs : Array Value}, h.FunFrames B (X.env :: X.outer) → h.get? a = some o → o.data = .fields vs → a ∉ frs (X.env :: X.outer) := fun {h o vs} ff e dd hm => by
      obtain ⟨_, o', e', hnf⟩ := ff.mem hm
      rw [e] at e'; cases e'
      exact hnf _ dd
    have go : ∀ {hds' : List ExceptHandler} {l' : List Cz}, HdsG X hds' l' → ∀ h3, HandSPX.FlyingZ B (X.env :: X.outer) a (Zc cls d) h3 → s'.heap.UpToSlots h3 → wG Wout D l' cls d σ' H' →
        wpAny (model X.prog X.w) X.A (handleBy (.ref a) X.env hds') (SP X pins D) X.xe { s' with heap := h3 } := by
      intro hds' l' hk
      induction hk with
      | nil =>
        intro h3 fl3 up3 w
        have J3 : Inv X pins σ' H' { s' with heap := h3 } := J.landed nb fl3.1 (up.trans up3) os ag
        refine wpAny_handleBy_nil ?_
        obtain ⟨k1, k2, k3, oe, vs, T, oT, ts', he, hz, hd, h1, hr⟩ := id fl3
        unfold PySem.passOn
        refine wpAny_bind (wpAny_field he hd h1 ?_)
        rw [if_neg (show ¬ ((Value.ref T == Value.none) = true) from by simp)]
        have fin : wpAny (model X.prog X.w) X.A (setFlight (.ref a) X.env.frame) (fun _ s4 => wpAny (model X.prog X.w) X.A (throw (.ref a) : Sem Flow) (SP X pins D) X.xe s4) X.xe { s' with heap := h3 } := by
          rw [hf]
          refine HandSPX.setFlight_upZ fl3 fun h4 hh4 up4 => wpAny_throw (tk _ _ ?_)
          exact ⟨a, B, sI, pins, σ', H', cls, d, rfl, J, nb, (up.trans up3).trans up4, .inr (.inr (by rw [hs]; exact hh4)), na, os, ag, w⟩
        first
          | exact wpAny_bind (wpAny_pure (wpAny_bind fin))
          | exact wpAny_bind fin
      | @bare t f ts b₀ suite pos' hds2 l2 T hsu r ih =>
        intro h3 fl3 up3 w
        have J3 : Inv X pins σ' H' { s' with heap := h3 } := J.landed nb fl3.1 (up.trans up3) os ag
        obtain ⟨oe3, vs3, he3, hz3, hd3⟩ := fl3.there
        have nfr := notFr fl3.2.2.1 he3 hd3
        have nL : a ≠ X.env.locals := fun z => nfr (List.mem_filterMap.mpr ⟨X.env, List.mem_cons_self, by rw [hf, z]⟩)
        have nF : a ∉ X.fs := fun hm => by
          obtain ⟨e, he, q⟩ := List.mem_filterMap.mp hm
          exact nfr (List.mem_filterMap.mpr ⟨e, List.mem_cons_of_mem _ he, q⟩)
        have S3 := J3.suite he3 hd3 na nL nF
        obtain ⟨b, hb1, hyes, hno⟩ := w
        have LT : PySem.W.Looks (model X.prog X.w) h3 (typeOf (.ref a)) cls := fun A Q E s k q => wpAny_typeOf_ref (k _ _ he3) (by rw [hz3.1]; exact q)
        refine wpAny_handleBy_cons (codeAny_handlers_test (T.run S3 LT hb1 fun h5 kp => ?_)) (by intro q; cases q)
        have fl5 := flying_keeps fl3 kp
        have up5 := up3.trans (Heap.UpToSlots.of_keeps kp)
        cases b with
        | true =>
          refine codeAny_handlers_suite ?_
          refine HandSPX.lands_againZ fl5 fun h4 fl4 up4 => ?_
          have J4 : Inv X pins σ' H' { s' with heap := h4 } := J.landed nb fl4.1 ((up.trans up5).trans up4) os ag
          obtain ⟨oe4, vs4, he4, hz4, hd4⟩ := fl4.there
          have S4 := J4.suite he4 hd4 na nL nF
          refine wpAny_mono ((hsu a oe4 cls d (X.pn ++ pins) hz4 ⟨_, hd4⟩).run [] _ _ H' _ S4 (hyes rfl a na)) (fun f s6 hsp => ?_) (fun _ _ z => False.elim z)
          cases f with
          | next =>
            obtain ⟨σ6, H6, S6, q6⟩ := hsp
            exact ⟨_, _, S6.unsuite ok, q6⟩
          | brk =>
            obtain ⟨σ6, H6, S6, q6⟩ := hsp
            exact ⟨_, _, S6.unsuite ok, q6⟩
          | cont =>
            obtain ⟨σ6, H6, S6, q6⟩ := hsp
            exact ⟨_, _, S6.unsuite ok, q6⟩
          | ret u =>
            obtain ⟨v6, σ6, H6, S6, r6, q6⟩ := hsp
            exact ⟨_, _, _, S6.unsuite ok, r6, q6⟩
        | false =>
          show wpAny _ X.A (handleBy (.ref a) X.env hds2) _ _ _
          exact ih h5 fl5 up5 (hno rfl)
      | @as t n i f ts b₀ suite pos' hds2 l2 T hN hi hln hsu r ih =>
        intro h3 fl3 up3 w
        have hloc : Loc X.env.scope n := .inl hln
        have J3 : Inv X pins σ' H' { s' with heap := h3 } := J.landed nb fl3.1 (up.trans up3) os ag
        obtain ⟨oe3, vs3, he3, hz3, hd3⟩ := fl3.there
        have nfr := notFr fl3.2.2.1 he3 hd3
        have nL : a ≠ X.env.locals := fun z => nfr (List.mem_filterMap.mpr ⟨X.env, List.mem_cons_self, by rw [hf, z]⟩)
        have nF : a ∉ X.fs := fun hm => by
          obtain ⟨e, he, q⟩ := List.mem_filterMap.mp hm
          exact nfr (List.mem_filterMap.mpr ⟨e, List.mem_cons_of_mem _ he, q⟩)
        have S3 := J3.suite he3 hd3 na nL nF
        obtain ⟨b, hb1, hyes, hno⟩ := w
        have LT : PySem.W.Looks (model X.prog X.w) h3 (typeOf (.ref a)) cls := fun A Q E s k q => wpAny_typeOf_ref (k _ _ he3) (by rw [hz3.1]; exact q)
        refine wpAny_handleBy_cons (codeAny_handlers_test (T.run S3 LT hb1 fun h5 kp => ?_)) (by intro q; cases q)
        have fl5 := flying_keeps fl3 kp
        have up5 := up3.trans (Heap.UpToSlots.of_keeps kp)
        cases b with
        | true =>
          refine codeAny_handlers_suite_as ?_
          refine HandSPX.lands_againZ fl5 fun h4 fl4 up4 => ?_
          have J4 : Inv X pins σ' H' { s' with heap := h4 } := J.landed nb fl4.1 ((up.trans up5).trans up4) os ag
          obtain ⟨oe4, vs4, he4, hz4, hd4⟩ := fl4.there
          have S4 := J4.suite he4 hd4 na nL nF
          refine store_ok (X := X.suite a ((a, oe4) :: (X.pn ++ pins))) (v := .ref a) S4 hN hi hloc rfl (fun s5 S5 => ?_) (.inr hln)
          refine wpAny_mono ((hsu a oe4 cls d (X.pn ++ pins) hz4 ⟨_, hd4⟩).run [] s5 _ H' _ S5 (hyes rfl a na)) (fun f s6 hsp => ?_) (fun _ _ z => False.elim z)
          have end_ : ∀ {σ6 : L2.St} {H6 : Hp} {Q : Shared → Prop}, Inv (X.suite a ((a, oe4) :: (X.pn ++ pins))) [] σ6 H6 s6 → (∀ s7, Inv X pins (σ6.set i none) H6 s7 → Q s7) →
              wpAny (model X.prog X.w) X.A (do bindName X.env n .none; unbindBehindTheSuite X.env n pos') (fun _ s7 => Q s7) X.xe s6 := fun {σ6 H6 Q} S6 hq => gone_ok (S6.unsuite ok) hN hi hln hq
          cases f with
          | next =>
            obtain ⟨σ6, H6, S6, q6⟩ := hsp
            exact end_ S6 fun s7 J7 => ⟨_, _, J7, q6⟩
          | brk =>
            obtain ⟨σ6, H6, S6, q6⟩ := hsp
            exact end_ S6 fun s7 J7 => ⟨_, _, J7, q6⟩
          | cont =>
            obtain ⟨σ6, H6, S6, q6⟩ := hsp
            exact end_ S6 fun s7 J7 => ⟨_, _, J7, q6⟩
          | ret u =>
            obtain ⟨v6, σ6, H6, S6, r6, q6⟩ := hsp
            exact end_ S6 fun s7 J7 => ⟨_, _, _, J7, r6, q6⟩
        | false =>
          show wpAny _ X.A (handleBy (.ref a) X.env hds2) _ _ _
          exact ih h5 fl5 up5 (hno rfl)
    exact go hh h3 fl3 up3 w
  · cases f with
    | next =>
      obtain ⟨σ', H', J', q⟩ := hsp
      exact wpAny_execs_nil ⟨σ', H', J'.ofTry ok, q⟩
    | brk =>
      obtain ⟨σ', H', J', q⟩ := hsp
      exact ⟨σ', H', J'.ofTry ok, q⟩
    | cont =>
      obtain ⟨σ', H', J', q⟩ := hsp
      exact ⟨σ', H', J'.ofTry ok, q⟩
    | ret u =>
      obtain ⟨v, σ', H', J', r, q⟩ := hsp
      exact ⟨v, σ', H', J'.ofTry ok, r, q⟩
end
structure Dz where
  f : Value → Option Bool
  i : Option Nat
  ts : Addr → Value → Option Addr → DTS
def dwG (dwo : DW) (E : DEnds) : List Dz → DW
  | [] => dwo
  | ⟨f, none, ts⟩ :: r => fun ex ρ n => ∃ b, f (.ref ex.C) = some b ∧ (b = true → ∀ a d, ts a (.ref ex.C) d E ρ (caught a ex d n)) ∧ (b = false → dwG dwo E r ex ρ n)
  | ⟨f, some i, ts⟩ :: r => fun ex ρ n => ∃ b, f (.ref ex.C) = some b ∧ (b = true → ∀ a d, ts a (.ref ex.C) d (endsX i E) (ρ.set i (some (.dat (refD a)))) (caught a ex d n)) ∧ (b = false → dwG dwo E r ex ρ n)
def dTryG (l : List Dz) (tb : DW → DTS) (dwo : DW) : DTS := fun E ρ n => tb (dwG dwo E l) E ρ n
inductive HdsD (Y : Fx) (X : Cx) : List ExceptHandler → List Dz → Prop
  | nil : HdsD Y X [] []
  | bare {t : Expr} {f : Value → Option Bool} {ts : Addr → Value → Option Addr → DTS} {b₀ : Stmt} {suite : List Stmt} {pos' : Pos} {hds : List ExceptHandler} {l : List Dz} (T : Tst X t f)
      (hsu : ∀ (a : Addr) (oe : Obj) (cls : Value) (d : Option Addr) (pn : List (Addr × Obj)), Zc cls d oe → (∃ vs, oe.data = .fields vs) → DSs Y (X.suite a ((a, oe) :: pn)) (b₀ :: suite) (ts a cls d)) (r : HdsD Y X hds l) :
      HdsD Y X (.ExceptHandler (some t) none (b₀ :: suite) pos' :: hds) (⟨f, none, ts⟩ :: l)
  | as {t : Expr} {n : Str} {i : Nat} {f : Value → Option Bool} {ts : Addr → Value → Option Addr → DTS} {b₀ : Stmt} {suite : List Stmt} {pos' : Pos} {hds : List ExceptHandler} {l : List Dz} (T : Tst X t f) (hN : X.N.Nodup) (hi : X.N[i]? = some n) (hln : X.env.kindOf n = some .local)
      (hsu : ∀ (a : Addr) (oe : Obj) (cls : Value) (d : Option Addr) (pn : List (Addr × Obj)), Zc cls d oe → (∃ vs, oe.data = .fields vs) → DSs Y (X.suite a ((a, oe) :: pn)) (b₀ :: suite) (ts a cls d)) (r : HdsD Y X hds l) :
      HdsD Y X (.ExceptHandler (some t) (some n) (b₀ :: suite) pos' :: hds) (⟨f, some i, ts⟩ :: l)
def toCz (Y : Fx) (K : PySem.W.Frag) (z : Dz) : Cz := ⟨z.f, z.i, fun a cls d => upS Y K (z.ts a cls d)⟩
section
variable {X : Cx} {Y : Fx} {dw : DW} {W : WX}
theorem hdsD_g {hds : List ExceptHandler} {l : List Dz} (h : HdsD Y X hds l) : HdsG X hds (l.map (toCz Y X.K)) := by
  induction h with
  | nil => exact .nil
  | bare T hsu r ih => exact .bare T hsu ih
  | as T hN hi hln hsu r ih => exact .as T hN hi hln hsu ih
theorem ds_try_g {body : List Stmt} {h₀ : ExceptHandler} {hds : List ExceptHandler} {l : List Dz} {pos : Pos} {tb : DW → DTS} (tk : Takes X W) (ok : WOk Y X.K dw W)
    (hs : X.stack = X.env :: X.outer) (hf : X.env.frame = some X.env.locals)
    (hb : ∀ (Y1 : Fx) (W1 : WX) (pn : List (Addr × Obj)) (xe : Value → Shared → Prop) (dw1 : DW), Takes (X.tr pn xe) W1 → WOk Y1 X.K dw1 W1 → DSs Y1 (X.tr pn xe) body (tb dw1))
    (hh : HdsD Y X (h₀ :: hds) l) : DS Y X (.Try body (h₀ :: hds) [] [] pos) (dTryG l tb dw) :=
  ps_imp (ps_try_g (tb := fun W1 D σ H => ∃ q : Fx × DW, WOk q.1 X.K q.2 W1 ∧ upS q.1 X.K (tb q.2) D σ H) (Wout := W) hs hf tk
    (fun W1 pn xe tk1 _ => pss_ex (Q := fun q : Fx × DW => WOk q.1 X.K q.2 W1) fun q ok1 => hb q.1 W1 pn xe q.2 tk1 ok1) (hdsD_g hh)) fun D σ H ⟨Z, F, ρ, n, E, r, ht, k⟩ => by
    refine ⟨⟨Y.at_ F, dwG dw E l⟩, fun ex ρ1 n1 F1 H1 σ1 cls d Z1 h1 q1 hx1 => ?_, Y.at_ F, F, ρ, n, E, r.enter, ht, ends_in r k⟩
    have r1 := r.exit q1
    clear ht hh
    obtain ⟨hcls, hxo⟩ := hx1
    subst hcls
    have key : ∀ l : List Dz, dwG dw E l ex ρ1 n1 → wG W D (l.map (toCz Y X.K)) (.ref ex.C) d σ1 H1 := by
      intro l
      induction l with
      | nil => exact fun h1 => ok _ _ _ _ _ _ _ _ _ h1 r1 ⟨rfl, hxo⟩
      | cons z l ih =>
        intro h1
        obtain ⟨f, i, ts⟩ := z
        cases i with
        | none =>
          obtain ⟨b, hb1, hyes, hno⟩ := h1
          refine ⟨b, hb1, fun hbt a na => ?_, fun hbf => ih (hno hbf)⟩
          have r2 : SR Y X.K Z F1 H1 σ1 ρ1 (caught a ex d n1) := r1.step Gr.refl r1.b.sub (at_caught r1.b.dk hxo)
          exact ⟨Z, F1, _, _, _, r2, hyes hbt a d, k⟩
        | some i =>
          obtain ⟨b, hb1, hyes, hno⟩ := h1
          refine ⟨b, hb1, fun hbt a na => ?_, fun hbf => ih (hno hbf)⟩
          have r2 : SR Y X.K Z F1 H1 σ1 ρ1 (caught a ex d n1) := r1.step Gr.refl r1.b.sub (at_caught r1.b.dk hxo)
          exact ⟨Z, F1, _, _, _, r2.setD i (rp_ref (a := a)), hyes hbt a d, ends_x k⟩
    exact key l h1
end
end DL
set_option maxHeartbeats 4000000
set_option maxHeartbeats 4000000
set_option maxHeartbeats 4000000
set_option maxHeartbeats 4000000
set_option maxHeartbeats 4000000
namespace PySem
open Sem (wp)
section
variable {M : Model} {A : Around} {R : GenEnd} {Y : Protocol} {n : Nat} {s₀ : Shared} {c : Code} {fs : List Frame} {s : Shared} {env : Env}
  {K : Flow → Sem Fin} {H : Value → Sem Fin} {gd : Bool → Bool} {lv : List Value → List Value}
theorem seg_For {target iter : Expr} {body orelse : List Stmt} {pos : Pos} (hs : ∀ x, foldedSetIterable iter env x = pure x)
    (h : wpAny M (A.over c fs) (eval iter env) (fun x s1 => wpAny M (A.over c fs) (pyIter x) (fun it s2 => ∀ p, Seg M A R Y n s₀ (.forLoop target it body orelse env) (M.den (.forLoop target it body orelse env))
      (.ret (fun r => ((match r with | .ok f => (.pure f : Sem Flow) | .error e => .raise e).onRaise fun (x : Value) => do
        if (← field x 1) == Value.none then unsupported "frame.own-activation:exception-without-traceback"
        setFlight x env.frame).wrap K H gd lv) none (gd false) (lv []) c p [] :: fs) s2) (fun x s' => Seg M A R Y n s₀ c (H x) fs s') s1) (fun x s' => Seg M A R Y n s₀ c (H x) fs s') s) :
    Seg M A R Y n s₀ c ((exec (.For target iter body orelse pos) env).wrap K H gd lv) fs s := by
  rw [exec_For]
  refine seg_bind_wrap (wpAny_standAt ?_)
  refine seg_bind_wrap (wpAny_mono h (fun x s1 h1 => ?_) fun _ _ q => q)
  refine seg_bind_wrap (wpAny_of_eq (hs x) ?_)
  refine seg_bind_wrap (wpAny_standAt ?_)
  refine seg_bind_wrap (wpAny_holding (wpAny_mono h1 (fun it s2 h2 => ?_) fun _ _ q => q))
  exact seg_call h2
end
section
variable {prog : Program} {w : World} {A : Around} {R : GenEnd} {Y : Protocol} {n : Nat} {s₀ : Shared} {fs : List Frame} {s : Shared} {env : Env}
theorem seg_forLoop {target : Expr} {it : Value} {body orelse : List Stmt}
    (h : wpAny (model prog w) (A.over (.forLoop target it body orelse env) fs) (pyNext it) (fun r s1 => match r with
        | none => Seg (model prog w) A R Y n s₀ (.forLoop target it body orelse env) (.pure (.again (.block orelse env))) fs s1
        | some v => wpAny (model prog w) (A.over (.forLoop target it body orelse env) fs) (letOwnedTupleGo target it v) (fun _ s2 => wpAny (model prog w) (A.over (.forLoop target it body orelse env) fs) (assign target env v) (fun _ s3 =>
          Seg (model prog w) A R Y n s₀ (.forLoop target it body orelse env) ((execs body env).wrap (fun f => match f with
            | .next | .cont => .pure (.again (.forLoop target it body orelse env))
            | .brk => .pure (.done .next)
            | .ret v => .pure (.done (.ret v))) (fun e => (do noteFrame e env; theTreesLotGoes e : Sem Unit).wrap (fun _ => .raise e) .raise id id) id id) fs s3)
            (fun x s' => Seg (model prog w) A R Y n s₀ (.forLoop target it body orelse env) ((do noteFrame x env; theTreesLotGoes x : Sem Unit).wrap (fun _ => .raise x) .raise id id) fs s') s2)
            (fun x s' => Seg (model prog w) A R Y n s₀ (.forLoop target it body orelse env) ((do noteFrame x env; theTreesLotGoes x : Sem Unit).wrap (fun _ => .raise x) .raise id id) fs s') s1)
      (fun x s' => Seg (model prog w) A R Y n s₀ (.forLoop target it body orelse env) ((do noteFrame x env; theTreesLotGoes x : Sem Unit).wrap (fun _ => .raise x) .raise id id) fs s') s) :
    Seg (model prog w) A R Y n s₀ (.forLoop target it body orelse env) ((model prog w).den (.forLoop target it body orelse env)) fs s := by
  have ee : ∀ x s', Seg (model prog w) A R Y n s₀ (.forLoop target it body orelse env) ((do noteFrame x env; theTreesLotGoes x : Sem Unit).wrap (fun _ => .raise x) .raise id id) fs s' →
      Seg (model prog w) A R Y n s₀ (.forLoop target it body orelse env) ((do noteFrame x env; theTreesLotGoes x : Sem Unit).bind (fun _ => (.raise x : Sem Fin))) fs s' := fun x s' hx => by
    rw [Sem.bind_eq_wrap]; exact hx
  show Seg _ A R Y n s₀ _ ((forTurn target it body orelse env).onRaise (fun x => do noteFrame x env; theTreesLotGoes x)) fs s
  unfold forTurn
  rw [Sem.onRaise_eq_wrap]
  refine seg_bind_wrap (wpAny_standAt ?_)
  refine seg_bind_wrap (wpAny_onRaise (wpAny_mono h (fun r s1 h1 => ?_) fun x s' hx => wpAny_standAt (ee x s' hx)))
  cases r with
  | none => exact h1
  | some v =>
    refine seg_bind_wrap (wpAny_mono h1 (fun _ s2 h2 => ?_) fun x s' hx => ee x s' hx)
    refine seg_bind_wrap (wpAny_mono h2 (fun _ s3 h3 => ?_) fun x s' hx => ee x s' hx)
    rw [Sem.bind_eq_wrap', Sem.wrap_wrap]
    rw [Sem.wrap_congr (execs body env) _ _ (K' := fun f => match f with
            | .next | .cont => .pure (.again (.forLoop target it body orelse env))
            | .brk => .pure (.done .next)
            | .ret v => .pure (.done (.ret v))) (H' := (fun e => (do noteFrame e env; theTreesLotGoes e : Sem Unit).wrap (fun _ => .raise e) .raise id id))
        (fun f => by cases f <;> rfl)
        (fun e => by first | exact Sem.bind_eq_wrap _ _ | (show (do noteFrame e env; theTreesLotGoes e : Sem Unit).bind (fun _ => .raise e) = _; rw [Sem.bind_eq_wrap]))]
    exact h3
end
end PySem
namespace L2
open PySem PySem.Spec PyProof.Rows GenW
section
variable {X : Cx} {tg : Expr}
/-- for in a generator's body; W and N also of what is out so far -/
def tGFor (wi : TI) (g : TG) (tb : TGn) : TGn := fun D ys σ H => wi σ H fun J H1 => ∃ W : Nat → Nat → List V → St → Hp → Prop, (∃ m, W 0 m ys σ H1) ∧ ∀ i m ys σ H, W i m ys σ H →
  (J.stop i H ∧ D.nx ys σ H) ∨ (J.go i H ∧ ∃ N : List V → St → Hp → Prop, (∀ ys' σ' H', N ys' σ' H' → ∃ m', m' < m ∧ W (i + 1) m' ys' σ' H') ∧ ∀ x H', J.yld i H x H' → g x σ H' fun σ2 H2 => tb { D with nx := N, ct := N, bk := D.nx } ys σ2 H2)
theorem gs_for {iter : Expr} {body : List Stmt} {wi : TI} {g : TG} {tb : TGn} {pos : Pos} (hp : PassesOwn (model X.prog X.w) X.A X.env X.xe) (hc : X.calm = true) (hi : PI X tg iter wi) (hg : PG X tg g) (hb : GSs X body tb)
    (hs : ∀ x, foldedSetIterable iter X.env x = pure x := by intro _; rfl) : GS X (.For tg iter body [] pos) (tGFor wi g tb) := by
  refine ⟨fun A S ip R n ys s₀ c fs K J gd lv s σ H D g0 hn k hI ht => ?_⟩
  obtain ⟨acc0, cc0, r0, I0⟩ := hI
  have hov : A.over c fs = X.A := g0.over
  refine seg_For hs ?_
  rw [hov]
  refine wpAny_mono (hi.run _ s σ H _ I0 ht) (fun v s1 h1 => ?_) fun x s' hx => k.exc n s₀ x s' hx
  refine wpAny_mono h1 (fun itv s2 h2 => fun p => ?_) fun x s' hx => k.exc n s₀ x s' hx
  obtain ⟨it, fp, tn, JJ, H2, e, I2, T, st2, f2, W, ⟨m0, w0⟩, turn⟩ := h2
  subst e
  have hfS : ∀ b ∈ fp, b ≠ S := fun b hb q => (f2 b hb).2.2.2.2.2 (S, lstObj acc0 cc0) (List.mem_append_right _ List.mem_cons_self) q.symm
  have hfi : ∀ b ∈ fp, ∀ q ∈ X.pn ++ ip, q.1 ≠ b := fun b hb q hq => by
    rcases List.mem_append.mp hq with z | z
    · exact (f2 b hb).2.2.2.2.2 q (List.mem_append_left _ z)
    · exact (f2 b hb).2.2.2.2.2 q (List.mem_append_right _ (List.mem_cons_of_mem _ z))
  have stat : ∀ {H' : Hp} {acc : Array Value} {cc : Nat}, (∀ b ∈ fp, H' b = none) → ∀ b ∈ fp, FpOk X ((S, lstObj acc cc) :: ip) H' b := fun {H' acc cc} hn b hb => by
    obtain ⟨_, y1, y2, y3, y4, _⟩ := f2 b hb
    refine ⟨hn b hb, y1, y2, y3, y4, fun q hq => ?_⟩
    rcases List.mem_append.mp hq with z | z
    · exact hfi b hb q (List.mem_append_left _ z)
    · rcases List.mem_cons.mp z with z | z
      · rw [z]; exact (hfS b hb).symm
      · exact hfi b hb q (List.mem_append_right _ z)
  have gl := fun (kk : Result → Sem PySem.Fin) => gc_loop (k := kk) (c' := .forLoop tg (.ref it) body [] X.env) (l := lv []) (kp := []) (p := p) g0 rfl rfl
  have loop : ∀ (m i n : Nat) (ys : List V) (s₀ s : Shared) (σ : St) (H : Hp), n + ys.length = sizeLine → W i m ys σ H → GI X S ip ys σ H s → tn i s.heap → (∀ b ∈ fp, H b = none) →
      Seg (model X.prog X.w) A R (GY X S) n s₀ (.forLoop tg (.ref it) body [] X.env) ((model X.prog X.w).den (.forLoop tg (.ref it) body [] X.env))
        (.ret (fun r => ((match r with | .ok f => (.pure f : Sem Flow) | .error e => .raise e).onRaise (cameBack X.env)).wrap K J gd lv) none (gd false) (lv []) c p [] :: fs) s := by
    intro m
    induction m using Nat.strongRecOn with
    | ind m ih =>
      intro i n ys s₀ s σ H hn w hI st fr
      have ee : ∀ (n : Nat) (s₀ : Shared) (x : Value) (s' : Shared), X.xe x s' → Seg (model X.prog X.w) A R (GY X S) n s₀ (.forLoop tg (.ref it) body [] X.env)
          ((do noteFrame x X.env; theTreesLotGoes x : Sem Unit).wrap (fun _ => .raise x) .raise id id)
          (.ret (fun r => ((match r with | .ok f => (.pure f : Sem Flow) | .error e => .raise e).onRaise (cameBack X.env)).wrap K J gd lv) none (gd false) (lv []) c p [] :: fs) s' := fun n s₀ x s' hx => by
        refine seg_wrap ?_
        rw [(gl _).over]
        refine wpAny_bind (wpAny_mono (hp x s' hx) (fun _ s'' hcb => wpAny_theTreesLotGoes ?_) fun y s'' hcb => ?_)
        · exact seg_leaf (.error x) (seg_cameBack g0 k hcb)
        · exact seg_leaf (.error y) (seg_cameBack g0 k hcb)
      refine seg_forLoop ?_
      rw [(gl _).over]
      obtain ⟨acc, cc, r, I⟩ := hI
      rcases turn i m ys σ H w with ⟨stop, qn⟩ | ⟨go, N, hN, step⟩
      · refine wpAny_mono (T.done X rfl rfl rfl hc i _ s σ H X.xe I (stat fr) st stop) (fun r1 s4 ⟨hr, I4⟩ => ?_) fun x s' hx => ee n s₀ x s' hx
        subst hr
        refine seg_again rfl ?_
        exact seg_leaf (.ok .next) (k.ok n ys s₀ s4 .next hn ⟨σ, H, ⟨acc, cc, r, I4⟩, qn⟩)
      · refine wpAny_mono (T.item X rfl rfl rfl hc i _ s σ H X.xe I (stat fr) st go) (fun r1 s4 ⟨u, hr, h4⟩ => ?_) fun x s' hx => ee n s₀ x s' hx
        subst hr
        refine wpAny_mono h4 (fun _ s5 ⟨x, H5, I5, r5, y5, st5, fr5⟩ => ?_) fun x s' hx => ee n s₀ x s' hx
        have I5' : Inv X ((S, lstObj acc cc) :: (ip ++ pinsAt fp s5.heap)) σ H5 s5 := I5.pinned (stat fr5) (T.obj _ _ st5)
        refine wpAny_mono (hg.run _ s5 σ H5 x u _ I5' r5 (step x H5 y5)) (fun _ s6 ⟨σ6, H6, I6, q6⟩ => ?_) fun x s' hx => ee n s₀ x s' hx
        have gl2 : ∀ kk, GC X S (ip ++ pinsAt fp s5.heap) A (.forLoop tg (.ref it) body [] X.env) (.ret kk none (gd false) (lv []) c p [] :: fs) id := fun kk =>
          ⟨(gl kk).pn, fun q hq => (List.mem_append.mp hq).elim (g0.ip q) fun z => hfS _ (of_pinsAt z).1, (gl kk).apart, (gl kk).over, (gl kk).split, (gl kk).guard, (gl kk).gd⟩
        have out : ∀ {ys' : List V} {σ' : St} {H' : Hp} {s' : Shared}, GI X S (ip ++ pinsAt fp s5.heap) ys' σ' H' s' → GI X S ip ys' σ' H' s' := fun {ys' σ' H' s'} ⟨a, b, r, I⟩ => ⟨a, b, r, Inv.unpinned (pins := (S, lstObj a b) :: ip) I⟩
        have again : ∀ {n' : Nat} {ys' : List V} {s₀' s7 : Shared} {σ7 : St} {H7 : Hp}, n' + ys'.length = sizeLine → GI X S (ip ++ pinsAt fp s5.heap) ys' σ7 H7 s7 → N ys' σ7 H7 → Seg (model X.prog X.w) A R (GY X S) n' s₀' (.forLoop tg (.ref it) body [] X.env) (.pure (.again (.forLoop tg (.ref it) body [] X.env)))
            (.ret (fun r => ((match r with | .ok f => (.pure f : Sem Flow) | .error e => .raise e).onRaise (cameBack X.env)).wrap K J gd lv) none (gd false) (lv []) c p [] :: fs) s7 := fun {n' ys' s₀' s7 σ7 H7} hn' G7 n7 => by
          obtain ⟨m', hm, w7⟩ := hN ys' σ7 H7 n7
          have G7' := out G7
          obtain ⟨a7, b7, r7, I7⟩ := G7
          refine seg_again rfl (ih m' hm (i + 1) n' ys' s₀' s7 σ7 H7 hn' w7 G7' (T.keep _ _ _ st5 fun b hb o e => (I7.pin (b, o) (List.mem_append_right _ (List.mem_cons_of_mem _ (List.mem_append_right _ (mem_pinsAt hb e))))).1) fun b hb => ?_)
          obtain ⟨o, e, d⟩ := T.obj _ _ st5 b hb
          exact (I7.pin (b, o) (List.mem_append_right _ (List.mem_cons_of_mem _ (List.mem_append_right _ (mem_pinsAt hb e))))).2.1
        refine hb.run A S (ip ++ pinsAt fp s5.heap) R n ys s₀ _ _ _ _ id id s6 σ6 H6 { D with nx := N, ct := N, bk := D.nx } (gl2 _) hn ⟨fun n' ys' s₀' s7 f hn' hs7 => ?_, fun n' s₀' x s7 hx => ee n' s₀' x s7 hx⟩ ⟨acc, cc, r, I6⟩ q6
        cases f with
        | next => obtain ⟨σ7, H7, G7, n7⟩ := hs7; exact again hn' G7 n7
        | cont => obtain ⟨σ7, H7, G7, n7⟩ := hs7; exact again hn' G7 n7
        | brk => obtain ⟨σ7, H7, G7, q7⟩ := hs7; exact seg_leaf (.ok .next) (k.ok n' ys' s₀' s7 .next hn' ⟨σ7, H7, out G7, q7⟩)
        | ret v => obtain ⟨x7, σ7, H7, G7, r7, q7⟩ := hs7; exact seg_leaf (.ok (.ret v)) (k.ok n' ys' s₀' s7 (.ret v) hn' ⟨x7, σ7, H7, out G7, r7, q7⟩)
  exact loop m0 0 n ys s₀ s2 σ H2 hn w0 ⟨acc0, cc0, r0, I2⟩ st2 fun b hb => (f2 b hb).1
end
end L2
namespace DL
open PySem PySem.Spec PyProof.Rows L2
variable {X : Cx} {Y : Fx} {st : Stmt} {rest : List Stmt}
theorem gs_imp {t t' : TGn} (h : GS X st t) (q : ∀ D ys σ H, t' D ys σ H → t D ys σ H) : GS X st t' :=
  ⟨fun A S ip R n ys s₀ c fs K J gd lv s σ H D g hn k hI ht => h.run A S ip R n ys s₀ c fs K J gd lv s σ H D g hn k hI (q D ys σ H ht)⟩
theorem gss_imp {t t' : TGn} (h : GSs X rest t) (q : ∀ D ys σ H, t' D ys σ H → t D ys σ H) : GSs X rest t' :=
  ⟨fun A S ip R n ys s₀ c fs K J gd lv s σ H D g hn k hI ht => h.run A S ip R n ys s₀ c fs K J gd lv s σ H D g hn k hI (q D ys σ H ht)⟩
/-- the ends in a generator's body; the list: what is out so far -/
structure DGEnds where
  nx : List PyData → Rho → Wo → Prop
  rt : List PyData → PyData → Wo → Prop
  bk : List PyData → Rho → Wo → Prop := fun _ _ _ => False
  ct : List PyData → Rho → Wo → Prop := fun _ _ _ => False
abbrev DTGn := DGEnds → List PyData → Rho → Wo → Prop
structure GEndsOk (Y : Fx) (K : PySem.W.Frag) (Z : Fx) (E : DGEnds) (D : GEnds) : Prop where
  nx : ∀ F H σ ρ n ds ys, E.nx ds ρ n → SR Y K Z F H σ ρ n → Rps K F ds ys → D.nx ys σ H
  rt : ∀ ds d n F H v ys, E.rt ds d n → Base K Z F H n → Rp K F d v → Rps K F ds ys → D.rt ys v H
  bk : ∀ F H σ ρ n ds ys, E.bk ds ρ n → SR Y K Z F H σ ρ n → Rps K F ds ys → D.bk ys σ H
  ct : ∀ F H σ ρ n ds ys, E.ct ds ρ n → SR Y K Z F H σ ρ n → Rps K F ds ys → D.ct ys σ H
def upG (Y : Fx) (K : PySem.W.Frag) (t : DTGn) : TGn := fun D ys σ H => ∃ Z F ρ n E ds, SR Y K Z F H σ ρ n ∧ Rps K F ds ys ∧ t E ds ρ n ∧ GEndsOk Y K Z E D
abbrev DGS (Y : Fx) (X : Cx) (st : Stmt) (t : DTGn) : Prop := GS X st (upG Y X.K t)
abbrev DGSs (Y : Fx) (X : Cx) (st : List Stmt) (t : DTGn) : Prop := GSs X st (upG Y X.K t)
def dG0 : DTGn := fun E ds ρ n => E.nx ds ρ n
def dGSeq (t u : DTGn) : DTGn := fun E ds ρ n => t { E with nx := u E } ds ρ n
def dGPl (t : DTS) : DTGn := fun E ds ρ n => t { nx := E.nx ds, rt := E.rt ds, bk := E.bk ds, ct := E.ct ds } ρ n
theorem dgss_nil : DGSs Y X [] dG0 := gss_imp gss_nil fun D ys σ H ⟨Z, F, ρ, n, E, ds, r, hy, ht, k⟩ => k.nx _ _ _ _ _ _ _ ht r hy
theorem dgss_cons {t u : DTGn} (h1 : DGS Y X st t) (h2 : DGSs Y X rest u) : DGSs Y X (st :: rest) (dGSeq t u) :=
  gss_imp (gss_cons h1 h2) fun D ys σ H ⟨Z, F, ρ, n, E, ds, r, hy, ht, k⟩ => ⟨Z, F, ρ, n, _, ds, r, hy, ht, ⟨fun F' H' σ' ρ' n' ds' ys' h r' y' => ⟨Z, F', ρ', n', E, ds', r', y', h, k⟩, k.rt, k.bk, k.ct⟩⟩
theorem plain_ok {K : PySem.W.Frag} {Z : Fx} {F H : Hp} {n : Wo} {ds : List PyData} {ys : List V} {E : DGEnds} {D : GEnds} (b : Base K Z F H n) (hy : Rps K F ds ys) (k : GEndsOk Y K Z E D) :
    EndsOk Y K { Z with F0 := F } { nx := E.nx ds, rt := E.rt ds, bk := E.bk ds, ct := E.ct ds } (D.at ys) where
  nx := fun F' H' σ' ρ' n' h r' => k.nx _ _ _ _ _ _ _ h (SR.back b r') (hy.mono r'.b.gF)
  rt := fun d n' F' H' v h b' hv => k.rt _ _ _ _ _ _ _ h (b.back b') hv (hy.mono b'.gF)
  bk := fun F' H' σ' ρ' n' h r' => k.bk _ _ _ _ _ _ _ h (SR.back b r') (hy.mono r'.b.gF)
  ct := fun F' H' σ' ρ' n' h r' => k.ct _ _ _ _ _ _ _ h (SR.back b r') (hy.mono r'.b.gF)
/-- a statement that hands out nothing -/
theorem dgs_plain {t : DTS} (h : DS Y X st t) : DGS Y X st (dGPl t) :=
  gs_imp (gs_ps h) fun D ys σ H ⟨Z, F, ρ, n, E, ds, r, hy, ht, k⟩ => ⟨_, F, ρ, n, _, r.base, ht, plain_ok r.b hy k⟩
def dYield (t : DTE) : DTGn := fun E ds ρ n => ds.length < sizeLine ∧ t ρ n fun x n' => needD x fun d => E.nx (ds ++ [d]) ρ n'
theorem dgs_yield {e : Expr} {t : DTE} {yp pos : Pos} (he : WE Y X e t) (hco : X.env.scope.isCoroutine = false := by rfl) (hi : interactive X.env = false := by rfl) : DGS Y X (.Expr (.Yield (some e) yp) pos) (dYield t) :=
  gs_imp (gs_yield he hco hi) fun D ys σ H ⟨Z, F, ρ, n, E, ds, r, hy, ⟨hl, ht⟩, k⟩ => ⟨by rw [← hy.length]; exact hl, Z, F, ρ, n, _, r, ht, fun x n1 F1 H1 v hx g1 s1 d1 w1 => by
    obtain ⟨d, rfl, hx⟩ := needD_is hx
    exact k.nx _ _ _ _ _ _ _ hx (r.step g1 s1 d1) (Rps.append (hy.mono g1.sF) (rps_cons w1 rps_nil))⟩
abbrev GStepD := PyData → List PyData → Rho → Wo → (List PyData → Rho → Wo → Prop) → Prop
structure GForR (xs ds : List PyData) (ρ : Rho) (n : Wo) (step : GStepD) (Q : List PyData → Rho → Wo → Prop) : Prop where
  ex : ∃ I : Nat → List PyData → Rho → Wo → Prop, I 0 ds ρ n ∧ (∀ (k : Nat) x ds' ρ' n', xs[k]? = some x → I k ds' ρ' n' → step x ds' ρ' n' (I (k + 1))) ∧ ∀ ds' ρ' n', I xs.length ds' ρ' n' → Q ds' ρ' n'
def dGFor (s : DSrc) (g : DTG) (b : DTGn) : DTGn := fun E ds ρ n => s ρ n fun xs n1 => GForR xs ds ρ n1 (fun x ds' ρ' n' K => g x ρ' fun ρ'' => b { E with nx := K, ct := K, bk := E.nx } ds' ρ'' n') E.nx
theorem dgs_for {tg iter : Expr} {body : List Stmt} {s : DSrc} {t : TG} {g : DTG} {sl : List Nat} {b : DTGn} {pos : Pos} (hp : PassesOwn (model X.prog X.w) X.A X.env X.xe) (hc : X.calm = true) (hi : DI Y X tg iter s) (hg : DG X tg t g sl) (hb : DGSs Y X body b)
    (hs : ∀ x, foldedSetIterable iter X.env x = pure x := by intro _; rfl) : DGS Y X (.For tg iter body [] pos) (dGFor s g b) :=
  gs_imp (gs_for hp hc hi hg.1 hb hs) fun D ys σ H ⟨Z, F, ρ, n, E, ds, r, hy, ht, k⟩ => ⟨Z, F, ρ, n, _, r, ht, fun xs n1 F1 H1 J ⟨⟨I, h0, hstep, hend⟩⟩ g1 s1 d1 w1 => by
    have r1 := r.step g1 s1 d1
    refine ⟨fun i m ys σ H => m = xs.length - i ∧ i ≤ xs.length ∧ ∃ F' ρ' n' ds', SR Y X.K { Z with F0 := F1 } F' H σ ρ' n' ∧ Rps X.K F' ds' ys ∧ I i ds' ρ' n', ⟨xs.length, by simp, Nat.zero_le _, F1, ρ, n1, ds, r1.base, hy.mono g1.sF, h0⟩, ?_⟩
    rintro i m ys2 σ2 H2 ⟨rfl, hi, F2, ρ2, n2, ds2, r2, y2, h2⟩
    have sF : Same F1 F2 := r2.b.gF
    by_cases hlt : i < xs.length
    · refine .inr ⟨w1.go i H2 (sF.trans r2.b.sub) hlt, fun ys' σ' H' => ∃ F' ρ' n' ds', SR Y X.K { Z with F0 := F1 } F' H' σ' ρ' n' ∧ Rps X.K F' ds' ys' ∧ I (i + 1) ds' ρ' n', fun ys' σ' H' q => ⟨xs.length - (i + 1), by omega, rfl, hlt, q⟩, fun v H3 hyd => ?_⟩
      obtain ⟨x, hx⟩ : ∃ x, xs[i]? = some x := ⟨xs[i], by simp [hlt]⟩
      obtain ⟨F3, g3, s3, r3⟩ := w1.use sF r2.b.sub hyd hx
      have r2' := r2.step g3.gr s3 (g3.dk r2.b)
      refine hg.2.im _ _ _ _ _ _ _ _ _ _ _ r2' r3 (hstep i x ds2 ρ2 n2 hx h2) fun σ4 ρ4 h4 r4 _ => ?_
      refine ⟨_, F3, ρ4, n2, _, ds2, r4, y2.mono g3.sF, h4, ⟨fun F5 H5 σ5 ρ5 n5 ds5 ys5 q r5 y5 => ⟨F5, ρ5, n5, ds5, r5, y5, q⟩, fun ds5 d n5 F5 H5 v5 ys5 q b5 v6 y5 => k.rt _ _ _ _ _ _ _ q (r1.b.back b5) v6 y5, fun F5 H5 σ5 ρ5 n5 ds5 ys5 q r5 y5 => k.nx _ _ _ _ _ _ _ q (SR.back r1.b r5) y5, fun F5 H5 σ5 ρ5 n5 ds5 ys5 q r5 y5 => ⟨F5, ρ5, n5, ds5, r5, y5, q⟩⟩⟩
    · have e : i = xs.length := by omega
      subst e
      refine .inl ⟨w1.stop _ H2 (sF.trans r2.b.sub) (Nat.le_refl _), k.nx _ _ _ _ _ _ _ (hend _ _ _ h2) (SR.back r1.b r2) y2⟩⟩
end DL
set_option maxHeartbeats 4000000
namespace DL
open PySem PySem.Spec PyProof.Rows L2
section
variable {X : Cx} {Y : Fx}
structure FnNG (P : Program) (w : World) (K : PySem.W.Frag) (mg : Str → Option Value) (base : Heap) (k : Nat) (f : Addr) (fd : FuncData) (ps : List Str) (sp : Sp) : Prop where
  len : ∀ vs H Q E, sp vs H Q E → vs.length = ps.length
  run : ∀ (A : Around) (outer : List Env) (s : Shared) (H : Hp) (args : Args) (us : List Value) (vs : List V) (Q : VK), Room k A → Env0 P w K mg base A outer s H →
    BindsTo s fd args (ps.zip us) → Vals vs us → sp vs H Q E0 → codeAny (model P w) A (.call (.ref f) args) (CR CX0 outer P w H s Q E0) s
end
section
variable {X : Cx} {Y : Fx}
theorem FnNG.mono {P : Program} {w : World} {K : PySem.W.Frag} {mg : Str → Option Value} {base : Heap} {j k : Nat} {f : Addr} {fd : FuncData} {ps : List Str} {sp : Sp} (F : FnNG P w K mg base j f fd ps sp) (h : j ≤ k) : FnNG P w K mg base k f fd ps sp :=
  ⟨F.len, fun A outer s H args us vs Q hr => F.run A outer s H args us vs Q (hr.mono h)⟩
end
section
variable {X : Cx} {Y : Fx}
theorem fnng_of {P : Program} {w : World} {K : PySem.W.Frag} {mg : Str → Option Value} {base : Heap} {x qual : Str} {st : Stmt} {f : Addr} {fd : FuncData} {N ps : List Str} {k : Nat} {sp : Sp} (F : Fun K x qual st f fd) (S : FnScope N ps (defScope st))
    (len : ∀ vs H Q E, sp vs H Q E → vs.length = ps.length)
    (hb : ∀ (cdv : Value) (A : Around) (outer : List Env) (s : Shared) (H : Hp) (vs : List V) (Q : VK), Room k (A.deeper (envOfC qual (defScope st) s.heap.objs.size f cdv)) → sp vs H Q E0 →
      ∃ t, PSs (cxOf CX0 P w K mg base N qual (defScope st) f cdv A outer s H E0).nox (defBody st) t ∧ t { nx := fun _ H' => Q .non H', rt := Q } (start N vs) H) : FnNG P w K mg base (k + 1) f fd ps sp := by
  refine ⟨len, fun A outer s H args us vs Q hr e0 hbi rv hsp => ?_⟩
  obtain ⟨oc, od, kV, doc, pm, an, cdv, ct, osl, rfl, lk, hcd⟩ := F.ex
  have hl := len _ _ _ _ hsp
  have kin : K.In s.heap := e0.mod.kin.keeps fun b o e => (e0.bs b o e).1
  have lim : s.heap.NoLimit := e0.mod.nolimit.keeps fun b o e => (e0.bs b o e).1
  refine Att.call_fn kin lim lk hcd hr.depth hbi (List.all_eq_true.mpr fun ⟨y, u⟩ hy => ?_) (fun s1 x => ?_) S.co S.gen S.kind
  · rcases S.par y (List.of_mem_zip hy).1 with q | q <;> simp [q]
  · obtain ⟨t, ht, hq⟩ := hb cdv A outer s H vs Q (hr.deeper _) hsp
    have I := inv_start (CX := CX0) (P := P) (w := w) (E := E0) S hr.hd e0 hl rv x
    refine wpAny_mono (ht.run [] s1 (start N vs) H _ (I.wish _) hq) (fun fl s' hs => ?_) fun e s' hs => hs.elim
    have fin : ∀ {σ' : L2.St} {H' : Hp} {v : V} {u : Value}, Inv (cxOf CX0 P w K mg base N qual (defScope st) f cdv A outer s H E0) [] σ' H' s' → RelV v u → Q v H' → CE outer P w H s Q u s' :=
      fun J r q => ⟨_, _, J.os, J.bare, J.base, J.hok, r, q⟩
    cases fl with
    | ret u =>
      obtain ⟨v, σ', H', J, r, q⟩ := hs
      exact fin J.unwish r q
    | next =>
      obtain ⟨σ', H', J, q⟩ := hs
      exact fin (v := V.non) (u := Value.none) J.unwish rfl q
    | brk => obtain ⟨_, _, _, q⟩ := hs; exact q.elim
    | cont => obtain ⟨_, _, _, q⟩ := hs; exact q.elim
end
section
variable {X : Cx} {Y : Fx}
theorem run_ng {mg' : Unit} {k : Nat} {f : Addr} {fd : FuncData} {ps : List Str} {sp : Sp} {pins : List (Addr × Obj)} {σ : L2.St} {H : Hp} {s : Shared} {Q : VK} {us : List Value} {vs : List V} (F : FnNG X.prog X.w X.K X.mg X.base k f fd ps sp) (hr : Room k X.A) (hb : Binds X.K fd ps [])
    (I : Inv X pins σ H s) (r : Vals vs us) (h : sp vs H Q E0) : wpAny (model X.prog X.w) X.A (call (.ref f) us) (EP X pins σ Q) X.xe s := by
  have hl : (us ++ []).length = ps.length := by rw [List.append_nil, ← r.length]; exact F.len _ _ _ _ h
  have hbi := hb s us I.kIn hl
  rw [List.append_nil] at hbi
  refine wpAny_call (codeAny_mono (F.run X.A X.stack s H ⟨us, []⟩ us vs Q hr I.env0 hbi r h) fun q s' hq => ?_)
  cases q with
  | error e => exact hq.elim
  | ok fl =>
    cases fl with
    | ret u => exact I.after hq
    | next => exact hq.elim
    | brk => exact hq.elim
    | cont => exact hq.elim
end
section
variable {X : Cx} {Y : Fx}
theorem pe_callng {k : Nat} {f : Addr} {fd : FuncData} {ps : List Str} {sp : Sp} {x : Str} {p pos : Pos} {e : Expr} {es : List Expr} {t : TA} (F : FnNG X.prog X.w X.K X.mg X.base k f fd ps sp) (hr : Room k X.A) (hg : Gl X x) (hm : X.mg x = some (.ref f)) (hk : PySem.W.keepIn X.K (.ref f) = true) (hb : Binds X.K fd ps [])
    (ha : PA X (e :: es) t) (hdb : (x == ("__debug__" : Str)) = false := by decide) (he : starEach (e :: es) X.env = (false, eval e X.env) :: starEach es X.env := by rfl) (hpl : (backTo pos (starEach es X.env)).any (·.1) = false := by rfl) :
    PE X (.Call (.Name x p) (e :: es) [] pos) (fun σ H Q => t σ H fun vs H1 => sp vs H1 Q E0) :=
  ⟨fun pins s σ H Q I h => wpAny_Call_Name_kw (ld_glob I hg hm (PySem.W.callWith_K (h₀ := X.base) I.ok.mod.kin hk (thn (ha.run pos pins s σ H _ I h) fun us s1 ⟨vs, H1, I1, r, q⟩ => ⟨I1.kIn, run_ng (mg' := ()) F hr hb I1 r q⟩) he hpl) hdb)⟩
end
section
variable {X : Cx} {Y : Fx}
theorem we_fnNG {k m : Nat} {c : DSpec} {f : Addr} {fd : FuncData} {ps : List Str} {x : Str} {p pos : Pos} {e : Expr} {es : List Expr} {t : DTA} (F : FnNG X.prog X.w X.K X.mg X.base k f fd ps (spD X.K m c)) (hr : Room k X.A) (hg : Gl X x) (hm : X.mg x = some (.ref f)) (hk : PySem.W.keepIn X.K (.ref f) = true) (hb : Binds X.K fd ps [])
    (ha : WA Y X (e :: es) t) (hdb : (x == ("__debug__" : Str)) = false := by decide) (he : starEach (e :: es) X.env = (false, eval e X.env) :: starEach es X.env := by rfl) (hpl : (backTo pos (starEach es X.env)).any (·.1) = false := by rfl) :
    WE Y X (.Call (.Name x p) (e :: es) [] pos) (dFn m c t) :=
  pe_imp (pe_callng F hr hg hm hk hb ha hdb he hpl) fun σ H Q ⟨Z, F, ρ, n, R, r, ht, k⟩ => ⟨Z, F, ρ, n, _, r, ht, fun as n1 F1 H1 vs ⟨hl, hx⟩ g1 s1 d1 w1 => by
    have b1 := r.b.step g1 s1 d1
    exact ⟨Z.δ, F1, as, n1, _, hl, w1, s1, d1, b1.dkF, hx, fun d n2 F2 H2 v h2 g2 s2 d2 w2 => k _ _ _ _ _ h2 (g1.trans g2) s2 d2 w2⟩⟩
end
section
variable {X : Cx} {Y : Fx}
theorem fndNG {P : Program} {w : World} {K : PySem.W.Frag} {mg : Str → Option Value} {base : Heap} {x qual : Str} {st : Stmt} {f : Addr} {fd : FuncData} {N ps : List Str} {k : Nat} (c : DSpec) (F : Fun K x qual st f fd) (S : FnScope N ps (defScope st))
    (hb : ∀ (cdv : Value) (A : Around) (outer : List Env) (s : Shared) (H : Hp), Room k (A.deeper (envOfC qual (defScope st) s.heap.objs.size f cdv)) → ∀ Y : Fx,
      ∃ t, DSs Y (cxOf CX0 P w K mg base N qual (defScope st) f cdv A outer s H E0).nox (defBody st) t ∧ ∀ as n R, as.length = ps.length → c as n R → t { nx := fun _ n' => R .none n', rt := R } (startR N as) n) : FnNG P w K mg base (k + 1) f fd ps (spD K ps.length c) := by
  refine fnng_of F S (fun vs H Q E ⟨δ, Fz, as, n, R, hl, w1, _⟩ => by rw [← Paired.length w1]; exact hl) fun cdv A outer s H vs Q hr ⟨δ, Fz, as, n, R, hl, w1, s1, d1, o1, hc, hk⟩ => ?_
  obtain ⟨t, h1, h2⟩ := hb cdv A outer s H hr ⟨Fz, H, δ⟩
  refine ⟨_, h1, ⟨Fz, H, δ⟩, Fz, startR N as, n, _, sr_start w1 s1 d1 o1, h2 as n R hl hc, ⟨fun F' H' σ' ρ' n' q r' => hk _ _ _ _ _ q (Base.gr o1 r'.b) r'.b.sub r'.b.dk (by simp [Rp]), fun d n' F' H' v q b q2 => hk _ _ _ _ _ q (Base.gr o1 b) b.sub b.dk q2, fun _ _ _ _ _ q _ => q.elim, fun _ _ _ _ _ q _ => q.elim⟩⟩
end
section
variable {X : Cx} {Y : Fx}
def HasNG (P : Program) (w : World) (K : PySem.W.Frag) (mg : Str → Option Value) (base : Heap) (x : Str) (k : Nat) (ps : List Str) (c : DSpec) : Prop :=
  ∃ f fd, mg x = some (.ref f) ∧ PySem.W.keepIn K (.ref f) = true ∧ Binds K fd ps [] ∧ FnNG P w K mg base k f fd ps (spD K ps.length c)
end
section
variable {X : Cx} {Y : Fx}
theorem we_hasNG {k : Nat} {c : DSpec} {ps : List Str} {x : Str} {p pos : Pos} {e : Expr} {es : List Expr} {t : DTA} (h : HasNG X.prog X.w X.K X.mg X.base x k ps c) (hr : Room k X.A) (hg : Gl X x)
    (ha : WA Y X (e :: es) t) (hdb : (x == ("__debug__" : Str)) = false := by decide) (he : starEach (e :: es) X.env = (false, eval e X.env) :: starEach es X.env := by rfl) (hpl : (backTo pos (starEach es X.env)).any (·.1) = false := by rfl) :
    WE Y X (.Call (.Name x p) (e :: es) [] pos) (dFn ps.length c t) := by
  obtain ⟨f, fd, h1, h2, h3, h4⟩ := h
  exact we_fnNG h4 hr hg h1 h2 h3 ha hdb he hpl
end
section
structure FnNX (P : Program) (w : World) (K : PySem.W.Frag) (mg : Str → Option Value) (base : Heap) (k : Nat) (f : Addr) (fd : FuncData) (ps : List Str) (sp : Sp) : Prop where
  len : ∀ vs H Q E, sp vs H Q E → vs.length = ps.length
  run : ∀ (A : Around) (outer : List Env) (s : Shared) (H : Hp) (args : Args) (us : List Value) (vs : List V) (Q : VK) (E : XK), Room k A → Env0 P w K mg base A outer s H →
    BindsTo s fd args (ps.zip us) → Vals vs us → sp vs H Q E → codeAny (model P w) A (.call (.ref f) args) (CR (L2.CX P w) outer P w H s Q E) s
end
section
variable {P : Program} {w : World} {K : PySem.W.Frag} {mg : Str → Option Value} {base : Heap} {j k : Nat} {f : Addr} {fd : FuncData} {ps : List Str} {sp : Sp}
theorem FnNG.x (F : FnNG P w K mg base k f fd ps sp) : FnNX P w K mg base k f fd ps (fun vs H Q _ => sp vs H Q E0) :=
  ⟨fun vs H Q _ h => F.len vs H Q E0 h, fun A outer s H args us vs Q E hr e0 hb rv h => codeAny_mono (F.run A outer s H args us vs Q hr e0 hb rv h) fun q s' hq => by
    cases q with
    | error e => exact hq.elim
    | ok fl =>
      cases fl with
      | ret u => exact hq
      | next => exact hq
      | brk => exact hq
      | cont => exact hq⟩
end
section
variable {P : Program} {w : World} {K : PySem.W.Frag} {mg : Str → Option Value} {base : Heap} {j k : Nat} {f : Addr} {fd : FuncData} {ps : List Str} {sp : Sp}
theorem fnnx_of {x qual : Str} {st : Stmt} {N : List Str} (F : Fun K x qual st f fd) (S : FnScope N ps (defScope st)) (len : ∀ vs H Q E, sp vs H Q E → vs.length = ps.length)
    (hb : ∀ (cdv : Value) (A : Around) (outer : List Env) (s : Shared) (H : Hp) (vs : List V) (Q : VK) (E : XK), Room k (A.deeper (envOfC qual (defScope st) s.heap.objs.size f cdv)) → sp vs H Q E →
      ∃ t, PSs (cxOf (L2.CX P w) P w K mg base N qual (defScope st) f cdv A outer s H E) (defBody st) t ∧ t { nx := fun _ H' => Q .non H', rt := Q } (start N vs) H) : FnNX P w K mg base (k + 1) f fd ps sp := by
  refine ⟨len, fun A outer s H args us vs Q E hr e0 hbi rv hsp => ?_⟩
  obtain ⟨oc, od, kV, doc, pm, an, cdv, ct, osl, rfl, lk, hcd⟩ := F.ex
  have hl := len _ _ _ _ hsp
  have kin : K.In s.heap := e0.mod.kin.keeps fun b o e => (e0.bs b o e).1
  have lim : s.heap.NoLimit := e0.mod.nolimit.keeps fun b o e => (e0.bs b o e).1
  refine Att.call_fn kin lim lk hcd hr.depth hbi (List.all_eq_true.mpr fun ⟨y, u⟩ hy => ?_) (fun s1 x => ?_) S.co S.gen S.kind
  · rcases S.par y (List.of_mem_zip hy).1 with q | q <;> simp [q]
  · obtain ⟨t, ht, hq⟩ := hb cdv A outer s H vs Q E (hr.deeper _) hsp
    have I := inv_start (CX := L2.CX P w) (P := P) (w := w) (E := E) S hr.hd e0 hl rv x
    refine wpAny_mono (ht.run [] s1 (start N vs) H _ I hq) (fun fl s' hs => ?_) fun e s' hs => hs
    have fin : ∀ {σ' : L2.St} {H' : Hp} {v : V} {u : Value}, Inv (cxOf (L2.CX P w) P w K mg base N qual (defScope st) f cdv A outer s H E) [] σ' H' s' → RelV v u → Q v H' → CE outer P w H s Q u s' :=
      fun J r q => ⟨_, _, J.os, J.bare, J.base, J.hok, r, q⟩
    cases fl with
    | ret u =>
      obtain ⟨v, σ', H', J, r, q⟩ := hs
      exact fin J r q
    | next =>
      obtain ⟨σ', H', J, q⟩ := hs
      exact fin (v := V.non) (u := Value.none) J rfl q
    | brk => obtain ⟨_, _, _, q⟩ := hs; exact q.elim
    | cont => obtain ⟨_, _, _, q⟩ := hs; exact q.elim
end
section
variable {X : Cx} {k : Nat} {f : Addr} {fd : FuncData} {ps : List Str} {sp : Sp}
theorem runn {pins : List (Addr × Obj)} {σ : L2.St} {H : Hp} {s : Shared} {Q : VK} {E : XK} {us : List Value} {vs : List V} (F : FnNX X.prog X.w X.K X.mg X.base k f fd ps sp) (hr : Room k X.A) (hb : Binds X.K fd ps [])
    (hx : PassesAt (L2.CX X.prog X.w) X σ E) (I : Inv X pins σ H s) (r : Vals vs us) (h : sp vs H Q E) : wpAny (model X.prog X.w) X.A (call (.ref f) us) (EP X pins σ Q) X.xe s := by
  have hl : (us ++ []).length = ps.length := by rw [List.append_nil, ← r.length]; exact F.len _ _ _ _ h
  have hbi := hb s us I.kIn hl
  rw [List.append_nil] at hbi
  refine wpAny_call (codeAny_mono (F.run X.A X.stack s H ⟨us, []⟩ us vs Q E hr I.env0 hbi r h) fun q s' hq => ?_)
  cases q with
  | error e => exact hx pins H s e s' I hq
  | ok fl =>
    cases fl with
    | ret u => exact I.after hq
    | next => exact hq.elim
    | brk => exact hq.elim
    | cont => exact hq.elim
end
section
theorem fndN {P : Program} {w : World} {K : PySem.W.Frag} {mg : Str → Option Value} {base : Heap} {x qual : Str} {st : Stmt} {f : Addr} {fd : FuncData} {N ps : List Str} {k : Nat} (c : DSpecX) (F : Fun K x qual st f fd) (S : FnScope N ps (defScope st))
    (hb : ∀ (cdv : Value) (A : Around) (outer : List Env) (s : Shared) (H : Hp) (Eh : XK), Room k (A.deeper (envOfC qual (defScope st) s.heap.objs.size f cdv)) → ∀ (Y : Fx) (E : Ex → Wo → Prop), WOk Y K (fun ex _ n => E ex n) (fun cls d _ H => Eh cls d H) →
      Takes (cxOf (L2.CX P w) P w K mg base N qual (defScope st) f cdv A outer s H Eh) (fun cls d _ H => Eh cls d H) →
      ∃ t, DSs Y (cxOf (L2.CX P w) P w K mg base N qual (defScope st) f cdv A outer s H Eh) (defBody st) t ∧ ∀ as n R, as.length = ps.length → c as n R E → t { nx := fun _ n' => R .none n', rt := R } (startR N as) n) : FnNX P w K mg base (k + 1) f fd ps (spDX K ps.length c) := by
  refine fnnx_of F S (fun vs H Q E ⟨δ, Fz, as, n, R, E', hl, w1, _⟩ => by rw [← Paired.length w1]; exact hl) fun cdv A outer s H vs Q Eh hr ⟨δ, Fz, as, n, R, E, hl, w1, s1, d1, o1, hc, hk, hx⟩ => ?_
  obtain ⟨t, h1, h2⟩ := hb cdv A outer s H Eh hr ⟨Fz, H, δ⟩ E (fun ex ρ n' F' H' σ cls d Z he r hd => hx _ _ _ _ _ _ he r.gr r.b.sub (by have q := r.b.dk; rw [r.de] at q; exact q) hd) (takes_of rfl rfl rfl rfl)
  exact ⟨_, h1, ⟨Fz, H, δ⟩, Fz, startR N as, n, _, sr_start w1 s1 d1 o1, h2 as n R hl hc, ⟨fun F' H' σ' ρ' n' q r' => hk _ _ _ _ _ q (Base.gr o1 r'.b) r'.b.sub r'.b.dk (by simp [Rp]), fun d n' F' H' v q b q2 => hk _ _ _ _ _ q (Base.gr o1 b) b.sub b.dk q2, fun _ _ _ _ _ q _ => q.elim, fun _ _ _ _ _ q _ => q.elim⟩⟩
end
section
variable {X : Cx} {Y : Fx}
def HasMN (P : Program) (w : World) (K : PySem.W.Frag) (mg : Str → Option Value) (base : Heap) (PC : Addr → Prop) (m : Str) (k : Nat) (ps : List Str) (c : Addr → DSpecX) : Prop :=
  ∀ C, PC C → Cls K C ∧ ∃ g fd, Meth K C m g ∧ Binds K fd ps [] ∧ FnNX P w K mg base k g fd ps (spDX K ps.length (c C))
end
section
variable {X : Cx} {Y : Fx}
theorem we_methN {pl : Sem Bool} {k : Nat} {PC : Addr → Prop} {m : Str} {ps : List Str} {c : Addr → DSpecX} {dw : DW} {W : WX} {o e : Expr} {es : List Expr} {to : DTE} {t : DTA} {apos pos : Pos} (tk : Takes X W) (ok : WOk Y X.K dw W) (HM : HasMN X.prog X.w X.K X.mg X.base PC m k ps c) (hr : Room k X.A)
    (ho : WE Y X o to) (ha : WA Y X (e :: es) t)
    (hst : starEach (e :: es) X.env = (false, eval e X.env) :: starEach es X.env := by rfl) (hpl : (backTo pos (starEach es X.env)).any (·.1) = false := by rfl)
    (ht : eval (.Call (.Attribute o m apos) (e :: es) [] pos) X.env = (do
      let ov ← eval o X.env
      standAt apos.atName
      let (f, first) ← holding [ov] (getMethod ov m pl)
      callWith pos f first (backTo pos (starEach (e :: es) X.env)) (backToKw pos (keywordEach [] X.env))) := by rfl) :
    WE Y X (.Call (.Attribute o m apos) (e :: es) [] pos) (dMeth PC m ps.length c dw to t) :=
  ⟨fun pins s σ H Q I ⟨Z, F, ρ, n, R, r, hto, kk⟩ => by
    refine PySem.W.methodCall_KW (pl := pl) (thn (ho.run pins s σ H (fun v H1 => ∃ x n1 F1, _ ∧ Gr Z.δ F H F1 H1 ∧ Same F1 H1 ∧ Z.δ.at_ X.K F1 H1 n1 ∧ VR X.K Z.δ F1 H1 x v) I ⟨Z, F, ρ, n, _, r, hto, fun x n1 F1 H1 v hx g1 s1 d1 w1 => ⟨x, n1, F1, hx, g1, s1, d1, w1⟩⟩) fun u s1 ⟨v, H1, I1, rx, x, n1, F1, ⟨a, ob, ex, hob, hPC, hl, hta⟩, g1, s1', d1, w1⟩ => ?_) ht
    subst ex
    obtain rfl := VR.ref w1
    obtain rfl : u = Value.ref a := rx
    obtain ⟨_, dx, vs, h2, h3⟩ := d1.2.1 a ob hob
    obtain ⟨hcl, g, fd, hM, hB, hF⟩ := HM _ hPC
    refine getmeth_ok I1 h2 hcl hM (h3.lookup_none hl) ?_
    have r1 := r.step g1 s1' d1
    refine PySem.W.callWith_K (first := [.ref a]) (h₀ := X.base) I.ok.mod.kin hM.kp (thn (ha.run pos pins s1 σ H1 (fun vs H2 => spDX X.K ps.length (c ob.C) (.ref a :: vs) H2 Q (L2.WE W σ)) I1 ⟨Z, F1, ρ, n1, _, r1, hta, fun as n2 F2 H2 vs2 ⟨hlen, hx⟩ g2 s2 d2 w2 => ?_⟩) fun us s2 ⟨vs, H2, I2, rr, q2⟩ => ⟨I2.kIn, runn (us := .ref a :: us) (vs := .ref a :: vs) hF hr hB (passAt tk σ) I2 (.cons rfl rr) q2⟩) hst hpl
    have r2 := r1.step g2 s2 d2
    exact ⟨Z.δ, F2, .dat (refD a) :: as, n2, _, _, hlen, .cons vr_ref w2, s2, d2, r2.b.dkF, hx, fun d n3 F3 H3 v h4 g3 s3 d3 w3 => kk _ _ _ _ _ h4 ((g1.trans g2).trans g3) s3 d3 w3, fun ex n3 F3 H3 cls d h4 g3 s3 d3 w3 => ok _ _ _ _ _ _ _ _ _ h4 (r2.step g3 s3 d3) w3⟩⟩
end
section
def HasXN (P : Program) (w : World) (K : PySem.W.Frag) (mg : Str → Option Value) (base : Heap) (x : Str) (k : Nat) (ps : List Str) (c : DSpecX) : Prop :=
  ∃ f fd, mg x = some (.ref f) ∧ PySem.W.keepIn K (.ref f) = true ∧ Binds K fd ps [] ∧ FnNX P w K mg base k f fd ps (spDX K ps.length c)
end
section
variable {X : Cx} {Y : Fx} {k : Nat} {f : Addr} {fd : FuncData} {ps : List Str} {sp : Sp} {W : WX} {dw : DW} {PC : Addr → Prop} {m : Str} {c : Addr → DSpecX}
def HasMDN (P : Program) (w : World) (K : PySem.W.Frag) (mg : Str → Option Value) (base : Heap) (PC : Addr → Prop) (m : Str) (k : Nat) (ps : List Str) (c : Addr → DSpecX) : Prop :=
  ∀ C, PC C → Cls K C ∧ ∃ g fd ds, Meth K C m g ∧ Vals [V.non] ds ∧ Binds K fd ps ds ∧ FnNX P w K mg base k g fd ps (spDX K ps.length (c C))
end
section
variable {X : Cx} {Y : Fx} {k : Nat} {f : Addr} {fd : FuncData} {ps : List Str} {sp : Sp} {W : WX} {dw : DW} {PC : Addr → Prop} {m : Str} {c : Addr → DSpecX}
def HasMKN (P : Program) (w : World) (K : PySem.W.Frag) (mg : Str → Option Value) (base : Heap) (PC : Addr → Prop) (m kw : Str) (k : Nat) (ps : List Str) (c : Addr → DSpecX) : Prop :=
  ∀ C, PC C → Cls K C ∧ ∃ g fd, Meth K C m g ∧ KBn K fd ps (ps.length - 1) [kw] (fun us ws => us ++ ws) (fun us ws => us ++ ws) ∧ FnNX P w K mg base k g fd ps (spDX K ps.length (c C))
end
section
variable {P : Program} {w : World} {K : PySem.W.Frag} {mg : Str → Option Value} {base : Heap} {k : Nat} {f : Addr} {fd : FuncData} {ps : List Str} {sp : Sp}
theorem FnNG.g (F : FnNG P w K mg base k f fd ps sp) : FnG P w K mg base k f fd ps sp := ⟨F.len, fun A outer s H args us vs Q _ hr => F.run A outer s H args us vs Q hr⟩
theorem FnNX.x (F : FnNX P w K mg base k f fd ps sp) : FnGX P w K mg base k f fd ps sp := ⟨F.len, fun A outer s H args us vs Q E _ hr => F.run A outer s H args us vs Q E hr⟩
theorem FnNX.mono {j : Nat} (F : FnNX P w K mg base j f fd ps sp) (h : j ≤ k) : FnNX P w K mg base k f fd ps sp := ⟨F.len, fun A outer s H args us vs Q E hr => F.run A outer s H args us vs Q E (hr.mono h)⟩
end
end DL
set_option maxHeartbeats 4000000
namespace DL
open PySem PySem.Spec PyProof.Rows L2
/-- a generator def's contract: R, of all that is handed out -/
abbrev DSpecG := List Dv → Wo → (List PyData → Wo → Prop) → (Ex → Wo → Prop) → Prop
def spDG (K : PySem.W.Frag) (m : Nat) (c : DSpecG) : SpG := fun vs H Q Eh => ∃ δ F as n R E, as.length = m ∧ VRs K δ F H as vs ∧ Same F H ∧ δ.at_ K F H n ∧ (∀ a, a ∈ δ.own → F a = none ∧ H a ≠ none) ∧ c as n R E ∧
  (∀ ds n' F' H' ys, R ds n' → Gr δ F H F' H' → Same F' H' → δ.at_ K F' H' n' → Rps K F' ds ys → Q ys H') ∧
  ∀ ex n' F' H' cls d, E ex n' → Gr δ F H F' H' → Same F' H' → δ.at_ K F' H' n' → ExR K F' ex cls d → Eh cls d H'
theorem takesG {X : Cx} {E : XK} (hs : X.stack = X.env :: X.outer) (hf : X.env.frame = some X.env.locals) (hex : X.ex = []) {E₁ : Value → Shared → Prop}
    (hx : X.xe = fun e s' => wpAny (model X.prog X.w) X.A (leaving X.env e) (fun _ s'' => L2.CX X.prog X.w X.outer X.H_0 X.s_0 E e s'' ∧ ∀ p ∈ X.pn, s''.heap.get? p.1 = some p.2) E₁ s') : Takes X (fun cls d _ H => E cls d H) := fun u s' x => by
  rw [hx]
  exact XE.leaveG (W := fun cls d _ H => E cls d H) (E := E) hs hf hex (fun _ _ _ _ h => h) x
/-- THE RULE for a generator def: its body over data -/
theorem gfnD {P : Program} {w : World} {K : PySem.W.Frag} {mg : Str → Option Value} {base : Heap} {x qual : Str} {st : Stmt} {f : Addr} {fd : FuncData} {N ps : List Str} {k : Nat} (c : DSpecG) (F : Fun K x qual st f fd) (S : GScope N ps (defScope st))
    (hb : ∀ (cdv : Value) (A : Around) (outer : List Env) (s : Shared) (H : Hp) (Eh : XK) (pn : List (Addr × Obj)), Room k (A.deeper (envOfC qual (defScope st) s.heap.objs.size f cdv)) → ∀ (Y : Fx) (E : Ex → Wo → Prop), WOk Y K (fun ex _ n => E ex n) (fun cls d _ H => Eh cls d H) →
      Takes (gcxOf P w K mg base N qual (defScope st) f cdv A outer s H Eh pn) (fun cls d _ H => Eh cls d H) →
      ∃ t, DGSs Y (gcxOf P w K mg base N qual (defScope st) f cdv A outer s H Eh pn) (defBody st) t ∧ ∀ as n R, as.length = ps.length → c as n R E → t { nx := fun ds _ n' => R ds n', rt := fun ds d n' => d = .none ∧ R ds n' } [] (startR N as) n) : GFn P w K mg base (k + 1) f fd ps (spDG K ps.length c) := by
  obtain ⟨oc, od, kV, doc, pm, an, cdv, ct, osl, rfl, lk, hcd⟩ := F.ex
  refine gfn_of lk hcd S (fun vs H Q E ⟨δ, Fz, as, n, R, E', hl, w1, _⟩ => by rw [← Paired.length w1]; exact hl) fun A outer s H vs Q Eh pn hr ⟨δ, Fz, as, n, R, E, hl, w1, s1, d1, o1, hc, hk, hx⟩ => ?_
  obtain ⟨t, h1, h2⟩ := hb cdv A outer s H Eh pn hr ⟨Fz, H, δ⟩ E (fun ex ρ n' F' H' σ cls d Z he r hd => hx _ _ _ _ _ _ he r.gr r.b.sub (by have q := r.b.dk; rw [r.de] at q; exact q) hd) (takesG rfl rfl rfl rfl)
  refine ⟨_, h1, ⟨Fz, H, δ⟩, Fz, startR N as, n, _, [], sr_start w1 s1 d1 o1, rps_nil, h2 as n R hl hc, ⟨fun F' H' σ' ρ' n' ds ys q r' hy => hk _ _ _ _ _ q (Base.gr o1 r'.b) r'.b.sub r'.b.dk hy, fun ds d n' F' H' v ys q b q2 hy => ⟨?_, hk _ _ _ _ _ q.2 (Base.gr o1 b) b.sub b.dk hy⟩, fun _ _ _ _ _ _ _ q _ _ => q.elim, fun _ _ _ _ _ _ _ q _ _ => q.elim⟩⟩
  obtain ⟨rfl, _⟩ := q
  simpa [Rp] using q2
end DL
set_option maxHeartbeats 4000000
namespace DL
open PySem PySem.Spec PyProof.Rows L2
variable {X : Cx} {Y : Fx} {k : Nat} {f : Addr} {fd : FuncData} {ps : List Str} {PC : Addr → Prop} {m : Str} {c : Addr → DSpecG}
/-- an expression whose value is a generator that has not begun; R: of all that it will hand out -/
abbrev DGn := Rho → Wo → (List PyData → Wo → Prop) → Prop
def upGn (Y : Fx) (K : PySem.W.Frag) (t : DGn) : TGen := fun σ H cont => ∃ Z F ρ n R, SR Y K Z F H σ ρ n ∧ t ρ n R ∧
  ∀ ds n' F' H' ys, R ds n' → Gr Z.δ F H F' H' → Same F' H' → Z.δ.at_ K F' H' n' → Rps K F' ds ys → cont ys H'
def HasMG (P : Program) (w : World) (K : PySem.W.Frag) (mg : Str → Option Value) (base : Heap) (PC : Addr → Prop) (m : Str) (k : Nat) (ps : List Str) (c : Addr → DSpecG) : Prop :=
  ∀ C, PC C → Cls K C ∧ ∃ g fd ds, Meth K C m g ∧ Vals [V.non] ds ∧ Binds K fd ps ds ∧ GFn P w K mg base k g fd ps (spDG K ps.length (c C))
def mListG (t : DGn) : DTM := fun ρ n R => t ρ n R
end DL
set_option maxHeartbeats 4000000
namespace DL
open PySem PySem.Spec PyProof.Rows L2
variable {X : Cx} {Y : Fx} {k : Nat} {f : Addr} {fd : FuncData} {ps : List Str} {PC : Addr → Prop} {m : Str} {c : Addr → DSpecG} {sp : SpG}
def HasMGK (P : Program) (w : World) (K : PySem.W.Frag) (mg : Str → Option Value) (base : Heap) (PC : Addr → Prop) (m kw : Str) (k : Nat) (ps : List Str) (c : Addr → DSpecG) : Prop :=
  ∀ C, PC C → Cls K C ∧ ∃ g fd, Meth K C m g ∧ KBn K fd ps (ps.length - 1) [kw] (fun us ws => us ++ ws) (fun us ws => us ++ ws) ∧ GFn P w K mg base k g fd ps (spDG K ps.length (c C))
theorem run_gfnK {kw : Str} {pins : List (Addr × Obj)} {σ : L2.St} {H : Hp} {s : Shared} {cont : List V → Hp → Prop} {E : XK} {E1 : Value → Shared → Prop} {us ws : List Value} {vs zs : List V} (F : GFn X.prog X.w X.K X.mg X.base k f fd ps sp) (hr : Room k X.A)
    (hb : KBn X.K fd ps (ps.length - 1) [kw] (fun us ws => us ++ ws) (fun us ws => us ++ ws)) (I : Inv X pins σ H s) (r : Vals vs us) (rz : Vals zs ws) (hz : zs.length = 1) (h : sp (vs ++ zs) H cont E) :
    wpAny (model X.prog X.w) X.A (call (.ref f) us ([kw].zip ws)) (fun u s' => ∃ H1 sc ex, Inv X pins σ H1 sc ∧ ExOk X pins ex ∧ GMade X.prog X.w k X.stack H1 sc ex cont E u s') E1 s := by
  have r2 : Vals (vs ++ zs) (us ++ ws) := hb.rel r rz
  have hl := F.len _ _ _ _ h
  rw [List.length_append, hz] at hl
  refine wpAny_call (codeAny_mono (F.run X.A X.stack s H ⟨us, [kw].zip ws⟩ (us ++ ws) (vs ++ zs) cont E hr I.env0 (hb.to s us ws I.kIn (by rw [← r.length]; omega) (by rw [← rz.length]; exact hz)) r2 h) fun q s' hq => ?_)
  cases q with
  | error e => exact hq.elim
  | ok fl =>
    cases fl with
    | ret u => exact ⟨H, s, [], I, .nil, hq⟩
    | next => exact hq.elim
    | brk => exact hq.elim
    | cont => exact hq.elim
section
variable {P : Program} {w : World} {K : PySem.W.Frag} {mg : Str → Option Value} {base : Heap} {PC : Addr → Prop} {C : Addr} {nm m kw : Str} {k : Nat} {ps : List Str}
theorem HasNG.g {c : DSpec} (h : HasNG P w K mg base nm k ps c) : Has P w K mg base nm k ps c := let ⟨f, fd, h1, h2, h3, h4⟩ := h; ⟨f, fd, h1, h2, h3, h4.g⟩
theorem HasXN.x {c : DSpecX} (h : HasXN P w K mg base nm k ps c) : HasX P w K mg base nm k ps c := let ⟨f, fd, h1, h2, h3, h4⟩ := h; ⟨f, fd, h1, h2, h3, h4.x⟩
theorem HasMN.x {c : Addr → DSpecX} (h : HasMN P w K mg base PC m k ps c) : HasM P w K mg base PC m k ps c := fun C hC => let ⟨h0, g, fd, h1, h2, h3⟩ := h C hC; ⟨h0, g, fd, h1, h2, h3.x⟩
theorem HasMDN.x {c : Addr → DSpecX} (h : HasMDN P w K mg base PC m k ps c) : HasMD P w K mg base PC m k ps c := fun C hC => let ⟨h0, g, fd, ds, h1, h2, h3, h4⟩ := h C hC; ⟨h0, g, fd, ds, h1, h2, h3, h4.x⟩
theorem HasMKN.x {c : Addr → DSpecX} (h : HasMKN P w K mg base PC m kw k ps c) : HasMK P w K mg base PC m kw k ps c := fun C hC => let ⟨h0, g, fd, h1, h2, h3⟩ := h C hC; ⟨h0, g, fd, h1, h2, h3.x⟩
end
def dGCut (t u : DTGn) : DTGn := fun E ds ρ n => ∃ N : List PyData → Rho → Wo → Prop, t { E with nx := N } ds ρ n ∧ ∀ ds' ρ' n', N ds' ρ' n' → u E ds' ρ' n'
theorem dgss_cut {st : Stmt} {rest : List Stmt} {t u : DTGn} (h1 : DGS Y X st t) (h2 : DGSs Y X rest u) : DGSs Y X (st :: rest) (dGCut t u) :=
  gss_imp (gss_cons h1 h2) fun D ys σ H ⟨Z, F, ρ, n, E, ds, r, hy, ⟨N, ht, hu⟩, k⟩ => ⟨Z, F, ρ, n, _, ds, r, hy, ht, ⟨fun F' H' σ' ρ' n' ds' ys' h r' y' => ⟨Z, F', ρ', n', E, ds', r', y', hu _ _ _ h, k⟩, k.rt, k.bk, k.ct⟩⟩
end DL
set_option maxHeartbeats 0
namespace DL
open PySem PySem.Spec PyProof.Rows L2
def sizesD (xs : List Int) : PyData := .tuple (xs.map .int)
def hallD (feet pairs : List Int) : PyData := .tuple [sizesD feet, sizesD pairs]
/-- sizes from 1 to h -/
abbrev In1 (h : Int) (xs : List Int) : Prop := ∀ x ∈ xs, 1 ≤ x ∧ x ≤ h
theorem pick2 {a b : PyData} {r : Int} (h0 : 0 ≤ r) (h1 : r < 2) : ∃ d, atI [a, b] r = some d ∧ (d = a ∨ d = b) := by
  obtain ⟨d, h, hm⟩ := atI_mem (xs := [a, b]) h0 (by simpa using h1)
  exact ⟨d, h, by simpa using hm⟩
theorem pick3 {a b c : PyData} {r : Int} (h0 : 0 ≤ r) (h1 : r < 3) : ∃ d, atI [a, b, c] r = some d ∧ (d = a ∨ d = b ∨ d = c) := by
  obtain ⟨d, h, hm⟩ := atI_mem (xs := [a, b, c]) h0 (by simpa using h1)
  exact ⟨d, h, by simpa using hm⟩
/-- numbers as they were drawn -/
theorem ints_of {h : Int} : ∀ {ys : List PyData}, (∀ y ∈ ys, ∃ z : Int, y = .int z ∧ 1 ≤ z ∧ z ≤ h) → ∃ zs : List Int, ys = zs.map .int ∧ In1 h zs
  | [], _ => ⟨[], rfl, fun _ q => (by cases q)⟩
  | y :: ys, q => by
    obtain ⟨z, rfl, h1, h2⟩ := q y (by simp)
    obtain ⟨zs, rfl, h3⟩ := ints_of (ys := ys) fun x hx => q x (by simp [hx])
    exact ⟨z :: zs, rfl, fun x hx => by
      rcases List.mem_cons.mp hx with rfl | hx
      · exact ⟨h1, h2⟩
      · exact h3 x hx⟩
theorem nat20 {x : Int} {h : Int} (hh : h ≤ 10 ^ 6) (q : 1 ≤ x ∧ x ≤ h) : x.natAbs < 2 ^ 20 := by omega
theorem tame_hall {h : Int} {feet pairs : List Int} (hh : h ≤ 10 ^ 6) (h1 : In1 h feet) (h2 : In1 h pairs) (l1 : feet.length ≤ 40) (l2 : pairs.length ≤ 40) : Tame 3000 2 (hallD feet pairs) := by
  have a := tame_tuple (tame_ints (ns := feet) (m := 20) (fun n hn => nat20 hh (h1 n hn)) (by decide) (by decide)) (l := 40) (by rw [List.length_map]; exact l1)
  have b := tame_tuple (tame_ints (ns := pairs) (m := 20) (fun n hn => nat20 hh (h2 n hn)) (by decide) (by decide)) (l := 40) (by rw [List.length_map]; exact l2)
  refine (tame_tuple (m := 1003) (k := 1) (ds := [sizesD feet, sizesD pairs]) (l := 2) (fun d hd => ?_) (by show 2 ≤ 2; exact Nat.le_refl 2)).mono (by decide) (by decide)
  simp only [List.mem_cons, List.not_mem_nil, or_false] at hd
  rcases hd with rfl | rfl
  · exact a
  · exact b
theorem map_get {α : Type} {xs : List α} {enc : α → PyData} {k : Nat} {x : PyData} (h : (xs.map enc)[k]? = some x) : ∃ z, xs[k]? = some z ∧ x = enc z := by
  rw [List.getElem?_map] at h
  obtain ⟨z, h1, h2⟩ := Option.map_eq_some_iff.mp h
  exact ⟨z, h1, h2.symm⟩
theorem tame_two {a b : Int} (ha : a.natAbs < 2 ^ 20) (hb : b.natAbs < 2 ^ 20) : Tame 53 1 (.tuple [.int a, .int b]) :=
  tame_tuple (m := 23) (k := 0) (l := 2) (fun d hd => by
    simp only [List.mem_cons, List.not_mem_nil, or_false] at hd
    rcases hd with rfl | rfl
    · exact tame_int (m := 20) ha (by decide) (by decide)
    · exact tame_int (m := 20) hb (by decide) (by decide)) (by show 2 ≤ 2; exact Nat.le_refl 2)
/-- the item at a place -/
def getI (xs : List Int) (j : Int) : Int := (xs[j.toNat]?).getD 0
def intsN (m : Nat) : List Int := (List.range m).map fun (k : Nat) => (k : Int)
theorem mem_intsN {m : Nat} {j : Int} (h : j ∈ intsN m) : 0 ≤ j ∧ j < m := by
  obtain ⟨k, hk, rfl⟩ := List.mem_map.mp h
  have := List.mem_range.mp hk
  omega
/-- one guest of a run by a list of liking -/
def stepF (feet pairs : List Int) (s : List Int × List (Int × Int)) (g : Int) : List Int × List (Int × Int) :=
  match s.1.filter fun j => decide (getI feet g ≤ getI pairs j) with
  | [] => (s.1, s.2 ++ [(g, -1)])
  | j :: _ => (s.1.erase j, s.2 ++ [(g, j)])
/-- the best of those seen -/
def bestS (key : Int → Int) (fits : Int → Bool) (b j : Int) : Int := if fits j = true then (if b = -1 ∨ key j < key b then j else b) else b
def stepL (key : Int → Int) (feet pairs : List Int) (s : List Int × List (Int × Int)) (g : Int) : List Int × List (Int × Int) :=
  (s.1.filter fun o => decide (o ≠ s.1.foldl (bestS key fun j => decide (getI feet g ≤ getI pairs j)) (-1)), s.2 ++ [(g, s.1.foldl (bestS key fun j => decide (getI feet g ≤ getI pairs j)) (-1))])
def ruled (key : Int → Int) (feet pairs order : List Int) : List (Int × Int) := (order.foldl (stepL key feet pairs) (intsN pairs.length, [])).2
theorem fold_take {α β : Type} {f : β → α → β} {b : β} {xs : List α} {k : Nat} {x : α} (h : xs[k]? = some x) : (xs.take (k + 1)).foldl f b = f ((xs.take k).foldl f b) x := by
  rw [List.take_add_one, h, List.foldl_append]; rfl
/-- what is best -/
def Lx (key : Int → Int) (a b : Int) : Prop := key a < key b ∨ (key a = key b ∧ a ≤ b)
theorem best_is (key : Int → Int) (fits : Int → Bool) : ∀ (l : List Int) (b : Int), (∀ x ∈ l, 0 ≤ x) → l.Pairwise (· < ·) → (b = -1 ∨ (0 ≤ b ∧ fits b = true ∧ ∀ x ∈ l, b < x)) →
    let r := l.foldl (bestS key fits) b
    (r = -1 ∧ b = -1 ∧ ∀ x ∈ l, fits x = false) ∨ ((r = b ∨ r ∈ l) ∧ 0 ≤ r ∧ fits r = true ∧ (∀ x ∈ l, fits x = true → Lx key r x) ∧ (b ≠ -1 → Lx key r b))
  | [], b, _, _, hb => by
    rcases hb with rfl | ⟨h1, h2, _⟩
    · exact .inl ⟨rfl, rfl, fun _ h => nomatch h⟩
    · exact .inr ⟨.inl rfl, h1, h2, fun _ h => (nomatch h), fun _ => .inr ⟨rfl, Int.le_refl _⟩⟩
  | y :: l, b, hn, hp, hb => by
    have hy : 0 ≤ y := hn y (by simp)
    obtain ⟨p1, p2⟩ := List.pairwise_cons.mp hp
    have hb' : bestS key fits b y = -1 ∨ (0 ≤ bestS key fits b y ∧ fits (bestS key fits b y) = true ∧ ∀ x ∈ l, bestS key fits b y < x) := by
      unfold bestS
      by_cases f : fits y = true
      · rw [if_pos f]
        by_cases c : b = -1 ∨ key y < key b
        · rw [if_pos c]; exact .inr ⟨hy, f, p1⟩
        · rw [if_neg c]
          rcases hb with rfl | ⟨h1, h2, h3⟩
          · exact absurd (.inl rfl) c
          · exact .inr ⟨h1, h2, fun x hx => h3 x (by simp [hx])⟩
      · rw [if_neg f]
        rcases hb with rfl | ⟨h1, h2, h3⟩
        · exact .inl rfl
        · exact .inr ⟨h1, h2, fun x hx => h3 x (by simp [hx])⟩
    have ih := best_is key fits l (bestS key fits b y) (fun x hx => hn x (by simp [hx])) p2 hb'
    show (let r := l.foldl (bestS key fits) (bestS key fits b y); _)
    simp only at ih ⊢
    rw [List.foldl_cons]
    rcases ih with ⟨e1, e2, e3⟩ | ⟨e1, e2, e3, e4, e5⟩
    · unfold bestS at e2
      by_cases f : fits y = true
      · rw [if_pos f] at e2
        by_cases c : b = -1 ∨ key y < key b
        · rw [if_pos c] at e2; omega
        · rw [if_neg c] at e2
          exact absurd (.inl e2) c
      · rw [if_neg f] at e2
        refine .inl ⟨e1, e2, fun x hx => ?_⟩
        rcases List.mem_cons.mp hx with rfl | hx
        · exact Bool.eq_false_iff.mpr f
        · exact e3 x hx
    · refine .inr ⟨?_, e2, e3, ?_, ?_⟩
      · have hq : bestS key fits b y = y ∨ bestS key fits b y = b := by
          unfold bestS
          split
          · split
            · exact .inl rfl
            · exact .inr rfl
          · exact .inr rfl
        rcases e1 with e1 | e1
        · rcases hq with hq | hq
          · exact .inr (by rw [e1, hq]; simp)
          · exact .inl (by rw [e1, hq])
        · exact .inr (by simp [e1])
      · intro x hx fx
        rcases List.mem_cons.mp hx with rfl | hx
        · have hb2 : Lx key (bestS key fits b x) x ∧ bestS key fits b x ≠ -1 := by
            unfold bestS
            rw [if_pos fx]
            by_cases c : b = -1 ∨ key x < key b
            · rw [if_pos c]; exact ⟨.inr ⟨rfl, Int.le_refl _⟩, by omega⟩
            · rw [if_neg c]
              rcases hb with rfl | ⟨h1, h2, h3⟩
              · exact absurd (.inl rfl) c
              · have := h3 x (by simp)
                have : ¬ key x < key b := fun q => c (.inr q)
                exact ⟨by unfold Lx; omega, by omega⟩
          have := e5 hb2.2
          have := hb2.1
          unfold Lx at *
          omega
        · exact e4 x hx fx
      · intro hne
        have hb2 : bestS key fits b y ≠ -1 ∧ Lx key (bestS key fits b y) b := by
          rcases hb with rfl | ⟨h1, h2, h3⟩
          · exact absurd rfl hne
          · unfold bestS
            by_cases f : fits y = true
            · rw [if_pos f]
              by_cases c : b = -1 ∨ key y < key b
              · rw [if_pos c]
                rcases c with c | c
                · exact absurd c hne
                · exact ⟨by omega, .inl c⟩
              · rw [if_neg c]; exact ⟨hne, .inr ⟨rfl, Int.le_refl _⟩⟩
            · rw [if_neg f]; exact ⟨hne, .inr ⟨rfl, Int.le_refl _⟩⟩
        have := e5 hb2.1
        have := hb2.2
        unfold Lx at *
        omega
theorem erase_filter {l : List Int} (h : l.Nodup) (j : Int) : l.erase j = l.filter fun o => decide (o ≠ j) := by
  rw [h.erase_eq_filter]
  congr 1
  funext o
  by_cases q : o = j <;> simp [q]
/-- the two ways step alike -/
theorem step_same (key : Int → Int) (feet pairs : List Int) (l1 l2 : List Int) (r : List (Int × Int)) (g : Int) (hp : l1.Perm l2) (hs : l1.Pairwise (Lx key)) (hl : l2.Pairwise (· < ·)) (hn : ∀ x ∈ l2, 0 ≤ x) :
    (stepF feet pairs (l1, r) g).2 = (stepL key feet pairs (l2, r) g).2 ∧ (stepF feet pairs (l1, r) g).1.Perm (stepL key feet pairs (l2, r) g).1 := by
  have hb := best_is key (fun j => decide (getI feet g ≤ getI pairs j)) l2 (-1) hn hl (.inl rfl)
  have nd2 : l2.Nodup := hl.imp fun h => Int.ne_of_lt h
  have nd1 : l1.Nodup := hp.nodup_iff.mpr nd2
  unfold stepF stepL
  simp only at hb ⊢
  generalize l2.foldl (bestS key fun j => decide (getI feet g ≤ getI pairs j)) (-1) = b at hb ⊢
  rcases hb with ⟨rfl, _, h3⟩ | ⟨h1, h2, h3, h4, _⟩
  · have e : (l1.filter fun j => decide (getI feet g ≤ getI pairs j)) = [] := List.filter_eq_nil_iff.mpr fun x hx => by
      rw [h3 x (hp.mem_iff.mp hx)]; exact Bool.false_ne_true
    rw [e]
    refine ⟨rfl, ?_⟩
    show l1.Perm _
    rw [List.filter_eq_self.mpr fun x hx => by have := hn x hx; simp; omega]
    exact hp
  · have hb1 : b ∈ l1 := by
      rcases h1 with q | q
      · omega
      · exact hp.mem_iff.mpr q
    have hbf : b ∈ l1.filter fun j => decide (getI feet g ≤ getI pairs j) := List.mem_filter.mpr ⟨hb1, h3⟩
    have hsf := hs.filter fun j => decide (getI feet g ≤ getI pairs j)
    cases e : l1.filter fun j => decide (getI feet g ≤ getI pairs j) with
    | nil => rw [e] at hbf; cases hbf
    | cons j js =>
      have ej : j = b := by
        rw [e] at hbf hsf
        rcases List.mem_cons.mp hbf with q | q
        · exact q.symm
        · have a1 : Lx key j b := (List.pairwise_cons.mp hsf).1 b q
          have hj : j ∈ l1.filter fun j => decide (getI feet g ≤ getI pairs j) := by rw [e]; simp
          obtain ⟨q1, q2⟩ := List.mem_filter.mp hj
          have a2 := h4 j (hp.mem_iff.mp q1) q2
          unfold Lx at a1 a2
          omega
      subst ej
      refine ⟨rfl, ?_⟩
      show (l1.erase j).Perm _
      rw [erase_filter nd1]
      exact hp.filter _
theorem run_same (key : Int → Int) (feet pairs : List Int) : ∀ (order : List Int) (l1 l2 : List Int) (r : List (Int × Int)), l1.Perm l2 → l1.Pairwise (Lx key) → l2.Pairwise (· < ·) → (∀ x ∈ l2, 0 ≤ x) →
    (order.foldl (stepF feet pairs) (l1, r)).2 = (order.foldl (stepL key feet pairs) (l2, r)).2
  | [], _, _, _, _, _, _, _ => rfl
  | g :: order, l1, l2, r, hp, hs, hl, hn => by
    obtain ⟨e1, e2⟩ := step_same key feet pairs l1 l2 r g hp hs hl hn
    rw [List.foldl_cons, List.foldl_cons]
    have sub2 : ∀ x ∈ (stepL key feet pairs (l2, r) g).1, x ∈ l2 := fun x hx => (List.mem_filter.mp hx).1
    have pw1 : (stepF feet pairs (l1, r) g).1.Pairwise (Lx key) := by
      unfold stepF
      simp only
      split
      · exact hs
      · exact hs.sublist List.erase_sublist
    have pw2 : (stepL key feet pairs (l2, r) g).1.Pairwise (· < ·) := hl.filter _
    have := run_same key feet pairs order (stepF feet pairs (l1, r) g).1 (stepL key feet pairs (l2, r) g).1 (stepF feet pairs (l1, r) g).2 e2 pw1 pw2 fun x hx => hn x (sub2 x hx)
    rw [show stepF feet pairs (l1, r) g = ((stepF feet pairs (l1, r) g).1, (stepF feet pairs (l1, r) g).2) from rfl, show stepL key feet pairs (l2, r) g = ((stepL key feet pairs (l2, r) g).1, (stepF feet pairs (l1, r) g).2) from by rw [e1]]
    exact this
theorem intsN_lt (m : Nat) : (intsN m).Pairwise (· < ·) := by
  unfold intsN
  rw [List.pairwise_map]
  exact List.pairwise_lt_range.imp fun h => by omega
/-- how many feet are less, how many pairs are at least s -/
def cF (feet : List Int) (s : Int) : Nat := (feet.filter fun x => decide (x < s)).length
def cP (pairs : List Int) (s : Int) : Nat := (pairs.filter fun x => decide (s ≤ x)).length
def IsMost (feet pairs : List Int) (m : Int) : Prop := (∃ s, m = (cF feet s : Int) + cP pairs s) ∧ ∀ s, m ≤ (cF feet s : Int) + cP pairs s
def IsFew (feet pairs : List Int) (m : Int) : Prop := (∃ s, m = (max (cF feet s) (cP pairs s) : Nat)) ∧ ∀ s, m ≤ (max (cF feet s) (cP pairs s) : Nat)
theorem IsMost.uniq {feet pairs : List Int} {m k : Int} (h : IsMost feet pairs m) (h2 : IsMost feet pairs k) : m = k := by
  obtain ⟨⟨s, e⟩, a⟩ := h
  obtain ⟨⟨s2, e2⟩, a2⟩ := h2
  have := a s2; have := a2 s
  omega
theorem IsFew.uniq {feet pairs : List Int} {m k : Int} (h : IsFew feet pairs m) (h2 : IsFew feet pairs k) : m = k := by
  obtain ⟨⟨s, e⟩, a⟩ := h
  obtain ⟨⟨s2, e2⟩, a2⟩ := h2
  have := a s2; have := a2 s
  omega
theorem cF_cons (f : Int) (fs : List Int) (s : Int) : cF (f :: fs) s = cF fs s + if f < s then 1 else 0 := by
  unfold cF
  rw [List.filter_cons]
  by_cases h : f < s
  · rw [if_pos (decide_eq_true h), if_pos h]; rfl
  · rw [if_neg (by simpa using h), if_neg h]; rfl
theorem cP_cons (p : Int) (ps : List Int) (s : Int) : cP (p :: ps) s = cP ps s + if s ≤ p then 1 else 0 := by
  unfold cP
  rw [List.filter_cons]
  by_cases h : s ≤ p
  · rw [if_pos (decide_eq_true h), if_pos h]; rfl
  · rw [if_neg (by simpa using h), if_neg h]; rfl
theorem cF_perm {a b : List Int} (h : a.Perm b) (s : Int) : cF a s = cF b s := (h.filter _).length_eq
theorem cP_perm {a b : List Int} (h : a.Perm b) (s : Int) : cP a s = cP b s := (h.filter _).length_eq
theorem cF_zero {l : List Int} {s : Int} (h : ∀ x ∈ l, s ≤ x) : cF l s = 0 := by
  unfold cF
  rw [List.filter_eq_nil_iff.mpr fun x hx => by have := h x hx; simp; omega]
  rfl
theorem cP_zero {l : List Int} {s : Int} (h : ∀ x ∈ l, x < s) : cP l s = 0 := by
  unfold cP
  rw [List.filter_eq_nil_iff.mpr fun x hx => by have := h x hx; simp; omega]
  rfl
theorem cF_le (l : List Int) (s : Int) : cF l s ≤ l.length := List.length_filter_le _ _
theorem cF_all {l : List Int} {s : Int} (h : ∀ x ∈ l, x < s) : cF l s = l.length := by
  unfold cF
  rw [List.filter_eq_self.mpr fun x hx => by simpa using h x hx]
/-- the largest pairs to the greatest feet that they fit: feet and pairs from the greatest on -/
def gr : List Int → List Int → Nat
  | [], _ => 0
  | f :: fs, [] => gr fs []
  | f :: fs, p :: ps => if f ≤ p then gr fs ps + 1 else gr fs (p :: ps)
theorem gr_le : ∀ (F P : List Int) (s : Int), gr F P ≤ cF F s + cP P s
  | [], _, _ => Nat.zero_le _
  | f :: fs, [], s => by
    have := gr_le fs [] s
    rw [cF_cons]
    unfold gr
    omega
  | f :: fs, p :: ps, s => by
    unfold gr
    by_cases h : f ≤ p
    · rw [if_pos h, cF_cons, cP_cons]
      have := gr_le fs ps s
      split <;> split <;> omega
    · rw [if_neg h, cF_cons]
      have := gr_le fs (p :: ps) s
      omega
theorem gr_ge (top : Int) : ∀ (F P : List Int), F.Pairwise (fun a b => b ≤ a) → P.Pairwise (fun a b => b ≤ a) → (∀ x ∈ F, x < top) → (∀ x ∈ P, x < top) → ∃ s, (s ∈ F ∨ s = top) ∧ cF F s + cP P s ≤ gr F P
  | [], P, _, _, _, hP => ⟨top, .inr rfl, by rw [cP_zero hP]; exact Nat.le_refl 0⟩
  | f :: fs, [], h1, h2, hF, hP => by
    obtain ⟨p1, p2⟩ := List.pairwise_cons.mp h1
    obtain ⟨s, hs, hle⟩ := gr_ge top fs [] p2 h2 (fun x hx => hF x (by simp [hx])) hP
    unfold gr
    rcases hs with hs | rfl
    · refine ⟨s, .inl (by simp [hs]), ?_⟩
      have := p1 s hs
      rw [cF_cons, if_neg (by omega)]
      exact hle
    · rw [cF_all fun x hx => hF x (by simp [hx])] at hle
      have h0 : gr fs [] ≤ 0 := by
        cases fs with
        | nil => exact Nat.le_refl 0
        | cons a l =>
          have := gr_le (a :: l) [] (((a :: l).getLast (by simp)))
          have q : cF (a :: l) ((a :: l).getLast (by simp)) = 0 := cF_zero fun x hx => by
            have hl : (a :: l) = (a :: l).dropLast ++ [(a :: l).getLast (by simp)] := (List.dropLast_concat_getLast (by simp)).symm
            rw [hl] at hx p2
            rcases List.mem_append.mp hx with z | z
            · exact (List.pairwise_append.mp p2).2.2 x z _ (by simp)
            · rw [List.mem_singleton.mp z]; simp
          rw [q] at this
          exact this
      have hl : fs.length = 0 := by omega
      have : fs = [] := List.eq_nil_of_length_eq_zero hl
      subst this
      exact ⟨f, .inl (by simp), by rw [cF_cons, if_neg (by omega)]; exact Nat.zero_le _⟩
  | f :: fs, p :: ps, h1, h2, hF, hP => by
    obtain ⟨p1, p2⟩ := List.pairwise_cons.mp h1
    obtain ⟨q1, q2⟩ := List.pairwise_cons.mp h2
    have hF' : ∀ x ∈ fs, x < top := fun x hx => hF x (by simp [hx])
    have hf := hF f (by simp)
    have hp := hP p (by simp)
    unfold gr
    by_cases h : f ≤ p
    · rw [if_pos h]
      obtain ⟨s, hs, hle⟩ := gr_ge top fs ps p2 q2 hF' fun x hx => hP x (by simp [hx])
      rcases hs with hs | rfl
      · refine ⟨s, .inl (by simp [hs]), ?_⟩
        have := p1 s hs
        rw [cF_cons, cP_cons, if_neg (by omega)]
        split <;> omega
      · refine ⟨s, .inr rfl, ?_⟩
        rw [cF_cons, cP_cons, if_neg (show ¬ s ≤ p by omega)]
        split <;> omega
    · rw [if_neg h]
      obtain ⟨s, hs, hle⟩ := gr_ge top fs (p :: ps) p2 h2 hF' hP
      rcases hs with hs | rfl
      · refine ⟨s, .inl (by simp [hs]), ?_⟩
        have := p1 s hs
        rw [cF_cons, if_neg (by omega)]
        omega
      · refine ⟨f, .inl (by simp), ?_⟩
        rw [cF_all hF'] at hle
        rw [cF_cons, if_neg (by omega), cP_zero fun x hx => by
          rcases List.mem_cons.mp hx with rfl | hx
          · omega
          · have := q1 x hx; omega]
        have := cF_le fs f
        omega
theorem most_of_gr {feet pairs F P : List Int} {top : Int} (hF : F.Perm feet) (hP : P.Perm pairs) (h1 : F.Pairwise fun a b => b ≤ a) (h2 : P.Pairwise fun a b => b ≤ a) (t1 : ∀ x ∈ feet, x < top) (t2 : ∀ x ∈ pairs, x < top) :
    IsMost feet pairs (gr F P : Nat) ∧ ∃ s, (s ∈ feet ∨ s = top) ∧ ((gr F P : Nat) : Int) = (cF feet s : Int) + cP pairs s := by
  obtain ⟨s, hs, hle⟩ := gr_ge top F P h1 h2 (fun x hx => t1 x (hF.mem_iff.mp hx)) fun x hx => t2 x (hP.mem_iff.mp hx)
  have hge := gr_le F P s
  rw [cF_perm hF, cP_perm hP] at hle hge
  refine ⟨⟨⟨s, by omega⟩, fun s' => ?_⟩, s, hs.imp (fun h => hF.mem_iff.mp h) id, by omega⟩
  have := gr_le F P s'
  rw [cF_perm hF, cP_perm hP] at this
  omega
/-- the smallest feet beside the largest pairs -/
def cz : List Int → List Int → Nat
  | f :: fs, p :: ps => cz fs ps + if f ≤ p then 1 else 0
  | _, _ => 0
theorem cz_le : ∀ (F P : List Int) (s : Int), F.Pairwise (fun a b => a ≤ b) → P.Pairwise (fun a b => b ≤ a) → cz F P ≤ max (cF F s) (cP P s)
  | [], _, _, _, _ => by unfold cz; exact Nat.zero_le _
  | f :: fs, [], _, _, _ => by unfold cz; exact Nat.zero_le _
  | f :: fs, p :: ps, s, h1, h2 => by
    obtain ⟨p1, p2⟩ := List.pairwise_cons.mp h1
    obtain ⟨q1, q2⟩ := List.pairwise_cons.mp h2
    have ih := cz_le fs ps s p2 q2
    unfold cz
    rw [cF_cons, cP_cons]
    by_cases h : f ≤ p
    · rw [if_pos h]
      by_cases a : f < s
      · rw [if_pos a]
        by_cases b : s ≤ p
        · rw [if_pos b]; omega
        · have : cP ps s = 0 := cP_zero fun x hx => by have := q1 x hx; omega
          omega
      · rw [if_neg a, if_pos (show s ≤ p by omega)]
        have : cF fs s = 0 := cF_zero fun x hx => by have := p1 x hx; omega
        omega
    · rw [if_neg h]; omega
theorem cz_ge (top : Int) : ∀ (F P : List Int), F.Pairwise (fun a b => a ≤ b) → P.Pairwise (fun a b => b ≤ a) → (∀ x ∈ P, x < top) → ∃ s, (s ∈ F ∨ s = top) ∧ max (cF F s) (cP P s) ≤ cz F P
  | [], P, _, _, hP => ⟨top, .inr rfl, by rw [cP_zero hP]; exact Nat.zero_le _⟩
  | f :: fs, [], h1, _, _ => by
    obtain ⟨p1, p2⟩ := List.pairwise_cons.mp h1
    refine ⟨f, .inl (by simp), ?_⟩
    rw [cF_zero fun x hx => by
      rcases List.mem_cons.mp hx with rfl | hx
      · exact Int.le_refl _
      · exact p1 x hx]
    exact Nat.zero_le _
  | f :: fs, p :: ps, h1, h2, hP => by
    obtain ⟨p1, p2⟩ := List.pairwise_cons.mp h1
    obtain ⟨q1, q2⟩ := List.pairwise_cons.mp h2
    unfold cz
    by_cases h : f ≤ p
    · obtain ⟨s, hs, hle⟩ := cz_ge top fs ps p2 q2 fun x hx => hP x (by simp [hx])
      refine ⟨s, hs.imp (fun h => by simp [h]) id, ?_⟩
      rw [cF_cons, cP_cons, if_pos h]
      split <;> split <;> omega
    · refine ⟨f, .inl (by simp), ?_⟩
      rw [cF_zero fun x hx => by
        rcases List.mem_cons.mp hx with rfl | hx
        · exact Int.le_refl _
        · exact p1 x hx, cP_zero fun x hx => by
        rcases List.mem_cons.mp hx with rfl | hx
        · omega
        · have := q1 x hx; omega]
      exact Nat.zero_le _
theorem few_of_cz {feet pairs F P : List Int} {top : Int} (hF : F.Perm feet) (hP : P.Perm pairs) (h1 : F.Pairwise fun a b => a ≤ b) (h2 : P.Pairwise fun a b => b ≤ a) (t2 : ∀ x ∈ pairs, x < top) :
    IsFew feet pairs (cz F P : Nat) ∧ ∃ s, (s ∈ feet ∨ s = top) ∧ ((cz F P : Nat) : Int) = (max (cF feet s) (cP pairs s) : Nat) := by
  obtain ⟨s, hs, hle⟩ := cz_ge top F P h1 h2 fun x hx => t2 x (hP.mem_iff.mp hx)
  have hge := cz_le F P s h1 h2
  rw [cF_perm hF, cP_perm hP] at hle hge
  refine ⟨⟨⟨s, by omega⟩, fun s' => ?_⟩, s, hs.imp (fun h => hF.mem_iff.mp h) id, by omega⟩
  have := cz_le F P s' h1 h2
  rw [cF_perm hF, cP_perm hP] at this
  omega
theorem atI_get {xs : List Int} {j : Int} (h0 : 0 ≤ j) (h1 : j < xs.length) : atI (xs.map PyData.int) j = some (.int (getI xs j)) := by
  have hj : j.toNat < xs.length := by omega
  unfold atI ixN getI
  rw [if_pos h0, if_pos (by rw [List.length_map]; exact h1)]
  simp [hj]
theorem nodup_len : ∀ {ms l : List Int}, ms.Nodup → (∀ x ∈ ms, x ∈ l) → ms.length ≤ l.length
  | [], _, _, _ => Nat.zero_le _
  | x :: ms, l, h, hs => by
    obtain ⟨h1, h2⟩ := List.nodup_cons.mp h
    have hx := hs x (by simp)
    have ih := nodup_len (l := l.erase x) h2 fun y hy => (List.mem_erase_of_ne (fun e => h1 (by rw [← e]; exact hy))).mpr (hs y (by simp [hy]))
    rw [List.length_erase_of_mem hx] at ih
    have := List.length_pos_of_mem hx
    rw [List.length_cons]
    omega
def ins (a : Int) : List Int → List Int
  | [] => [a]
  | b :: l => if a ≤ b then a :: b :: l else b :: ins a l
theorem ins_perm (a : Int) : ∀ l, (ins a l).Perm (a :: l)
  | [] => List.Perm.refl _
  | b :: l => by
    unfold ins
    split
    · exact List.Perm.refl _
    · exact ((ins_perm a l).cons b).trans (List.Perm.swap _ _ _)
theorem ins_sorted (a : Int) : ∀ l : List Int, l.Pairwise (· ≤ ·) → (ins a l).Pairwise (· ≤ ·)
  | [], _ => List.pairwise_singleton _ _
  | b :: l, h => by
    obtain ⟨h1, h2⟩ := List.pairwise_cons.mp h
    unfold ins
    split
    · rename_i hab
      exact List.pairwise_cons.mpr ⟨fun x hx => by
        rcases List.mem_cons.mp hx with rfl | hx
        · exact hab
        · exact Int.le_trans hab (h1 x hx), h⟩
    · exact List.pairwise_cons.mpr ⟨fun x hx => by
        rcases List.mem_cons.mp ((ins_perm a l).mem_iff.mp hx) with rfl | hx
        · omega
        · exact h1 x hx, ins_sorted a l h2⟩
theorem exists_sorted : ∀ l : List Int, ∃ F : List Int, F.Perm l ∧ F.Pairwise (· ≤ ·)
  | [] => ⟨[], List.Perm.refl _, List.Pairwise.nil⟩
  | a :: l => by
    obtain ⟨F, h1, h2⟩ := exists_sorted l
    exact ⟨ins a F, (ins_perm a F).trans (h1.cons a), ins_sorted a F h2⟩
theorem rev_desc {F : List Int} (h : F.Pairwise (· ≤ ·)) : F.reverse.Pairwise fun a b => b ≤ a := List.pairwise_reverse.mpr h
/-- where the least number of both is attained -/
theorem most_at {feet pairs : List Int} {top : Int} (t1 : ∀ x ∈ feet, x < top) (t2 : ∀ x ∈ pairs, x < top) : ∃ s, (s ∈ feet ∨ s = top) ∧ ∀ s', (cF feet s : Int) + cP pairs s ≤ (cF feet s' : Int) + cP pairs s' := by
  obtain ⟨F, f1, f2⟩ := exists_sorted feet
  obtain ⟨Q, p1, p2⟩ := exists_sorted pairs
  obtain ⟨h, s, hs, e⟩ := most_of_gr ((List.reverse_perm F).trans f1) ((List.reverse_perm Q).trans p1) (rev_desc f2) (rev_desc p2) t1 t2
  exact ⟨s, hs, fun s' => by rw [← e]; exact h.2 s'⟩
theorem few_at {feet pairs : List Int} {top : Int} (t2 : ∀ x ∈ pairs, x < top) : ∃ s, (s ∈ feet ∨ s = top) ∧ ∀ s', ((max (cF feet s) (cP pairs s) : Nat) : Int) ≤ (max (cF feet s') (cP pairs s') : Nat) := by
  obtain ⟨F, f1, f2⟩ := exists_sorted feet
  obtain ⟨Q, p1, p2⟩ := exists_sorted pairs
  obtain ⟨h, s, hs, e⟩ := few_of_cz (top := top) f1 ((List.reverse_perm Q).trans p1) f2 (rev_desc p2) t2
  exact ⟨s, hs, fun s' => by rw [← e]; exact h.2 s'⟩
theorem zip_enc (F Q : List Int) : zipD (F.map .int) (Q.map .int) = (F.zip Q).map fun q => .tuple [.int q.1, .int q.2] := by
  unfold zipD
  rw [List.zip_map, List.map_map]
  rfl
theorem cz_count : ∀ F Q : List Int, ((F.zip Q).map fun q => decide (q.1 ≤ q.2)).count true = cz F Q
  | [], _ => by unfold cz; rfl
  | f :: fs, [] => by unfold cz; rfl
  | f :: fs, p :: ps => by
    rw [List.zip_cons_cons, List.map_cons, List.count_cons, cz_count fs ps]
    show _ = cz fs ps + if f ≤ p then 1 else 0
    by_cases h : f ≤ p <;> simp [h]
structure HallOk (feet pairs : List Int) : Prop where
  f1 : 1 ≤ feet.length
  f2 : feet.length ≤ 40
  p2 : pairs.length ≤ 40
  fi : In1 (10 ^ 6) feet
  pi : In1 (10 ^ 6) pairs
theorem stepL_ok (key : Int → Int) (feet pairs : List Int) (m : Int) : ∀ (order : List Int) (l : List Int) (r : List (Int × Int)), (∀ x ∈ l, 0 ≤ x ∧ x < m) → (∀ p ∈ r, -1 ≤ p.2 ∧ (p.2 < m ∨ p.2 = -1)) →
    (∀ p ∈ (order.foldl (stepL key feet pairs) (l, r)).2, -1 ≤ p.2 ∧ (p.2 < m ∨ p.2 = -1)) ∧ (order.foldl (stepL key feet pairs) (l, r)).2.map (·.1) = r.map (·.1) ++ order
  | [], l, r, _, hr => ⟨hr, by simp⟩
  | g :: order, l, r, hl, hr => by
    rw [List.foldl_cons]
    have hb : ∀ (l : List Int) (b : Int), (b = -1 ∨ (0 ≤ b ∧ b < m)) → (∀ x ∈ l, 0 ≤ x ∧ x < m) → (l.foldl (bestS key fun j => decide (getI feet g ≤ getI pairs j)) b = -1 ∨ (0 ≤ l.foldl (bestS key fun j => decide (getI feet g ≤ getI pairs j)) b ∧ l.foldl (bestS key fun j => decide (getI feet g ≤ getI pairs j)) b < m)) := by
      intro l
      induction l with
      | nil => intro b h _; exact h
      | cons y l ih =>
        intro b h hl
        rw [List.foldl_cons]
        refine ih _ ?_ fun x hx => hl x (by simp [hx])
        unfold bestS
        split
        · split
          · exact .inr (hl y (by simp))
          · exact h
        · exact h
    have h1 := hb l (-1) (.inl rfl) hl
    obtain ⟨a, b⟩ := stepL_ok key feet pairs m order (stepL key feet pairs (l, r) g).1 (stepL key feet pairs (l, r) g).2 (fun x hx => hl x (List.mem_filter.mp hx).1) (fun p hp => by
      rcases List.mem_append.mp hp with q | q
      · exact hr p q
      · rw [List.mem_singleton.mp q]
        rcases h1 with h1 | h1
        · rw [h1]; exact ⟨Int.le_refl _, .inr rfl⟩
        · exact ⟨Int.le_trans (by decide) h1.1, .inl h1.2⟩)
    refine ⟨a, b.trans ?_⟩
    unfold stepL
    simp
theorem ruled_ok (key : Int → Int) (feet pairs order : List Int) : (∀ p ∈ ruled key feet pairs order, -1 ≤ p.2 ∧ (p.2 < pairs.length ∨ p.2 = -1)) ∧ (ruled key feet pairs order).map (·.1) = order := by
  have := stepL_ok key feet pairs pairs.length order (intsN pairs.length) [] (fun x hx => mem_intsN hx) (fun _ h => nomatch h)
  exact ⟨this.1, this.2.trans (by simp)⟩
theorem tame_runD {r : List (Int × Int)} {m k : Nat} (h1 : ∀ p ∈ r, 0 ≤ p.1 ∧ p.1 < (k : Int)) (h2 : ∀ p ∈ r, -1 ≤ p.2 ∧ (p.2 < (m : Int) ∨ p.2 = -1)) (hm : m ≤ 40) (hk : k ≤ 40) (hl : r.length ≤ 40) : Tame 2400 2 (.tuple (r.map prD)) :=
  (tame_tuple (l := 40) (fun d hd => by
    obtain ⟨p, hp, rfl⟩ := List.mem_map.mp hd
    have := h1 p hp
    have := h2 p hp
    exact tame_two (by omega) (by omega)) (by rw [List.length_map]; exact hl)).mono (by decide) (by decide)
abbrev InR (m : Nat) (l : List Int) : Prop := ∀ j ∈ l, 0 ≤ j ∧ j < (m : Int)
theorem eqv_int (a b : Int) : PyData.eqv (.int a) (.int b) = decide (a = b) := by rfl
theorem enum_ints (xs : List Int) : enumD (xs.map .int) = (intsN xs.length).map fun j => .tuple [.int j, .int (getI xs j)] := by
  apply List.ext_getElem?
  intro i
  unfold enumD intsN getI
  simp only [List.getElem?_map, List.getElem?_zipIdx, List.map_map]
  by_cases h : i < xs.length
  · simp [h]
  · simp [h]
theorem atI0 (j : Int) (js : List Int) : atI ((j :: js).map PyData.int) 0 = some (.int j) := by
  unfold atI ixN
  rw [if_pos (Int.le_refl 0), if_pos (by rw [List.length_map, List.length_cons]; omega)]
  rfl
/-- a run, as pairs of numbers -/
structure RunOk (f p : Nat) (run : List (Int × Int)) : Prop where
  g : (run.map (·.1)).Perm (intsN f)
  s : ∀ q ∈ run, -1 ≤ q.2 ∧ (q.2 < (p : Int) ∨ q.2 = -1)
theorem intsN_len (m : Nat) : (intsN m).length = m := by simp [intsN]
theorem RunOk.len {f p : Nat} {run : List (Int × Int)} (h : RunOk f p run) : run.length = f := by
  have := h.g.length_eq
  rwa [List.length_map, intsN_len] at this
theorem RunOk.nd {f p : Nat} {run : List (Int × Int)} (h : RunOk f p run) : (run.map (·.1)).Nodup := h.g.nodup_iff.mpr ((intsN_lt f).imp fun h => Int.ne_of_lt h)
theorem RunOk.fst {f p : Nat} {run : List (Int × Int)} (h : RunOk f p run) {q : Int × Int} (hq : q ∈ run) : 0 ≤ q.1 ∧ q.1 < (f : Int) := mem_intsN (h.g.mem_iff.mp (List.mem_map_of_mem hq))
def leftL (p : Nat) (run : List (Int × Int)) : List Int := (intsN p).filter fun j => !(run.any fun q => decide (q.2 = j))
theorem rng_ints (m : Nat) : rngD 0 ((m : Nat) : Int).toNat = (intsN m).map PyData.int := by
  unfold rngD intsN
  rw [List.map_map, Int.toNat_natCast]
  exact List.map_congr_left fun k _ => by show PyData.int (0 + (k : Int)) = PyData.int k; rw [Int.zero_add]
theorem sh_int (i : Int) : Sh (.int i) := rfl
/-- a pair fits a guest -/
def fitG (feet pairs : List Int) (g j : Int) : Bool := decide (getI feet g ≤ getI pairs j)
/-- how the guests go: each takes a pair that fits, that the rule likes, or there is none -/
def Gs (rl : Int → Int → Prop) (feet pairs : List Int) : List Int → List (Int × Int) → Prop
  | _, [] => True
  | left, q :: r => ((∀ j ∈ left, fitG feet pairs q.1 j = false) ∧ q.2 = -1 ∧ Gs rl feet pairs left r) ∨
      (q.2 ∈ left ∧ fitG feet pairs q.1 q.2 = true ∧ (∀ i ∈ left, fitG feet pairs q.1 i = true → rl q.2 i) ∧ Gs rl feet pairs (left.erase q.2) r)
def srv (run : List (Int × Int)) : Nat := (run.filter fun q => decide (q.2 ≠ -1)).length
theorem Gs.mono {rl rl' : Int → Int → Prop} {feet pairs : List Int} (h : ∀ a b, rl a b → rl' a b) : ∀ {run : List (Int × Int)} {left : List Int}, Gs rl feet pairs left run → Gs rl' feet pairs left run
  | [], _, _ => trivial
  | q :: r, left, g => by
    rcases g with ⟨a, b, c⟩ | ⟨a, b, c, d⟩
    · exact .inl ⟨a, b, c.mono h⟩
    · exact .inr ⟨a, b, fun i hi hf => h _ _ (c i hi hf), d.mono h⟩
theorem Gs.perm {rl : Int → Int → Prop} {feet pairs : List Int} : ∀ {run : List (Int × Int)} {left left' : List Int}, left.Perm left' → Gs rl feet pairs left run → Gs rl feet pairs left' run
  | [], _, _, _, _ => trivial
  | q :: r, left, left', hp, g => by
    rcases g with ⟨a, b, c⟩ | ⟨a, b, c, d⟩
    · exact .inl ⟨fun j hj => a j (hp.mem_iff.mpr hj), b, c.perm hp⟩
    · exact .inr ⟨hp.mem_iff.mp a, b, fun i hi => c i (hp.mem_iff.mpr hi), d.perm (hp.erase _)⟩
/-- the guests one after another, by a list of liking -/
def byL (feet pairs : List Int) : List Int → List Int → List (Int × Int)
  | _, [] => []
  | left, g :: order =>
    match left.filter fun j => decide (getI feet g ≤ getI pairs j) with
    | [] => (g, -1) :: byL feet pairs left order
    | j :: _ => (g, j) :: byL feet pairs (left.erase j) order
theorem byL_nil {feet pairs left : List Int} {g : Int} {order : List Int} (e : (left.filter fun j => decide (getI feet g ≤ getI pairs j)) = []) : byL feet pairs left (g :: order) = (g, -1) :: byL feet pairs left order := by
  rw [byL]; simp only [e]
theorem byL_cons {feet pairs left : List Int} {g j : Int} {js order : List Int} (e : (left.filter fun j => decide (getI feet g ≤ getI pairs j)) = j :: js) : byL feet pairs left (g :: order) = (g, j) :: byL feet pairs (left.erase j) order := by
  rw [byL]; simp only [e]
theorem byL_fold (feet pairs : List Int) : ∀ (order left : List Int) (r : List (Int × Int)), (order.foldl (stepF feet pairs) (left, r)).2 = r ++ byL feet pairs left order
  | [], _, r => by simp [byL]
  | g :: order, left, r => by
    rw [List.foldl_cons]
    cases e : left.filter fun j => decide (getI feet g ≤ getI pairs j) with
    | nil =>
      rw [show stepF feet pairs (left, r) g = (left, r ++ [(g, -1)]) by unfold stepF; simp only [e], byL_fold feet pairs order, byL_nil e, List.append_assoc]
      rfl
    | cons j js =>
      rw [show stepF feet pairs (left, r) g = (left.erase j, r ++ [(g, j)]) by unfold stepF; simp only [e], byL_fold feet pairs order, byL_cons e, List.append_assoc]
      rfl
theorem byL_fst (feet pairs : List Int) : ∀ (order left : List Int), (byL feet pairs left order).map (·.1) = order
  | [], _ => rfl
  | g :: order, left => by
    unfold byL
    split
    · rw [List.map_cons, byL_fst feet pairs order]
    · rw [List.map_cons, byL_fst feet pairs order]
theorem byL_gs {rl : Int → Int → Prop} (hr : ∀ a, rl a a) (feet pairs : List Int) : ∀ (order left : List Int), left.Pairwise rl → Gs rl feet pairs left (byL feet pairs left order)
  | [], _, _ => trivial
  | g :: order, left, hp => by
    unfold byL
    split
    · rename_i e
      refine .inl ⟨fun j hj => ?_, rfl, byL_gs hr feet pairs order left hp⟩
      have := List.filter_eq_nil_iff.mp e j hj
      exact Bool.eq_false_iff.mpr this
    · rename_i j js e
      have hj : j ∈ left.filter fun j => decide (getI feet g ≤ getI pairs j) := by rw [e]; simp
      obtain ⟨h1, h2⟩ := List.mem_filter.mp hj
      refine .inr ⟨h1, h2, fun i hi hf => ?_, byL_gs hr feet pairs order (left.erase j) (hp.sublist List.erase_sublist)⟩
      have hi : i ∈ left.filter fun j => decide (getI feet g ≤ getI pairs j) := List.mem_filter.mpr ⟨hi, hf⟩
      have hps := hp.filter fun j => decide (getI feet g ≤ getI pairs j)
      rw [e] at hi hps
      rcases List.mem_cons.mp hi with rfl | hi
      · exact hr _
      · exact (List.pairwise_cons.mp hps).1 i hi
/-- a run of the hall -/
structure RunV (rl : Int → Int → Prop) (feet pairs : List Int) (run : List (Int × Int)) : Prop where
  g : (run.map (·.1)).Perm (intsN feet.length)
  s : Gs rl feet pairs (intsN pairs.length) run
abbrev anyR : Int → Int → Prop := fun _ _ => True
theorem RunV.any {rl : Int → Int → Prop} {feet pairs : List Int} {run : List (Int × Int)} (h : RunV rl feet pairs run) : RunV anyR feet pairs run := ⟨h.g, h.s.mono fun _ _ _ => trivial⟩
instance (key : Int → Int) (a b : Int) : Decidable (Lx key a b) := inferInstanceAs (Decidable (_ ∨ _))
def likeO (key : Int → Int) (m : Nat) : List Int := (intsN m).mergeSort fun a b => decide (Lx key a b)
theorem likeO_perm (key : Int → Int) (m : Nat) : (likeO key m).Perm (intsN m) := List.mergeSort_perm _ _
theorem likeO_sorted (key : Int → Int) (m : Nat) : (likeO key m).Pairwise (Lx key) := by
  refine (List.pairwise_mergeSort (fun a b c h1 h2 => ?_) (fun a b => ?_) (intsN m)).imp fun h => of_decide_eq_true h
  · have h1 := of_decide_eq_true h1
    have h2 := of_decide_eq_true h2
    refine decide_eq_true ?_
    unfold Lx at *
    omega
  · rw [Bool.or_eq_true, decide_eq_true_eq, decide_eq_true_eq]
    unfold Lx
    omega
theorem Lx_uniq {key : Int → Int} : ∀ {l m : List Int}, l.Perm m → l.Pairwise (Lx key) → m.Pairwise (Lx key) → l = m
  | [], m, hp, _, _ => hp.nil_eq
  | a :: l, [], hp, _, _ => hp.eq_nil
  | a :: l, b :: m, hp, h1, h2 => by
    obtain ⟨p1, p2⟩ := List.pairwise_cons.mp h1
    obtain ⟨q1, q2⟩ := List.pairwise_cons.mp h2
    have e : a = b := by
      have ha : a ∈ b :: m := hp.mem_iff.mp (by simp)
      have hb : b ∈ a :: l := hp.mem_iff.mpr (by simp)
      rcases List.mem_cons.mp ha with h | h
      · exact h
      · rcases List.mem_cons.mp hb with h' | h'
        · exact h'.symm
        · have x := p1 b h'
          have y := q1 a h
          unfold Lx at x y
          omega
    subst e
    rw [Lx_uniq hp.cons_inv p2 q2]
theorem ruled_byL (key : Int → Int) (feet pairs order : List Int) : ruled key feet pairs order = byL feet pairs (likeO key pairs.length) order := by
  unfold ruled
  rw [← run_same key feet pairs order (likeO key pairs.length) (intsN pairs.length) [] (likeO_perm _ _) (likeO_sorted _ _) (intsN_lt _) fun x hx => (mem_intsN hx).1, byL_fold]
  rfl
theorem ruled_runV (key : Int → Int) (feet pairs : List Int) {order : List Int} (h : order.Perm (intsN feet.length)) : RunV (Lx key) feet pairs (ruled key feet pairs order) := by
  rw [ruled_byL]
  exact ⟨by rw [byL_fst]; exact h, (byL_gs (fun a => .inr ⟨rfl, Int.le_refl a⟩) feet pairs order _ (likeO_sorted _ _)).perm (likeO_perm _ _)⟩
theorem ruled_small (feet pairs : List Int) {order : List Int} (h : order.Perm (intsN feet.length)) : RunV (fun a b => getI pairs a ≤ getI pairs b) feet pairs (ruled (getI pairs) feet pairs order) :=
  let r := ruled_runV (getI pairs) feet pairs h
  ⟨r.g, r.s.mono fun a b h => by unfold Lx at h; omega⟩
theorem ruled_large (feet pairs : List Int) {order : List Int} (h : order.Perm (intsN feet.length)) : RunV (fun a b => getI pairs b ≤ getI pairs a) feet pairs (ruled (fun j => -getI pairs j) feet pairs order) :=
  let r := ruled_runV (fun j => -getI pairs j) feet pairs h
  ⟨r.g, r.s.mono fun a b h => by unfold Lx at h; simp only at h; omega⟩
def obf (feet : List Int) : List Int := likeO (getI feet) feet.length
theorem obf_perm (feet : List Int) : (obf feet).Perm (intsN feet.length) := likeO_perm _ _
/-- sorted, each once -/
def insU (a : Int) : List Int → List Int
  | [] => [a]
  | b :: l => if a < b then a :: b :: l else if a = b then b :: l else b :: insU a l
theorem mem_insU {a x : Int} : ∀ {l : List Int}, x ∈ insU a l ↔ x = a ∨ x ∈ l
  | [] => by simp [insU]
  | b :: l => by
    unfold insU
    split
    · simp
    · split
      · rename_i h; subst h; simp
      · rw [List.mem_cons, mem_insU (l := l), List.mem_cons]
        constructor
        · rintro (h | h | h) <;> simp [h]
        · rintro (h | h | h) <;> simp [h]
theorem insU_sorted (a : Int) : ∀ {l : List Int}, l.Pairwise (· < ·) → (insU a l).Pairwise (· < ·)
  | [], _ => List.pairwise_singleton _ _
  | b :: l, h => by
    obtain ⟨h1, h2⟩ := List.pairwise_cons.mp h
    unfold insU
    split
    · rename_i hab
      exact List.pairwise_cons.mpr ⟨fun x hx => by
        rcases List.mem_cons.mp hx with rfl | hx
        · exact hab
        · exact Int.lt_trans hab (h1 x hx), h⟩
    · split
      · exact h
      · refine List.pairwise_cons.mpr ⟨fun x hx => ?_, insU_sorted a h2⟩
        rcases mem_insU.mp hx with rfl | hx
        · omega
        · exact h1 x hx
def sd (xs : List Int) : List Int := xs.foldr insU []
theorem sd_sorted : ∀ xs : List Int, (sd xs).Pairwise (· < ·)
  | [] => List.Pairwise.nil
  | x :: xs => insU_sorted x (sd_sorted xs)
theorem mem_sd {k : Int} : ∀ {xs : List Int}, k ∈ sd xs ↔ k ∈ xs
  | [] => Iff.rfl
  | x :: xs => by
    show k ∈ insU x (sd xs) ↔ _
    rw [mem_insU, mem_sd (xs := xs), List.mem_cons]
theorem sd_uniq {xs ms : List Int} (h : ms.Pairwise (· < ·)) (hm : ∀ k, k ∈ ms ↔ k ∈ xs) : ms = sd xs := by
  have hp : ms.Perm (sd xs) := (List.perm_ext_iff_of_nodup (h.imp fun h => Int.ne_of_lt h) ((sd_sorted xs).imp fun h => Int.ne_of_lt h)).mpr fun k => (hm k).trans mem_sd.symm
  exact Lx_uniq (key := id) hp (h.imp fun h => .inl h) ((sd_sorted xs).imp fun h => .inl h)
theorem insU_len (a : Int) : ∀ l, (insU a l).length ≤ l.length + 1
  | [] => Nat.le_refl _
  | b :: l => by
    have := insU_len a l
    unfold insU
    split
    · exact Nat.le_refl _
    · split
      · exact Nat.le_succ _
      · simpa using this
theorem sd_len : ∀ xs : List Int, (sd xs).length ≤ xs.length
  | [] => Nat.le_refl _
  | x :: xs => Nat.le_trans (insU_len x (sd xs)) (Nat.succ_le_succ (sd_len xs))
theorem like_of {key : Int → Int} {m : Nat} {qs : List (Int × Int)} (hp : qs.Perm ((intsN m).map fun j => (key j, j))) (hs : qs.Pairwise fun p q => p.1 < q.1 ∨ (p.1 = q.1 ∧ p.2 ≤ q.2)) : qs.map (·.2) = likeO key m := by
  have hp2 : (qs.map (·.2)).Perm (intsN m) := by
    have := hp.map (·.2)
    rw [List.map_map] at this
    rwa [show ((fun x : Int × Int => x.2) ∘ fun j => (key j, j)) = id from rfl, List.map_id] at this
  refine Lx_uniq (hp2.trans (likeO_perm key m).symm) ?_ (likeO_sorted key m)
  rw [List.pairwise_map]
  refine hs.imp_of_mem fun {a b} ha hb h => ?_
  obtain ⟨x, _, rfl⟩ := List.mem_map.mp (hp.mem_iff.mp ha)
  obtain ⟨y, _, rfl⟩ := List.mem_map.mp (hp.mem_iff.mp hb)
  exact h
theorem RunV.len {rl : Int → Int → Prop} {feet pairs : List Int} {run : List (Int × Int)} (h : RunV rl feet pairs run) : run.length = feet.length := by
  have := h.g.length_eq
  rwa [List.length_map, intsN_len] at this
theorem RunV.nd {rl : Int → Int → Prop} {feet pairs : List Int} {run : List (Int × Int)} (h : RunV rl feet pairs run) : (run.map (·.1)).Nodup := h.g.nodup_iff.mpr ((intsN_lt _).imp fun h => Int.ne_of_lt h)
theorem RunV.fst {rl : Int → Int → Prop} {feet pairs : List Int} {run : List (Int × Int)} (h : RunV rl feet pairs run) {q : Int × Int} (hq : q ∈ run) : 0 ≤ q.1 ∧ q.1 < (feet.length : Int) := mem_intsN (h.g.mem_iff.mp (List.mem_map_of_mem hq))
theorem gs_snd {rl : Int → Int → Prop} {feet pairs : List Int} : ∀ {run : List (Int × Int)} {left : List Int}, Gs rl feet pairs left run → ∀ q ∈ run, q.2 = -1 ∨ q.2 ∈ left
  | [], _, _, _, h => nomatch h
  | p :: r, left, g, q, hq => by
    rcases List.mem_cons.mp hq with rfl | hq
    · rcases g with ⟨_, b, _⟩ | ⟨a, _⟩
      · exact .inl b
      · exact .inr a
    · rcases g with ⟨_, _, c⟩ | ⟨_, _, _, d⟩
      · exact gs_snd c q hq
      · exact (gs_snd d q hq).imp id List.mem_of_mem_erase
theorem RunV.snd {rl : Int → Int → Prop} {feet pairs : List Int} {run : List (Int × Int)} (h : RunV rl feet pairs run) {q : Int × Int} (hq : q ∈ run) : -1 ≤ q.2 ∧ (q.2 < (pairs.length : Int) ∨ q.2 = -1) := by
  rcases gs_snd h.s q hq with e | e
  · exact ⟨by omega, .inr e⟩
  · have := mem_intsN e; exact ⟨by omega, .inl this.2⟩
def leftT (m : Nat) (taken : List Int) : List Int := (intsN m).filter fun j => decide (j ∉ taken)
theorem leftT_nil (m : Nat) : leftT m [] = intsN m := List.filter_eq_self.mpr fun x _ => by simp
theorem leftT_lt (m : Nat) (taken : List Int) : (leftT m taken).Pairwise (· < ·) := (intsN_lt m).filter _
theorem leftT_erase (m : Nat) (taken : List Int) (j : Int) : (leftT m taken).erase j = leftT m (taken ++ [j]) := by
  rw [erase_filter ((leftT_lt m taken).imp fun h => Int.ne_of_lt h)]
  unfold leftT
  rw [List.filter_filter]
  refine List.filter_congr fun x _ => ?_
  by_cases h : x = j <;> by_cases h2 : x ∈ taken <;> simp [h, h2]
theorem gs_step {rl : Int → Int → Prop} {feet pairs : List Int} {run : List (Int × Int)} {left : List Int} {k : Nat} {q : Int × Int} (hq : run[k]? = some q) (g : Gs rl feet pairs left (run.drop k)) :
    ((∀ j ∈ left, fitG feet pairs q.1 j = false) ∧ q.2 = -1 ∧ Gs rl feet pairs left (run.drop (k + 1))) ∨
      (q.2 ∈ left ∧ fitG feet pairs q.1 q.2 = true ∧ (∀ i ∈ left, fitG feet pairs q.1 i = true → rl q.2 i) ∧ Gs rl feet pairs (left.erase q.2) (run.drop (k + 1))) := by
  have hd : run.drop k = q :: run.drop (k + 1) := by
    obtain ⟨h1, h2⟩ := List.getElem?_eq_some_iff.mp hq
    rw [List.drop_eq_getElem_cons h1, h2]
  rw [hd] at g
  exact g
theorem ifN {b : Bool} {A B : Prop} (hb : b = true) (h : B) : if (!b) = true then A else B := by subst hb; exact h
theorem ifF {b : Bool} {A B : Prop} (hb : b = false) (h : B) : if b = true then A else B := by subst hb; exact iteF h
theorem ifT {b : Bool} {A B : Prop} (hb : b = true) (h : A) : if b = true then A else B := by subst hb; exact iteT h
theorem ifNF {b : Bool} {A B : Prop} (hb : b = false) (h : A) : if (!b) = true then A else B := by subst hb; exact h
theorem iteD {c A B : Prop} [Decidable c] (hc : c) (h : A) : if decide c = true then A else B := by rw [if_pos (decide_eq_true hc)]; exact h
theorem iteDF {c A B : Prop} [Decidable c] (hc : ¬ c) (h : B) : if decide c = true then A else B := by rw [if_neg (fun q => hc (of_decide_eq_true q))]; exact h
theorem isi_tt (ds : List PyData) : isiB (tyD (.tuple ds)) "tuple" = true := show isiB "tuple" "tuple" = true by decide +kernel
theorem isi_ii (i : Int) : isiB (tyD (.int i)) "int" = true := show isiB "int" "int" = true by decide +kernel
theorem isi_ib (i : Int) : isiB (tyD (.int i)) "bool" = false := show isiB "int" "bool" = false by decide +kernel
theorem isi_bb (i : Bool) : isiB (tyD (.bool i)) "bool" = true := show isiB "bool" "bool" = true by decide +kernel
theorem isi_bi (i : Bool) : isiB (tyD (.bool i)) "int" = true := show isiB "bool" "int" = true by decide +kernel
def runD (run : List (Int × Int)) : PyData := .tuple (run.map prD)
theorem tame_run {rl : Int → Int → Prop} {feet pairs : List Int} {run : List (Int × Int)} (hh : HallOk feet pairs) (h : RunV rl feet pairs run) : Tame 2400 2 (runD run) :=
  tame_runD (m := pairs.length) (k := feet.length) (fun p hp => h.fst hp) (fun p hp => h.snd hp) hh.p2 hh.f2 (by rw [h.len]; exact hh.f2)
/-- certificates -/
def wordAt (feet : List Int) (num s : Int) : Str := if num ≤ (cF feet s : Int) then "feet" else "pairs"
def largeR (feet pairs : List Int) : List (Int × Int) := ruled (fun j => -getI pairs j) feet pairs (obf feet)
def smallR (feet pairs : List Int) : List (Int × Int) := ruled (getI pairs) feet pairs (intsN feet.length)
def tableD (feet : List Int) (num : Int) : PyData := .tuple ((sd feet).map fun s => .str (wordAt feet num s))
def sureD (feet pairs : List Int) (m num : Int) : PyData := if m < num then .tuple [.str "run", runD (largeR feet pairs)] else .tuple [.str "table", tableD feet num]
def exc (feet pairs : List Int) (num : Int) : List Int := (sd feet ++ [1000001]).filter fun s => decide ((cF feet s : Int) + cP pairs s < num)
theorem large_v (feet pairs : List Int) : RunV (fun a b => getI pairs b ≤ getI pairs a) feet pairs (largeR feet pairs) := ruled_large feet pairs (obf_perm feet)
theorem small_v (feet pairs : List Int) : RunV (fun a b => getI pairs a ≤ getI pairs b) feet pairs (smallR feet pairs) := ruled_small feet pairs (List.Perm.refl _)
theorem asB_T {c : Bool} {R : Bool → Prop} (hc : c = true) (h : R true) : asB (.dat (.bool c)) R := by subst hc; exact h
theorem asB_F {c : Bool} {R : Bool → Prop} (hc : c = false) (h : R false) : asB (.dat (.bool c)) R := by subst hc; exact h
theorem tame_word (w : Str) (hw : w = "run" ∨ w = "table" ∨ w = "size" ∨ w = "feet" ∨ w = "pairs") : Tame 60 0 (.str w) := by
  rcases hw with rfl | rfl | rfl | rfl | rfl <;> exact (tame_str (by decide +kernel)).mono (by decide +kernel) (by decide)
theorem tame_table (feet : List Int) (num : Int) (h : feet.length ≤ 40) : Tame 2600 2 (tableD feet num) :=
  (tame_tuple (m := 60) (k := 0) (l := 40) (fun x hx => by
    obtain ⟨s, _, rfl⟩ := List.mem_map.mp hx
    unfold wordAt
    split
    · exact tame_word _ (by simp)
    · exact tame_word _ (by simp)) (by rw [List.length_map]; exact Nat.le_trans (sd_len feet) h)).mono (by decide) (by decide)
theorem sure_form {feet pairs : List Int} (hh : HallOk feet pairs) {m : Int} (hm : IsFew feet pairs m) (num : Int) : ∃ (w : Str) (d : PyData), sureD feet pairs m num = .tuple [.str w, d] ∧ ((num ≤ m ∧ w = "table") ∨ (¬ num ≤ m ∧ w = "run")) ∧ Tame 2600 2 d := by
  unfold sureD
  by_cases h : m < num
  · rw [if_pos h]
    exact ⟨_, _, rfl, .inr ⟨by omega, rfl⟩, (tame_run hh (large_v feet pairs)).mono (by decide) (by decide)⟩
  · rw [if_neg h]
    exact ⟨_, _, rfl, .inl ⟨by omega, rfl⟩, tame_table feet num hh.f2⟩
theorem cut_drop {α : Type} (xs : List α) (k : Nat) : cutG xs (some (k : Int)) none = xs.drop k := by
  unfold cutG
  have e1 : HT.sIx xs.length 0 (some (k : Int)) = min k xs.length := HT.sIx_nat _ _ _
  have e2 : HT.sIx xs.length xs.length none = xs.length := rfl
  rw [e1, e2]
  by_cases h : k ≤ xs.length
  · rw [Nat.min_eq_left h]
    exact List.take_of_length_le (by rw [List.length_drop]; omega)
  · rw [Nat.min_eq_right (by omega), List.drop_length, List.drop_of_length_le (by omega)]
    simp
theorem cut_take {α : Type} (xs : List α) (k : Nat) : cutG xs none (some (k : Int)) = xs.take k := by
  unfold cutG
  have e1 : HT.sIx xs.length xs.length (some (k : Int)) = min k xs.length := HT.sIx_nat _ _ _
  have e2 : HT.sIx xs.length 0 none = 0 := rfl
  rw [e1, e2, List.drop_zero, Nat.sub_zero]
  by_cases h : k ≤ xs.length
  · rw [Nat.min_eq_left h]
  · rw [Nat.min_eq_right (by omega), List.take_length, List.take_of_length_le (by omega)]
theorem neg_not (m : Nat) (T : List Int) : (-1 : Int) ∉ leftT m T := fun h => by
  have := (mem_intsN (List.mem_filter.mp h).1).1
  omega
def okq (feet pairs left : List Int) (q : Int × Int) : Prop := ((∀ j ∈ left, fitG feet pairs q.1 j = false) ∧ q.2 = -1) ∨ (q.2 ∈ left ∧ fitG feet pairs q.1 q.2 = true)
theorem leftT_len (m : Nat) (T : List Int) : (leftT m T).length ≤ m := by
  have := List.length_filter_le (fun j => decide (j ∉ T)) (intsN m)
  rwa [intsN_len] at this
theorem eqv_nilT (ds : List PyData) : PyData.eqv (.tuple ds) (.tuple []) = ds.isEmpty := by
  cases ds <;> rfl
theorem sh_tints (ns : List Int) : Sh (.tuple (ns.map .int)) :=
  Bool.and_eq_true_iff.mpr ⟨by simp only [PyData.canLay0]; exact canAll fun d hd => by obtain ⟨_, _, rfl⟩ := List.mem_map.mp hd; rfl, decide_eq_true (by
    simp only [PyData.depth]
    exact Nat.le_trans (Nat.succ_le_succ (depthAll_le (k := 0) fun d hd => by obtain ⟨_, _, rfl⟩ := List.mem_map.mp hd; exact Nat.le_refl _)) (by decide))⟩
theorem leftT_next (m : Nat) (T : List Int) (j : Int) : (leftT m T).filter (fun o => decide (o ≠ j)) = leftT m (T ++ [j]) := by
  rw [← leftT_erase, erase_filter ((leftT_lt m T).imp fun h => Int.ne_of_lt h)]
theorem gs_ok {feet pairs : List Int} {m : Nat} {run : List (Int × Int)} : ∀ {k : Nat} {q : Int × Int}, run[k]? = some q → Gs anyR feet pairs (leftT m []) run → okq feet pairs (leftT m ((run.take k).map (·.2))) q := fun {k q} hq h => by
  have hs : run = run.take k ++ q :: run.drop (k + 1) := by
    obtain ⟨h1, h2⟩ := List.getElem?_eq_some_iff.mp hq
    conv => lhs; rw [← List.take_append_drop k run, List.drop_eq_getElem_cons h1, h2]
  have pre : ∀ (a b : List (Int × Int)) (T : List Int), Gs anyR feet pairs (leftT m T) (a ++ b) → Gs anyR feet pairs (leftT m (T ++ a.map (·.2))) b := by
    intro a
    induction a with
    | nil => intro b T h; simpa using h
    | cons p a ih =>
      intro b T h
      have e : T ++ (p :: a).map (·.2) = T ++ [p.2] ++ a.map (·.2) := by simp
      rw [e]
      rcases h with ⟨x, y, z⟩ | ⟨x, y, u, z⟩
      · refine ih b (T ++ [p.2]) ?_
        have e1 : leftT m T = leftT m (T ++ [p.2]) := by rw [← leftT_erase, y, List.erase_of_not_mem (neg_not m T)]
        rw [← e1]; exact z
      · refine ih b (T ++ [p.2]) ?_
        rw [← leftT_erase]; exact z
  rw [hs] at h
  have := pre _ _ _ h
  rw [List.nil_append] at this
  rcases this with ⟨x, y, _⟩ | ⟨x, y, _, _⟩
  · exact .inl ⟨x, y⟩
  · exact .inr ⟨x, y⟩
theorem RunV.ok {rl : Int → Int → Prop} {F P : List Int} {run : List (Int × Int)} (h : RunV rl F P run) : RunOk F.length P.length run := ⟨h.g, fun _ hq => h.snd hq⟩
inductive Cv where
  | run (r : List (Int × Int))
  | tab (ws : List Str)
  | siz (z : Int)
def Cv.d : Cv → PyData
  | .run r => .tuple [.str "run", runD r]
  | .tab ws => .tuple [.str "table", .tuple (ws.map .str)]
  | .siz z => .tuple [.str "size", .int z]
def Cv.pos (feet pairs : List Int) (num : Int) : Cv → Bool
  | .run r => decide (num ≤ (srv r : Int))
  | .tab _ => false
  | .siz z => decide ((cF feet z : Int) + cP pairs z < num)
theorem leftL_leftT (m : Nat) (run : List (Int × Int)) : leftL m run = leftT m (run.map (·.2)) := by
  unfold leftL leftT
  refine List.filter_congr fun j _ => ?_
  rw [Bool.eq_iff_iff, Bool.not_eq_true', decide_eq_true_eq, List.any_eq_false]
  constructor
  · intro h hm
    obtain ⟨q, hq, e⟩ := List.mem_map.mp hm
    exact h q hq (decide_eq_true e)
  · intro h q hq e
    exact h (of_decide_eq_true e ▸ List.mem_map_of_mem hq)
end DL
set_option maxHeartbeats 0
set_option maxHeartbeats 0
namespace DL
open PySem PySem.Spec PyProof.Rows L2
def numB : PyData → Bool
  | .int _ => true
  | _ => false
def numIn (d : PyData) (a b : Int) : Bool := match d with
  | .int z => decide (a ≤ z) && decide (z ≤ b)
  | _ => false
theorem numIn_true {d : PyData} {a b : Int} (h : numIn d a b = true) : ∃ z, d = .int z ∧ a ≤ z ∧ z ≤ b := by
  unfold numIn at h
  split at h
  · rw [Bool.and_eq_true, decide_eq_true_eq, decide_eq_true_eq] at h
    exact ⟨_, rfl, h⟩
  · cases h
theorem tameE_int {i : Int} {m : Nat} (h : i.natAbs < 2 ^ m) (hm : m ≤ 1000) (h0 : 0 < m) : TameE (m + 3) 0 (.int i) := (tame_int h hm h0).e
theorem all2 {p : PyData → Prop} {a b : PyData} (ha : p a) (hb : p b) : ∀ d ∈ [a, b], p d := fun d hd => by
  simp only [List.mem_cons, List.not_mem_nil, or_false] at hd
  rcases hd with rfl | rfl
  · exact ha
  · exact hb
end DL
set_option maxHeartbeats 0
namespace DL
open PySem PySem.Spec PyProof.Rows L2
abbrev szD (d : PyData) : Bool := numIn d 1 1000000
theorem num_ok (z : Int) : PyData.strOk (toString z : Str) = true := by
  unfold PyData.strOk
  rw [Array.all_eq_true']
  intro c hc
  have h1 : c ∈ (Str.ofString (toString z)).cps.toList := by simpa using hc
  have h2 : ¬ (c ≠ 45 ∧ (c < 48 ∨ 57 < c)) := fun h => int_text_free' c h z h1
  have h3 : c < 58 := by omega
  have key : ∀ c : Nat, c < 58 → (decide (c < 1114112) && !(decide (55296 ≤ c) && decide (c ≤ 57343))) = true := by decide +kernel
  have := key c h3
  simp at this ⊢
  omega
end DL
set_option maxHeartbeats 0
namespace DL
open PySem PySem.Spec PyProof.Rows L2
theorem isDR_dat {d : PyData} (h : isRefD d = false) : isDR (.dat d) = false := Bool.or_eq_false_iff.mpr ⟨rfl, h⟩
theorem Wo.put_at {w : Wo} {a : Addr} {o : Ob} : (w.put a o).ob a = some o := if_pos rfl
theorem Wo.put_put {w : Wo} {a : Addr} {o u : Ob} : (w.put a o).put a u = w.put a u := by
  unfold Wo.put
  congr 1
  funext b
  simp only
  split <;> rfl
/-- the same, but for the errors that were handled -/
structure Sim (n n' : Wo) : Prop where
  nn : n'.n = n.n
  ob : n'.ob = n.ob
theorem Sim.rfl' {n : Wo} : Sim n n := ⟨rfl, rfl⟩
theorem Sim.trans {a b c : Wo} (h : Sim a b) (g : Sim b c) : Sim a c := ⟨g.nn.trans h.nn, g.ob.trans h.ob⟩
theorem Sim.caught {n : Wo} {a : Addr} {ex : Ex} {d : Option Addr} : Sim n (caught a ex d n) := ⟨rfl, rfl⟩
theorem caught_at {a : Addr} {ex : Ex} {d : Option Addr} {n : Wo} : (DL.caught a ex d n).xs a = some ⟨.ref ex.C, d, ex.fs⟩ := if_pos rfl
/-- none of a list of classes -/
theorem kitAny_no {K : PySem.W.Frag} {t : Value} : ∀ {cs : List Value}, (∀ c ∈ cs, PySem.W.kitOne K t c = some false) → PySem.W.kitAny K t cs = some false
  | [], _ => rfl
  | c :: cs, h => by
    unfold PySem.W.kitAny
    rw [h c (by simp)]
    exact kitAny_no fun d hd => h d (List.mem_cons_of_mem _ hd)
end DL
set_option maxHeartbeats 0
set_option maxHeartbeats 4000000
namespace DL
open PySem PySem.Spec PyProof.Rows L2
abbrev Hl := List Int × List Int
def halD (h : Hl) : PyData := hallD h.1 h.2
structure HlOk (h : Hl) : Prop where
  ok : HallOk h.1 h.2
  l1 : h.1.length ≤ 20
  l2 : h.2.length ≤ 20
/-- what a party's object holds -/
structure Pt where
  busy : Bool
  h : Hl
  m : Int
  f : Int
  hs : List Hl
  done : List PyData
def Pt.fs (p : Pt) : List (Str × PyData) := [("_busy", .bool p.busy), ("hall", halD p.h), ("most", .int p.m), ("fewest", .int p.f), ("_halls", .tuple (p.hs.map halD)), ("_done", .tuple p.done)]
structure Pt.Ok (p : Pt) : Prop where
  hh : HlOk p.h
  mo : IsMost p.h.1 p.h.2 p.m
  fe : IsFew p.h.1 p.h.2 p.f
  last : p.hs.getLast? = some p.h
  all : ∀ h ∈ p.hs, HlOk h
  len : p.hs.length = p.done.length + 1
  few : p.done.length ≤ 60
abbrev Out := Sum (Nat × List (Str × PyData)) Hl
def OutK (o : Out) (R : Hl → Prop) (E : Nat → List (Str × PyData) → Prop) : Prop := match o with
  | .inl (b, fs) => E b fs
  | .inr h => R h
def intD : PyData → Int
  | .int z => z
  | _ => 0
def aCome (d : PyData) (h : Hl) : Out := if szD d = true then (if 20 ≤ h.1.length then .inl (1, []) else .inr (h.1 ++ [intD d], h.2)) else .inl (0, [("value", d)])
def aLeave (d : PyData) (h : Hl) : Out := if numIn d 0 ((h.1.length : Int) - 1) = true then (if h.1.length = 1 then .inl (3, []) else .inr (h.1.take (intD d).toNat ++ h.1.drop ((intD d).toNat + 1), h.2)) else .inl (2, [("value", d)])
def aPut (d : PyData) (h : Hl) : Out := if szD d = true then (if 20 ≤ h.2.length then .inl (5, []) else .inr (h.1, h.2 ++ [intD d])) else .inl (4, [("value", d)])
def aTake (d : PyData) (h : Hl) : Out := if numIn d 0 ((h.2.length : Int) - 1) = true then .inr (h.1, h.2.take (intD d).toNat ++ h.2.drop ((intD d).toNat + 1)) else .inl (6, [("value", d)])
def aft (nm : Str) (d : PyData) (h : Hl) : Out := if nm = "come" then aCome d h else if nm = "leave" then aLeave d h else if nm = "put" then aPut d h else aTake d h
theorem aft_come {d : PyData} {h : Hl} : aft "come" d h = aCome d h := if_pos rfl
theorem aft_leave {d : PyData} {h : Hl} : aft "leave" d h = aLeave d h := (if_neg (by decide)).trans (if_pos rfl)
theorem aft_put {d : PyData} {h : Hl} : aft "put" d h = aPut d h := (if_neg (by decide)).trans ((if_neg (by decide)).trans (if_pos rfl))
theorem aft_take {d : PyData} {h : Hl} : aft "take" d h = aTake d h := (if_neg (by decide)).trans ((if_neg (by decide)).trans (if_neg (by decide)))
theorem numIn_int {z a b : Int} (h1 : a ≤ z) (h2 : z ≤ b) : numIn (.int z) a b = true := by
  show (decide (a ≤ z) && decide (z ≤ b)) = true
  rw [decide_eq_true h1, decide_eq_true h2]; rfl
theorem szD_true {d : PyData} (h : szD d = true) : ∃ z, d = .int z ∧ 1 ≤ z ∧ z ≤ 1000000 := numIn_true h
theorem in1_app {F : List Int} {z : Int} (h : In1 (10 ^ 6) F) (h1 : 1 ≤ z) (h2 : z ≤ 1000000) : In1 (10 ^ 6) (F ++ [z]) := fun x hx => by
  rcases List.mem_append.mp hx with q | q
  · exact h x q
  · obtain rfl := List.mem_singleton.mp q
    exact ⟨h1, h2⟩
theorem in1_cut {F : List Int} {i : Nat} (h : In1 (10 ^ 6) F) : In1 (10 ^ 6) (F.take i ++ F.drop (i + 1)) := fun x hx => by
  rcases List.mem_append.mp hx with q | q
  · exact h x (List.mem_of_mem_take q)
  · exact h x (List.mem_of_mem_drop q)
theorem cut_len {F : List Int} {i : Nat} (h : i < F.length) : (F.take i ++ F.drop (i + 1)).length + 1 = F.length := by
  rw [List.length_append, List.length_take, List.length_drop]
  omega
theorem come_ok {d : PyData} {h h' : Hl} (k : HlOk h) (e : aCome d h = .inr h') : HlOk h' := by
  unfold aCome at e
  split at e
  · rename_i q
    obtain ⟨z, rfl, z1, z2⟩ := szD_true q
    split at e
    · cases e
    · cases e
      exact ⟨⟨by rw [List.length_append]; have := k.ok.f1; show 1 ≤ h.1.length + 1; omega, by rw [List.length_append]; show h.1.length + 1 ≤ 40; omega, k.ok.p2, in1_app k.ok.fi z1 z2, k.ok.pi⟩, by rw [List.length_append]; show h.1.length + 1 ≤ 20; omega, k.l2⟩
  · cases e
theorem leave_ok {d : PyData} {h h' : Hl} (k : HlOk h) (e : aLeave d h = .inr h') : HlOk h' := by
  unfold aLeave at e
  split at e
  · rename_i q
    obtain ⟨z, rfl, z1, z2⟩ := numIn_true q
    split at e
    · cases e
    · cases e
      have hc : (h.1.take (intD (.int z)).toNat ++ h.1.drop ((intD (.int z)).toNat + 1)).length + 1 = h.1.length := cut_len (by show z.toNat < _; omega)
      have f1 := k.ok.f1
      have l1 := k.l1
      exact ⟨⟨by dsimp only; omega, by dsimp only; omega, k.ok.p2, in1_cut k.ok.fi, k.ok.pi⟩, by dsimp only; omega, k.l2⟩
  · cases e
theorem put_ok {d : PyData} {h h' : Hl} (k : HlOk h) (e : aPut d h = .inr h') : HlOk h' := by
  unfold aPut at e
  split at e
  · rename_i q
    obtain ⟨z, rfl, z1, z2⟩ := szD_true q
    split at e
    · cases e
    · cases e
      exact ⟨⟨k.ok.f1, k.ok.f2, by rw [List.length_append]; show h.2.length + 1 ≤ 40; omega, k.ok.fi, in1_app k.ok.pi z1 z2⟩, k.l1, by rw [List.length_append]; show h.2.length + 1 ≤ 20; omega⟩
  · cases e
theorem take_ok {d : PyData} {h h' : Hl} (k : HlOk h) (e : aTake d h = .inr h') : HlOk h' := by
  unfold aTake at e
  split at e
  · rename_i q
    obtain ⟨z, rfl, z1, z2⟩ := numIn_true q
    cases e
    have hc : (h.2.take (intD (.int z)).toNat ++ h.2.drop ((intD (.int z)).toNat + 1)).length + 1 = h.2.length := cut_len (by show z.toNat < _; omega)
    have l2 := k.l2
    exact ⟨⟨k.ok.f1, k.ok.f2, by dsimp only; omega, k.ok.fi, in1_cut k.ok.pi⟩, k.l1, by dsimp only; omega⟩
  · cases e
theorem aft_ok {nm : Str} {d : PyData} {h h' : Hl} (k : HlOk h) (e : aft nm d h = .inr h') : HlOk h' := by
  unfold aft at e
  split at e
  · exact come_ok k e
  split at e
  · exact leave_ok k e
  split at e
  · exact put_ok k e
  · exact take_ok k e
def Pt.next (p : Pt) (h : Hl) (m f : Int) (e : PyData) : Pt := ⟨p.busy, h, m, f, p.hs ++ [h], p.done ++ [e]⟩
theorem Pt.Ok.next {p : Pt} (k : p.Ok) {h : Hl} {m f : Int} {e : PyData} (hh : HlOk h) (mo : IsMost h.1 h.2 m) (fe : IsFew h.1 h.2 f) (l : p.done.length < 60) : (p.next h m f e).Ok :=
  ⟨hh, mo, fe, by show (p.hs ++ [h]).getLast? = some h; simp, fun x hx => by
    rcases List.mem_append.mp hx with q | q
    · exact k.all x q
    · obtain rfl := List.mem_singleton.mp q; exact hh, by show (p.hs ++ [h]).length = (p.done ++ [e]).length + 1; rw [List.length_append, List.length_append]; have := k.len; simp; omega, by show (p.done ++ [e]).length ≤ 60; rw [List.length_append]; show p.done.length + 1 ≤ 60; omega⟩
end DL
namespace DL
open PySem PySem.Spec PyProof.Rows L2
/-- an object before `_stand` -/
def StD (b : Bool) (fs : List (Str × PyData)) : Prop := fs = ([("_busy", .bool b)] : List (Str × PyData)) ∨ ∃ p : Pt, p.busy = b ∧ fs = p.fs
def four (nm : Str) : Prop := nm = "come" ∨ nm = "leave" ∨ nm = "put" ∨ nm = "take"
theorem last_at {hs : List Hl} {h : Hl} (e : hs.getLast? = some h) : atI (hs.map halD) (-1) = some (halD h) := by
  have hl : 0 < hs.length := by cases hs with | nil => cases e | cons a b => simp
  unfold atI ixN
  rw [if_neg (by decide), if_pos (by rw [List.length_map]; omega)]
  show (hs.map halD)[_]? = _
  rw [List.getElem?_map]
  have : ((-1 : Int) + ((hs.map halD).length : Int)).toNat = hs.length - 1 := by rw [List.length_map]; omega
  rw [this, ← List.getLast?_eq_getElem?, e]
  rfl
theorem get_int {K : PySem.W.Frag} {i : Int} {t : Tok} : PySem.W.specialIn K (.int i t) "__get__" = some none := by first | rfl | kernel_rfl
theorem few_nn2 {F P : List Int} {f : Int} (h : IsFew F P f) (hf : F.length ≤ 40) (hp : P.length ≤ 40) : 0 ≤ f ∧ f ≤ 100 := by
  obtain ⟨⟨s, rfl⟩, _⟩ := h
  have a : cF F s ≤ F.length := List.length_filter_le _ _
  have b : cP P s ≤ P.length := List.length_filter_le _ _
  omega
end DL
namespace DL
open PySem PySem.Spec PyProof.Rows L2
theorem Wo.tr {a b c : Wo} {i j : Nat} (h : b ≤ a + i) (g : c ≤ b + j) : c ≤ a + (i + j) := ⟨by have h1 : b.n ≤ a.n + i := h.1; have h2 : c.n ≤ b.n + j := g.1; show c.n ≤ a.n + (i + j); omega, g.2.1.trans h.2.1, g.2.2.trans h.2.2⟩
theorem Wo.one {a : Wo} : a + 1 ≤ a + 1 := ⟨Nat.le_refl _, rfl, rfl⟩
theorem Wo.le' {a b : Wo} {i j : Nat} (h : b ≤ a + i) (q : i ≤ j) : b ≤ a + j := ⟨by have h1 : b.n ≤ a.n + i := h.1; show b.n ≤ a.n + j; omega, h.2.1, h.2.2⟩
theorem Wo.oeq {a b : Wo} {i : Nat} (h : b ≤ a + i) (x : Addr) : b.ob x = a.ob x := congrFun h.2.1 x
theorem sizes_of {ys : List PyData} (h : ∀ y ∈ ys, ∃ z : Int, y = .int z ∧ 1 ≤ z ∧ z ≤ 10 ^ 6) : ∃ xs : List Int, ys = xs.map .int ∧ In1 (10 ^ 6) xs := ints_of h
end DL
namespace DL
open PySem PySem.Spec PyProof.Rows L2
structure SumsOk (feet pairs L sums : List Int) (b : Nat) : Prop where
  top : (feet.length : Int) ∈ sums
  all : ∀ y ∈ sums, ∃ s : Int, y = (cF feet s : Int) + cP pairs s
  has : ∀ s ∈ L, ((cF feet s : Int) + cP pairs s) ∈ sums
  len : sums.length ≤ b
theorem top_sum {feet pairs : List Int} (h1 : In1 (10 ^ 6) feet) (h2 : In1 (10 ^ 6) pairs) : (feet.length : Int) = (cF feet 1000001 : Int) + cP pairs 1000001 := by
  have a : cF feet 1000001 = feet.length := by
    unfold cF
    rw [List.filter_eq_self.mpr fun x hx => by have := h1 x hx; simp; omega]
  have b : cP pairs 1000001 = 0 := by
    unfold cP
    rw [List.filter_eq_nil_iff.mpr fun x hx => by have := h2 x hx; simp; omega]
    rfl
  rw [a, b]; simp
theorem SumsOk.start {feet pairs : List Int} (h1 : In1 (10 ^ 6) feet) (h2 : In1 (10 ^ 6) pairs) : SumsOk feet pairs [] [(feet.length : Int)] 1 :=
  ⟨List.mem_singleton.mpr rfl, fun y hy => ⟨1000001, (List.mem_singleton.mp hy).trans (top_sum h1 h2)⟩, fun s hs => (nomatch hs), Nat.le_refl _⟩
theorem SumsOk.add {feet pairs L sums : List Int} {b : Nat} (h : SumsOk feet pairs L sums b) (s : Int) : SumsOk feet pairs L (sums ++ [(cF feet s : Int) + cP pairs s]) (b + 1) :=
  ⟨List.mem_append_left _ h.top, fun y hy => (List.mem_append.mp hy).elim (h.all y) fun q => ⟨s, List.mem_singleton.mp q⟩, fun z hz => List.mem_append_left _ (h.has z hz), by rw [List.length_append]; have := h.len; show sums.length + 1 ≤ b + 1; omega⟩
theorem SumsOk.most {feet pairs sums : List Int} {b : Nat} (h1 : In1 (10 ^ 6) feet) (h2 : In1 (10 ^ 6) pairs) (h : SumsOk feet pairs (feet ++ pairs) sums b) {m : Int} (hm : m ∈ sums) (hle : ∀ y ∈ sums, m ≤ y) : IsMost feet pairs m := by
  refine ⟨h.all m hm, fun s' => ?_⟩
  obtain ⟨s0, h0, h3⟩ := most_at (feet := feet) (pairs := pairs) (top := 1000001) (fun x hx => by have := h1 x hx; omega) fun x hx => by have := h2 x hx; omega
  refine Int.le_trans ?_ (h3 s')
  rcases h0 with q | rfl
  · exact hle _ (h.has s0 (List.mem_append_left _ q))
  · rw [← top_sum h1 h2]; exact hle _ h.top
theorem ifN' {b : Bool} {A B : Prop} (hb : b = false) (h : A) : if (!b) = true then A else B := by subst hb; exact h
theorem ifNF' {b : Bool} {A B : Prop} (hb : b = true) (h : B) : if (!b) = true then A else B := by subst hb; exact h
end DL
open PySem PySem.Spec PyProof.Rows L2
namespace DL
theorem cut_init {α : Type} (xs : List α) : cutG xs none (some (-1)) = xs.dropLast := by
  unfold cutG
  have e0 : HT.sIx xs.length 0 none = 0 := rfl
  have e1 : HT.sIx xs.length xs.length (some (-1)) = xs.length - 1 := by
    unfold HT.sIx
    simp only []
    split <;> omega
  rw [e0, e1, List.drop_zero, List.dropLast_eq_take]
  rfl
def Pt.back (p : Pt) (h : Hl) (m f : Int) : Pt := ⟨p.busy, h, m, f, p.hs.dropLast, p.done.dropLast⟩
theorem back_last {p : Pt} (k : p.Ok) (h : p.done ≠ []) : ∃ h' : Hl, p.hs.dropLast.getLast? = some h' ∧ HlOk h' := by
  have l1 := List.length_pos_iff.mpr h
  have hl : 0 < p.hs.dropLast.length := by rw [List.length_dropLast, k.len]; omega
  have hne : p.hs.dropLast ≠ [] := List.length_pos_iff.mp hl
  exact ⟨_, List.getLast?_eq_some_getLast hne, k.all _ (List.dropLast_subset _ (List.getLast_mem hne))⟩
theorem Pt.Ok.back {p : Pt} (k : p.Ok) {h : Hl} {m f : Int} (hd : p.done ≠ []) (e : p.hs.dropLast.getLast? = some h) (hh : HlOk h) (mo : IsMost h.1 h.2 m) (fe : IsFew h.1 h.2 f) : (p.back h m f).Ok :=
  ⟨hh, mo, fe, e, fun x hx => k.all x (List.dropLast_subset _ hx), by
    have := List.length_pos_iff.mpr hd
    show p.hs.dropLast.length = p.done.dropLast.length + 1
    rw [List.length_dropLast, List.length_dropLast, k.len]; omega, by
    show p.done.dropLast.length ≤ 60
    rw [List.length_dropLast]; have := k.few; omega⟩
end DL
open PySem PySem.Spec PyProof.Rows L2
namespace DL
theorem eqv_len {F : List Int} {k : Nat} : PyData.eqv (.int ((F.map PyData.int).length : Nat)) (.int (k : Int)) = decide (F.length = k) := by
  rw [eqv_int, List.length_map]
  exact decide_eq_decide.mpr ⟨fun e => by omega, fun e => by omega⟩
def okPL (d : PyData) : Bool := !isRefD d && d.showable && decide (d.depth ≤ 5) && decide (d.shown.length ≤ 1000) && PyData.strOk d.shown
structure PL (d : PyData) : Prop where
  nr : isRefD d = false
  tm : TameE 1000 5 d
  ok : PyData.strOk d.shown = true
theorem PL.of {d : PyData} (h : okPL d = true) : PL d := by
  unfold okPL at h
  simp only [Bool.and_eq_true, Bool.not_eq_true', decide_eq_true_eq] at h
  exact ⟨h.1.1.1.1, ⟨h.1.1.1.2, h.1.1.2, h.1.2⟩, h.2⟩
theorem PL.int {z : Int} (h1 : -1 ≤ z) (h2 : z ≤ 1001) : PL (.int z) := ⟨rfl, (tameE_int (m := 20) (by omega) (by decide) (by decide)).mono (by decide) (by decide), num_ok z⟩
end DL
open PySem PySem.Spec PyProof.Rows L2
namespace DL
abbrev Edt := Str × PyData
def edT' (e : Edt) : PyData := .tuple [.str e.1, e.2]
def BatK : List Edt → Pt → (Pt → Prop) → Prop
  | [], p, k => k p
  | e :: r, p, k => ∃ h, aft e.1 e.2 p.h = .inr h ∧ ∀ m f, IsMost h.1 h.2 m → IsFew h.1 h.2 f → BatK r (p.next h m f (edT' e)) k
theorem BatK.mono {k k' : Pt → Prop} (hk : ∀ q, k q → k' q) : ∀ {es : List Edt} {p : Pt}, BatK es p k → BatK es p k'
  | [], p, h => hk p h
  | e :: r, p, ⟨h, e1, h2⟩ => ⟨h, e1, fun m f hm hf => BatK.mono hk (h2 m f hm hf)⟩
end DL
namespace DL
open PySem PySem.Spec PyProof.Rows L2
/-- what walk hands out -/
def walkD (P : List Int) (run : List (Int × Int)) : List PyData := (List.range run.length).map fun k => .tuple [.int (run.getD k (0, 0)).1, .int (if (run.getD k (0, 0)).2 = -1 then 0 else getI P (run.getD k (0, 0)).2), .tuple ((leftL P.length (run.take (k + 1))).map fun j => .int (getI P j))]
theorem walk_len (P : List Int) (run : List (Int × Int)) : (walkD P run).length = run.length := by simp [walkD]
theorem left_next {m : Nat} {run : List (Int × Int)} {k : Nat} {q : Int × Int} (hq : run[k]? = some q) : leftL m (run.take (k + 1)) = (leftL m (run.take k)).erase q.2 := by
  rw [leftL_leftT, leftL_leftT, List.take_add_one, hq, List.map_append, leftT_erase]
  rfl
theorem getI_bd {P : List Int} (h : In1 (10 ^ 6) P) (j : Int) : 0 ≤ getI P j ∧ getI P j ≤ 10 ^ 6 := by
  unfold getI
  cases e : P[j.toNat]? with
  | none => exact ⟨by decide, by decide⟩
  | some z => have := h z (List.mem_of_getElem? e); exact ⟨by show 0 ≤ z; omega, this.2⟩
theorem left_le (m : Nat) (run : List (Int × Int)) : (leftL m run).length ≤ m := by
  rw [leftL_leftT]; exact leftT_len _ _
theorem tame_walk {P : List Int} {run : List (Int × Int)} (h : In1 (10 ^ 6) P) (hl : P.length ≤ 20) (hr : run.length ≤ 20) (hf : ∀ q ∈ run, 0 ≤ q.1 ∧ q.1 < 20) : TameE 30500 3 (.list (walkD P run)) := by
  refine (tameE_list (m := 1518) (k := 2) (l := 20) (fun d hd => ?_) (by rw [walk_len]; exact hr)).mono (by decide) (by decide)
  obtain ⟨k, hk, rfl⟩ := List.mem_map.mp hd
  have hk := List.mem_range.mp hk
  have e : run.getD k (0, 0) = run[k] := by simp [List.getD, List.getElem?_eq_getElem hk]
  have h1 := hf _ (List.getElem_mem hk)
  refine (tameE_tuple (m := 503) (k := 1) (l := 3) (fun d hd => ?_) (by simp)).mono (by decide) (by decide)
  simp only [List.mem_cons, List.not_mem_nil, or_false] at hd
  rcases hd with rfl | rfl | rfl
  · rw [e]; exact (tameE_int (m := 20) (by omega) (by decide) (by decide)).mono (by decide) (by decide)
  · have h2 := getI_bd h (run.getD k (0, 0)).2
    split
    · exact (tameE_int (m := 20) (by decide) (by decide) (by decide)).mono (by decide) (by decide)
    · exact (tameE_int (m := 20) (by omega) (by decide) (by decide)).mono (by decide) (by decide)
  · refine (tameE_tuple (m := 23) (k := 0) (l := 20) (fun d hd => ?_) (by rw [List.length_map]; exact Nat.le_trans (left_le _ _) hl)).mono (by decide) (by decide)
    obtain ⟨j, _, rfl⟩ := List.mem_map.mp hd
    have h2 := getI_bd h j
    exact tameE_int (m := 20) (by omega) (by decide) (by decide)
/-- the walk of a hall -/
def wkD (h : Hl) : PyData := .list (walkD h.2 (smallR h.1 h.2))
theorem tame_wk {h : Hl} (hh : HlOk h) : TameE 30500 3 (wkD h) := by
  have v := small_v h.1 h.2
  refine tame_walk hh.ok.pi hh.l2 (by rw [v.len]; exact hh.l1) fun q hq => ?_
  have := v.fst hq
  have := hh.l1
  omega
theorem tame_hl {h : Hl} (hh : HlOk h) : TameE 30500 3 (halD h) := (tame_hall (by decide) hh.ok.fi hh.ok.pi hh.ok.f2 hh.ok.p2).e.mono (by decide) (by decide)
theorem tame_sure {h : Hl} (hh : HlOk h) {f : Int} (hf : IsFew h.1 h.2 f) (num : Int) : TameE 30500 3 (sureD h.1 h.2 f num) := by
  obtain ⟨w, d, e, hw, hd⟩ := sure_form hh.ok hf num
  rw [e]
  refine (tameE_tuple (m := 2600) (k := 2) (l := 2) (fun x hx => ?_) (by simp)).mono (by decide) (by decide)
  simp only [List.mem_cons, List.not_mem_nil, or_false] at hx
  rcases hx with rfl | rfl
  · exact (tame_word w (by rcases hw with ⟨_, rfl⟩ | ⟨_, rfl⟩ <;> simp)).e.mono (by decide) (by decide)
  · exact hd.e
end DL
namespace DL
open PySem PySem.Spec PyProof.Rows L2
/-- the fewest of a hall, as a number -/
noncomputable def fewC (h : Hl) : Int := Classical.epsilon (IsFew h.1 h.2)
theorem fewC_eq {h : Hl} {f : Int} (hf : IsFew h.1 h.2 f) : fewC h = f := (Classical.epsilon_spec (p := IsFew h.1 h.2) ⟨f, hf⟩).uniq hf
end DL
namespace DL
open PySem PySem.Spec PyProof.Rows L2
theorem walk_mem {rl : Int → Int → Prop} {F P : List Int} {run : List (Int × Int)} (h : RunV rl F P run) {k : Nat} {q : Int × Int} (hq : run[k]? = some q) (hn : q.2 ≠ -1) : q.2 ∈ leftL P.length (run.take k) := by
  have hs := h.any.s
  rw [← leftT_nil] at hs
  have := gs_ok hq hs
  rw [leftL_leftT]
  unfold okq at this
  grind
theorem walk_take {P : List Int} {run : List (Int × Int)} {k : Nat} {g j : Int} (hq : run[k]? = some (g, j)) : (walkD P run).take (k + 1) = (walkD P run).take k ++ [.tuple [.int g, .int (if j = -1 then 0 else getI P j), .tuple ((leftL P.length (run.take (k + 1))).map fun j => .int (getI P j))]] := by
  have hl := (List.getElem?_eq_some_iff.mp hq).1
  have e : (walkD P run)[k]? = some (.tuple [.int g, .int (if j = -1 then 0 else getI P j), .tuple ((leftL P.length (run.take (k + 1))).map fun j => .int (getI P j))]) := by
    unfold walkD
    rw [List.getElem?_map, List.getElem?_range hl]
    have : run.getD k (0, 0) = (g, j) := by simp [List.getD, hq]
    show some (PyData.tuple [.int (run.getD k (0, 0)).1, .int (if (run.getD k (0, 0)).2 = -1 then 0 else getI P (run.getD k (0, 0)).2), .tuple ((leftL P.length (run.take (k + 1))).map fun j => .int (getI P j))]) = some _
    rw [this]
  rw [List.take_add_one, e]
  rfl
end DL
namespace DL
open PySem PySem.Spec PyProof.Rows L2
theorem last_atF {α : Type} {hs : List α} {h : α} (g : α → PyData) (e : hs.getLast? = some h) : atI (hs.map g) (-1) = some (g h) := by
  have hl : 0 < hs.length := by cases hs with | nil => cases e | cons a b => simp
  unfold atI ixN
  rw [if_neg (by decide), if_pos (by rw [List.length_map]; omega)]
  show (hs.map g)[_]? = _
  rw [List.getElem?_map]
  have : ((-1 : Int) + ((hs.map g).length : Int)).toNat = hs.length - 1 := by rw [List.length_map]; omega
  rw [this, ← List.getLast?_eq_getElem?, e]
  rfl
end DL
open PySem PySem.Spec PyProof.Rows L2
namespace DL
/-- a contract made stronger -/
theorem FnGX.imp {P : Program} {w : World} {K : PySem.W.Frag} {mg : Str → Option Value} {base : Heap} {k m : Nat} {f : Addr} {fd : FuncData} {ps : List Str} {c c' : DSpecX} (F : FnGX P w K mg base k f fd ps (spDX K m c)) (h : ∀ as n R E, c' as n R E → c as n R E) : FnGX P w K mg base k f fd ps (spDX K m c') :=
  have g : ∀ vs H Q E, spDX K m c' vs H Q E → spDX K m c vs H Q E := fun vs H Q E ⟨δ, Fz, as, n, R, E', hl, w1, s1, d1, o1, hc, hk, hx⟩ => ⟨δ, Fz, as, n, R, E', hl, w1, s1, d1, o1, h _ _ _ _ hc, hk, hx⟩
  ⟨fun vs H Q E hs => F.len vs H Q E (g _ _ _ _ hs), fun A outer s H args us vs Q E hg hr e0 hb rv hs => F.run A outer s H args us vs Q E hg hr e0 hb rv (g _ _ _ _ hs)⟩
end DL
open PySem PySem.Spec PyProof.Rows L2
namespace DL
def Nr : Nat → PyData → Prop
  | 0, d => isRefD d = false
  | k + 1, d => isRefD d = false ∧ ∀ ds, d = .tuple ds → ∀ x ∈ ds, Nr k x
theorem Nr.one : ∀ {k : Nat} {d : PyData}, Nr k d → isRefD d = false
  | 0, _, h => h
  | _ + 1, _, h => h.1
def NrA (d : PyData) : Prop := ∀ k, Nr k d
theorem NrA.leaf {d : PyData} (h : isRefD d = false) (h2 : ∀ ds, d ≠ .tuple ds) : NrA d := fun k => by
  cases k with
  | zero => exact h
  | succ k => exact ⟨h, fun ds e => absurd e (h2 ds)⟩
theorem NrA.tup {ds : List PyData} (h : ∀ x ∈ ds, NrA x) : NrA (.tuple ds) := fun k => by
  cases k with
  | zero => rfl
  | succ k => exact ⟨rfl, fun es e x hx => by cases e; exact h x hx k⟩
theorem NrA.int (z : Int) : NrA (.int z) := .leaf rfl fun _ e => (nomatch e)
theorem NrA.nr {d : PyData} (h : NrA d) : isRefD d = false := h 0
structure GV (m k : Nat) (d : PyData) : Prop where
  tm : TameE m k d
  nr : NrA d
theorem GV.mono {m k m' k' : Nat} {d : PyData} (h : GV m k d) (h1 : m ≤ m') (h2 : k ≤ k') : GV m' k' d := ⟨h.tm.mono h1 h2, h.nr⟩
theorem gv_int {z : Int} (h0 : -1 ≤ z) (h1 : z ≤ 10000000) : GV 500 4 (.int z) := ⟨(tameE_int (m := 24) (by omega) (by decide) (by decide)).mono (by decide) (by decide), .int z⟩
theorem gv_tup {m k l : Nat} {ds : List PyData} (h : ∀ x ∈ ds, GV m k x) (hl : ds.length ≤ l) : GV (l * (m + 2) + 3) (k + 1) (.tuple ds) := ⟨(tameE_tuple (m := m) (k := k) (l := l) (fun d hd => (h d hd).tm) hl).mono (by first | exact Nat.le_refl _ | omega | (rw [Nat.mul_add]; omega)) (Nat.le_refl _), .tup fun x hx => (h x hx).nr⟩
def BentJ : Nat → PyData → Prop
  | 0, d => ∃ z : Int, d = .int z ∧ 1 ≤ z ∧ z ≤ 1000000
  | j + 1, d => (∃ z : Int, d = .int z ∧ 1 ≤ z ∧ z ≤ 1000000) ∨ ∃ ds, d = .tuple ds ∧ ds.length ≤ 20 ∧ ∀ x ∈ ds, BentJ j x
def bnd : Nat → Nat | 0 => 500 | 1 => 21000 | _ => 900000
def dep : Nat → Nat | 0 => 4 | 1 => 6 | _ => 7
def GJ (j : Nat) (d : PyData) : Prop := GV (bnd j) (dep j) d
theorem GV.gj {d : PyData} (h : GV 500 4 d) : ∀ {j : Nat}, j ≤ 2 → GJ j d
  | 0, _ => h
  | 1, _ => GV.mono h (by decide) (by decide)
  | 2, _ => GV.mono h (by decide) (by decide)
theorem gj_tup {j : Nat} {ds : List PyData} (h : ∀ x ∈ ds, GJ j x) (hl : ds.length ≤ 41) (hj : j ≤ 1) : GJ (j + 1) (.tuple ds) := by
  match j, hj, h with
  | 0, _, h => exact GV.mono (gv_tup h hl) (by decide) (by decide)
  | 1, _, h => exact GV.mono (gv_tup h hl) (by decide) (by decide)
theorem BentJ.gj : ∀ {j : Nat} {d : PyData}, j ≤ 1 → BentJ j d → GJ j d
  | 0, _, _, ⟨z, e, h0, h1⟩ => by subst e; exact (gv_int (by omega) (by omega)).gj (by decide)
  | 1, _, _, .inl ⟨z, e, h0, h1⟩ => by subst e; exact (gv_int (by omega) (by omega)).gj (by decide)
  | 1, _, _, .inr ⟨ds, e, hl, h⟩ => by subst e; exact gj_tup (fun x hx => (h x hx).gj (by decide)) (by omega) (by decide)
theorem BentJ.nr {j : Nat} {d : PyData} (hj : j ≤ 1) (h : BentJ j d) : isRefD d = false := (BentJ.gj hj h).nr.nr
def two35 (a b : Str) : PyData := .list [.str a, .str b]
theorem two35_eq (a b : Str) : PyData.eqv (two35 a b) (two35 a b) = true := by
  unfold two35
  simp [PyData.eqv, PyData.eqvAll]
def okT (s : Str) : Prop := PyData.strOk s = true
theorem okT.sh {s : Str} (h : okT s) : Sh (.str s) := (tame_str h).shaped (by decide)
theorem two35_sh {a b : Str} (ha : okT a) (hb : okT b) : Sh (two35 a b) := (tame_list (m := 10 * a.length + 10 * b.length + 100) (k := 0) (l := 2) (all2 ((tame_str ha).mono (by omega) (by decide)) ((tame_str hb).mono (by omega) (by decide))) (Nat.le_refl 2)).shaped (by decide)
end DL
open PySem PySem.Spec PyProof.Rows L2
namespace DL
/-- no object is named, told by looking -/
def noRef : Nat → PyData → Bool
  | 0, _ => false
  | k + 1, .tuple ds => ds.all (noRef k)
  | _ + 1, d => !isRefD d
theorem noRef_ok : ∀ {k : Nat} {d : PyData}, noRef k d = true → NrA d
  | 0, _, h => by cases h
  | k + 1, .tuple ds, h => .tup fun x hx => noRef_ok (List.all_eq_true.mp h x hx)
  | _ + 1, .int _, _ => .leaf rfl fun _ e => PyData.noConfusion e
  | _ + 1, .bool _, _ => .leaf rfl fun _ e => PyData.noConfusion e
  | _ + 1, .none, _ => .leaf rfl fun _ e => PyData.noConfusion e
  | _ + 1, .str _, _ => .leaf rfl fun _ e => PyData.noConfusion e
  | _ + 1, .list _, _ => .leaf rfl fun _ e => PyData.noConfusion e
  | _ + 1, .dict _, h => .leaf (by simpa [noRef] using h) fun _ e => PyData.noConfusion e
theorem gv_look {ds : List PyData} {m k : Nat} (h : (ds.all fun d => d.showable && decide (d.depth ≤ k) && decide (d.shown.length ≤ m) && noRef 9 d) = true) : ∀ d ∈ ds, GV m k d := fun d hd => by
  have k2 := List.all_eq_true.mp h d hd
  rw [Bool.and_eq_true, Bool.and_eq_true, Bool.and_eq_true, decide_eq_true_eq, decide_eq_true_eq] at k2
  exact ⟨⟨k2.1.1.1, k2.1.1.2, k2.1.2⟩, noRef_ok k2.2⟩
end DL
set_option maxHeartbeats 4000000
set_option maxHeartbeats 4000000
set_option maxHeartbeats 4000000
set_option maxHeartbeats 4000000
set_option maxHeartbeats 4000000
namespace DL
open PySem PySem.Spec PyProof.Rows L2
theorem _root_.L2H.RoomH.units {k : Nat} {A : Around} (r : L2H.RoomH k A) : A.units + 64 < cLine := by have := r.un; omega
end DL
set_option maxHeartbeats 4000000
namespace DL
open PySem PySem.Spec PyProof PyProof.Rows L2 Builtin Float
def f8 : FormatSpec := { fill := 32, align := 62, width := some 8, grouping := some ',' }
end DL
set_option maxHeartbeats 4000000
namespace DL
open PySem PySem.Spec PyProof.Rows L2
variable {X : Cx} {Y : Fx} {k : Nat} {f : Addr} {fd : FuncData} {ps : List Str} {PC : Addr → Prop} {m : Str} {c : Addr → DSpecG} {sp : SpG}
def E1 (Eh : XK) (C0 : Addr) : XK := fun cls d H => Eh cls d H ∧ cls = .ref C0
abbrev GEx (Y : Fx) (X : Cx) (k : Nat) (Eh : XK) (C0 : Addr) (e : Expr) (t : DGn) : Prop := PGen X k e (upGn Y X.K t) (E1 Eh C0)
def dMethGKx (PC : Addr → Prop) (m : Str) (l : Nat) (c : Addr → DSpecG) (dw : DW) (C0 : Addr) (to tv : DTE) : DGn := fun ρ n R => to ρ n fun x n1 => ∃ a o, x = .dat (refD a) ∧ n1.ob a = some o ∧ PC o.C ∧ o.fs.lookup m = none ∧
  tv ρ n1 fun y n2 => 2 = l ∧ c o.C [.dat (refD a), y] n2 R fun ex n3 => dw ex ρ n3 ∧ ex.C = C0
/-- o.m(kw = v) of a generator method -/
theorem ge_methKx0 {pl : Sem Bool} {kw : Str} {Eh : XK} {C0 : Addr} {dw : DW} {o ev : Expr} {to tv : DTE} {apos pos kpos : Pos} (ok : WOk Y X.K dw (fun cls d _ H => Eh cls d H)) (HM : HasMGK X.prog X.w X.K X.mg X.base PC m kw k ps c) (hr : Room k X.A)
    (ho : WE Y X o to) (hv : WE Y X ev tv)
    (hall : (backToKw pos (keywordEach [⟨some kw, ev, kpos⟩] X.env)).all (·.1.isSome) = true := by rfl) (hks : (backToKw pos (keywordEach [⟨some kw, ev, kpos⟩] X.env)).filterMap (·.1) = [kw] := by rfl)
    (hpl : ((backTo pos (starEach [] X.env)).any (·.1) || (backToKw pos (keywordEach [⟨some kw, ev, kpos⟩] X.env)).any (·.1.isNone)) = false := by rfl)
    (ht : eval (.Call (.Attribute o m apos) [] [⟨some kw, ev, kpos⟩] pos) X.env = (do
      let ov ← eval o X.env
      standAt apos.atName
      let (f, first) ← holding [ov] (getMethod ov m pl)
      callWith pos f first (backTo pos (starEach [] X.env)) (backToKw pos (keywordEach [⟨some kw, ev, kpos⟩] X.env))) := by rfl) :
    GEx Y X k Eh C0 (.Call (.Attribute o m apos) [] [⟨some kw, ev, kpos⟩] pos) (dMethGKx PC m ps.length c dw C0 to tv) :=
  ⟨fun pins s σ H Q I ⟨Z, F, ρ, n, R, r, hto, kk⟩ => by
    refine PySem.W.methodCall_KW (pl := pl) (thn (ho.run pins s σ H (fun v H1 => ∃ x n1 F1, _ ∧ Gr Z.δ F H F1 H1 ∧ Same F1 H1 ∧ Z.δ.at_ X.K F1 H1 n1 ∧ VR X.K Z.δ F1 H1 x v) I ⟨Z, F, ρ, n, _, r, hto, fun x n1 F1 H1 v hx g1 s1 d1 w1 => ⟨x, n1, F1, hx, g1, s1, d1, w1⟩⟩) fun u s1 ⟨v, H1, I1, rx, x, n1, F1, ⟨a, ob, ex, hob, hPC, hl, hta⟩, g1, s1', d1, w1⟩ => ?_) ht
    subst ex
    obtain rfl := VR.ref w1
    obtain rfl : u = Value.ref a := rx
    obtain ⟨_, dx, vs, h2, h3⟩ := d1.2.1 a ob hob
    obtain ⟨hcl, g, fd, hM, hB, hF⟩ := HM _ hPC
    refine getmeth_ok I1 h2 hcl hM (h3.lookup_none hl) ?_
    have r1 := r.step g1 s1' d1
    refine PySem.W.callWith_KW0 (first := [.ref a]) (h₀ := X.base) I.ok.mod.kin hM.kp hall ?_ hpl
    refine thn ((pk_cons hv pk_nil).run pos pins s1 σ H1 (fun zs H3 => zs.length = 1 ∧ spDG X.K ps.length (c ob.C) ([.ref a] ++ zs) H3 Q (E1 Eh C0)) I1 ⟨Z, F1, ρ, n1, _, r1, hta, fun y n3 F3 H3 v ⟨hlen, hx⟩ g3 s3 d3 w3 => ⟨rfl, ?_⟩⟩) fun ws s3 ⟨zs, H3, I3, rz, hz, q3⟩ => ⟨I3.kIn, ?_⟩
    · have r3 := r1.step g3 s3 d3
      exact ⟨Z.δ, F3, [.dat (refD a), y], n3, _, _, hlen, .cons vr_ref (.cons w3 .nil), s3, d3, r3.b.dkF, hx, fun d n4 F4 H4 v h4 g4 s4 d4 w5 => kk _ _ _ _ _ h4 ((g1.trans g3).trans g4) s4 d4 w5, fun ex n4 F4 H4 cls d h4 g4 s4 d4 w5 => ⟨ok _ _ _ _ _ _ _ _ _ h4.1 (r3.step g4 s4 d4) w5, by rw [w5.1, h4.2]⟩⟩
    · rw [hks]
      exact run_gfnK (us := [.ref a]) (vs := [.ref a]) hF hr hB I3 (.cons rfl .nil) rz hz q3⟩
theorem me_listGx {Eh : XK} {C0 : Addr} {e : Expr} {t : DGn} {p pos : Pos} (tk : Takes X (fun cls d _ H => Eh cls d H)) (hns : PySem.W.subIn X.K (.ref C0) (.type "StopIteration") = some false) (h : GEx Y X k Eh C0 e t) (hr : Room (k + 3) X.A) (hg : Gl X "list") (hm : X.mg "list" = none)
    (he : starEach [e] X.env = (false, eval e X.env) :: starEach [] X.env := by rfl) : ME Y X (.Call (.Name "list" p) [e] [] pos) (mListG t) :=
  pe_imp (pe_listG (nm := "list") h (fun pins σ H s e s' I c => tk e s' (XE.of_call I (fun _ _ _ h => h.1) c)) (fun cls d H q => by rw [q.2]; exact hns) hr hg hm (by decide) (he := he)) fun σ H Q ⟨Z, F, ρ, n, R, r, ht, k⟩ => ⟨Z, F, ρ, n, R, r, ht, fun ds n' F' H' ys h4 g1 s1 d1 w1 => fun q hq => by
    obtain ⟨g2, s2⟩ := Gp.newM (o := .lst ys) hq s1
    have hp0 : H q = none := by
      cases e : H q with
      | none => rfl
      | some o => exact absurd hq (g1.dH q (by rw [e]; nofun))
    exact k _ _ _ _ _ _ h4 (g1.trans g2.gr) s2 (g2.dk ((r.step g1 s1 d1).b)) hp0 (s1.free hq) upd_same w1⟩
end DL
set_option maxHeartbeats 4000000
set_option maxHeartbeats 4000000
set_option maxHeartbeats 4000000
namespace DL
open PySem PySem.Spec PyProof.Rows L2
section
variable {prog : Program} {w : World} {A : Around} {E : Value → Shared → Prop} {s : Shared}
/-- 'next' of an enumerate whose last pair is still there, over any iterator -/
theorem en_held {e it T : Addr} {fp : List Addr} {n i : Nat} {c : Int} {P : Nat → Value → Prop} {St : Nat → Heap → Prop} {old : Value} {f : Bool} {oT : Obj} {Q : Option Value → Shared → Prop}
    (D : Draws prog w A.in1 it fp n P St) (he : IsEnumHeld s.heap e it c old T f) (hT : s.heap.get? T = some oT) (hTe : T ≠ e) (hTi : T ≠ it) (hst : St i s.heap) (hlt : i < n) (hne : e ≠ it) (hef : e ∉ fp)
    (hQ : ∀ x h' tk, P i x → IsEnumHeld h' e it (c + 1) old T true → St (i + 1) h' → h'.get? s.heap.objs.size = some { cls := .type "tuple", data := .seq #[.int c tk, x] } → h'.objs.size = s.heap.objs.size + 1 →
      (∀ b o, b ≠ e → b ≠ it → s.heap.get? b = some o → h'.get? b = some o) → Q (some (.ref s.heap.objs.size)) { s with heap := h', toks := tk + 1 }) :
    wpAny (model prog w) A (pyNext (.ref e)) Q E s := by
  have hTy : s.TypeIs (.ref e) "enumerate" := ⟨_, he, rfl⟩
  unfold pyNext
  refine wpAny_bind (wpAny_attempt (wpAny_callSpecial?_slot (name := Str.ofString "__next__") hTy F.slot_enumerate_next (wpAny_call_entry F.slot_enumerate_next hTy F.entry_enumerate_next ?_ (F.args_enumerate_next_1 _))))
  obtain ⟨hp, g, d, tk₀, os⟩ := s
  show wpAny _ _ (field (.ref e) 2 >>= _) _ _ _
  refine wpAny_bind (wpAny_field he rfl (x := .ref it) rfl (wpAny_bind (D.item i _ _ _ hlt hst fun x h1 tk hP st1 sb1 => ?_)))
  replace sb1 : Heap.SameBut it hp h1 := sb1
  have e1 : IsEnumHeld h1 e it c old T f := (sb1.2 e hne).trans he
  show wpAny _ _ (field (.ref e) 3 >>= _) _ _ ⟨h1, g, d, tk, os⟩
  refine wpAny_bind (wpAny_field e1 rfl (x := rawInt c) rfl ?_)
  show wpAny _ _ (field (.ref e) 4 >>= _) _ _ ⟨h1, g, d, tk, os⟩
  refine wpAny_bind (wpAny_field e1 rfl (x := .none) rfl ?_)
  show wpAny _ _ (mkInt c >>= _) _ _ ⟨h1, g, d, tk, os⟩
  refine wpAny_bind (wpAny_mkInt ?_)
  show wpAny _ _ (setField (.ref e) 3 (rawInt (c + 1)) >>= _) _ _ ⟨h1, g, d, tk + 1, os⟩
  refine wpAny_bind (wpAny_setField_rec e1 (by simp) fun h2 e2 sb2 => ?_)
  replace sb2 : Heap.SameBut e h1 h2 := sb2
  replace e2 : IsEnumHeld h2 e it (c + 1) old T f := e2
  show wpAny _ _ (setField (.ref e) 4 .none >>= _) _ _ ⟨h2, g, d, tk + 1, os⟩
  refine wpAny_bind (wpAny_setField_rec e2 (by simp) fun h3 e3 sb3 => ?_)
  replace sb3 : Heap.SameBut e h2 h3 := sb3
  replace e3 : IsEnumHeld h3 e it (c + 1) old T f := e3
  show wpAny _ _ (newTuple [.int c tk, x] >>= _) _ _ ⟨h3, g, d, tk + 1, os⟩
  refine wpAny_bind (wpAny_newTuple ?_)
  have sz : h3.objs.size = hp.objs.size := by rw [sb3.1, sb2.1, sb1.1]
  have el : e < hp.objs.size := Heap.lt_size he
  have kp : ∀ b o, b ≠ e → b ≠ it → hp.get? b = some o → h3.get? b = some o := fun b o q1 q2 q => sb3.extBut b o q1 (sb2.extBut b o q1 (sb1.extBut b o q2 q))
  have st3 : St (i + 1) h3 := D.frame _ _ _ st1 fun b hb o y => by
    have q1 : b ≠ e := fun q => hef (q ▸ hb)
    exact sb3.extBut b o q1 (sb2.extBut b o q1 y)
  generalize ht : h3.push { cls := .type "tuple", data := .seq #[.int c tk, x] } = h4
  have up : ∀ b o, h3.get? b = some o → h4.get? b = some o := fun b o q => by rw [← ht]; exact Heap.get?_push_of_some _ q
  have e4 : IsEnumHeld h4 e it (c + 1) old T f := up _ _ e3
  have t4 : h4.get? hp.objs.size = some { cls := .type "tuple", data := .seq #[.int c tk, x] } := by rw [← ht, ← sz]; exact Heap.get?_push_size _ rfl
  have z4 : h4.objs.size = hp.objs.size + 1 := by rw [← ht, Heap.size_push, sz]
  have st4 : St (i + 1) h4 := D.frame _ _ _ st3 fun b hb o y => up b o y
  show wpAny _ _ (Builtin.SmallTypes.ownedTupleIsFree (.ref e) >>= _) _ _ ⟨h4, g, d, tk + 1, os⟩
  rw [sz]
  refine wpAny_bind (wpAny_tupleHeld_enum (s := ⟨h4, g, d, tk + 1, os⟩) e4 (up _ _ (kp T oT hTe hTi hT)) fun h5 e5 sb5 => ?_)
  replace sb5 : Heap.SameBut e h4 h5 := sb5
  simp only [Bool.false_eq_true, if_false]
  refine wpAny_pure ⟨_, rfl, wpAny_pure (hQ x h5 tk hP e5 (D.frame _ _ _ st4 fun b hb o y => sb5.extBut b o (fun q => hef (q ▸ hb)) y) (sb5.extBut _ _ (Nat.ne_of_gt el) t4) ?_ fun b o q1 q2 q => sb5.extBut b o q1 (up b o (kp b o q1 q2 q)))⟩
  show h5.objs.size = hp.objs.size + 1
  rw [sb5.1, z4]
theorem en_stop {e it : Addr} {fp : List Addr} {n : Nat} {P : Nat → Value → Prop} {St : Nat → Heap → Prop} {fs : Array Value} {sl : Array (Option Value)} {Q : Option Value → Shared → Prop}
    (D : Draws prog w A.in1 it fp n P St) (he : s.heap.get? e = some { cls := .type "enumerate", dict := none, data := .fields fs, slots := sl }) (h2 : fs[2]? = some (.ref it)) (hst : St n s.heap)
    (hQ : ∀ h', Heap.ExtBut it s.heap h' → Q none { s with heap := h' }) : wpAny (model prog w) A (pyNext (.ref e)) Q E s := by
  have hT : s.TypeIs (.ref e) "enumerate" := ⟨_, he, rfl⟩
  unfold pyNext
  refine wpAny_bind (wpAny_attempt (wpAny_callSpecial?_slot (name := Str.ofString "__next__") hT F.slot_enumerate_next (wpAny_call_entry F.slot_enumerate_next hT F.entry_enumerate_next ?_ (F.args_enumerate_next_1 _))))
  show wpAny _ _ (field (.ref e) 2 >>= _) _ _ _
  refine wpAny_bind (wpAny_field he rfl (x := .ref it) h2 (wpAny_bind (D.done _ _ _ hst fun h' x eb ⟨o, ho, hc⟩ => ?_)))
  exact wpAny_bind (wpAny_isInstance (T := "StopIteration") (b := true) ⟨o, ho, hc⟩ isSubtype_stop (wpAny_pure (hQ _ eb)))
end
/-- while the enumerate is walked into the list at S -/
structure EC (e it t S : Addr) (xs : Array Value) (h0 : Heap) (i : Nat) (h : Heap) : Prop where
  ji : h.IsTupleIter it t i
  mt : h.IsTuple t xs
  ee : (∃ old, IsEnum h e it i old) ∨ ∃ old T f oT, IsEnumHeld h e it i old T f ∧ h.get? T = some oT ∧ T ≠ e ∧ T ≠ it ∧ T ≠ S
  li : ∃ c, h.get? S = some { cls := .type "list", dict := none, data := .seq (zAcc S i) c, slots := #[] }
  ps : ∀ j, j < i → ∃ x tk, xs[j]? = some x ∧ h.get? (S + 1 + j) = some { cls := .type "tuple", data := .seq #[.int (j : Nat) tk, x] }
  old : ∀ b o, b ≠ e → b ≠ it → (b : Nat) < S → h0.get? b = some o → h.get? b = some o
  sz : h.objs.size = S + 1 + i
structure ELt (e it t S : Addr) : Prop where
  ei : e ≠ it
  te : t ≠ e
  ti : t ≠ it
  le : (e : Nat) < S
  li : (it : Nat) < S
  lt : (t : Nat) < S
/-- after the last pair -/
structure EEnd (e it S : Addr) (xs : Array Value) (h0 : Heap) (h : Heap) : Prop where
  li : ∃ c, h.get? S = some { cls := .type "list", dict := none, data := .seq (zAcc S xs.size) c, slots := #[] }
  ps : ∀ j, j < xs.size → ∃ x tk, xs[j]? = some x ∧ h.get? (S + 1 + j) = some { cls := .type "tuple", data := .seq #[.int (j : Nat) tk, x] }
  old : ∀ b o, b ≠ e → b ≠ it → (b : Nat) < S → h0.get? b = some o → h.get? b = some o
section
variable {P : Program} {w : World} {A : Around} {e it t S : Addr} {xs : Array Value} {h0 : Heap}
theorem ec_item {i : Nat} {s : Shared} {Q : Option Value → Shared → Prop} {E : Value → Shared → Prop} (hh : A.handled = none) (L : ELt e it t S) (C : EC e it t S xs h0 i s.heap) (hx : i < xs.size)
    (hQ : ∀ h' tk, (∀ c, s.heap.get? S = some { cls := .type "list", dict := none, data := .seq (zAcc S i) c, slots := #[] } → h'.get? S = some { cls := .type "list", dict := none, data := .seq (zAcc S i) c, slots := #[] }) →
      (∀ h2, (∀ b o, b ≠ S → h'.get? b = some o → h2.get? b = some o) → h2.objs.size = h'.objs.size → (∃ c, h2.get? S = some { cls := .type "list", dict := none, data := .seq (zAcc S (i + 1)) c, slots := #[] }) → EC e it t S xs h0 (i + 1) h2) →
      Q (some (.ref (S + 1 + i))) { s with heap := h', toks := tk }) : wpAny (model P w) A (pyNext (.ref e)) Q E s := by
  have ex := Array.getElem?_eq_getElem hx
  have de : (e : Nat) < S := L.le
  have di : (it : Nat) < S := L.li
  have dt : (t : Nat) < S := L.lt
  have n1 : s.heap.objs.size = S + 1 + i := C.sz
  have ec : ((i + 1 : Nat) : Int) = (i : Int) + 1 := by omega
  have D := Draws.tuple (prog := P) (w := w) (A := A.in1) (by simp [hh]) it t L.ti xs
  have fin : ∀ y h' tk, xs[i]? = some y → h'.IsTupleIter it t (i + 1) → h'.IsTuple t xs → h'.get? s.heap.objs.size = some { cls := .type "tuple", data := .seq #[.int (i : Nat) tk, y] } → h'.objs.size = s.heap.objs.size + 1 → (∀ b o, b ≠ e → b ≠ it → s.heap.get? b = some o → h'.get? b = some o) →
      (∃ old T f oT, IsEnumHeld h' e it ((i + 1 : Nat) : Int) old T f ∧ h'.get? T = some oT ∧ T ≠ e ∧ T ≠ it ∧ T ≠ S) → Q (some (.ref s.heap.objs.size)) { s with heap := h', toks := tk + 1 } := fun y h' tk hy ji mt ht hsz hk ⟨old, T, f, oT, a1, a2, a3, a4, a5⟩ => by
    rw [C.sz] at ht hsz ⊢
    refine hQ h' (tk + 1) (fun c q => hk _ _ (ng de) (ng di) q) fun h2 g sz2 li => ?_
    have g' : ∀ b o, b ≠ e → b ≠ it → b ≠ S → s.heap.get? b = some o → h2.get? b = some o := fun b o q1 q2 q5 q => g b o q5 (hk b o q1 q2 q)
    exact {
      ji := ji.at fun o => g _ o (nl di)
      mt := mt.at fun o => g _ o (nl dt)
      ee := .inr ⟨old, T, f, oT, g _ _ (nl de) a1, g _ _ a5 a2, a3, a4, a5⟩
      li := li
      ps := fun j hj => by
        rcases Nat.lt_succ_iff_lt_or_eq.mp hj with q | q
        · obtain ⟨x, tk, p1, p2⟩ := C.ps j q
          exact ⟨x, tk, p1, g' _ _ (nfar rfl de) (nfar rfl di) (nfarS rfl) p2⟩
        · subst q
          exact ⟨_, _, hy, g _ _ (nfarS rfl) ht⟩
      old := fun b o q1 q2 q5 q => g' b o q1 q2 (Nat.ne_of_lt q5) (C.old b o q1 q2 q5 q)
      sz := by rw [sz2, hsz]; omega }
  rcases C.ee with ⟨old, he⟩ | ⟨old, T, f, oT, he, hT, r1, r2, r3⟩
  · refine wpAny_pyNext_enum_itemC (fp := [it, t]) D he (i := i) ⟨C.ji, C.mt⟩ hx L.ei (by simp; exact ⟨L.ei, Ne.symm L.te⟩) fun y h' tk hy ho hst hT hsz hk => ?_
    have key := fin y h' tk hy hst.1 hst.2 hT hsz hk ⟨_, s.heap.objs.size, false, _, (by rw [ec]; exact ho), hT, nfar n1 de, nfar n1 di, nfarS n1⟩
    exact n1 ▸ key
  · refine en_held (fp := [it, t]) D he hT r1 r2 (i := i) ⟨C.ji, C.mt⟩ hx L.ei (by simp; exact ⟨L.ei, Ne.symm L.te⟩) fun y h' tk hy ho hst hT' hsz hk => ?_
    have key := fin y h' tk hy hst.1 hst.2 hT' hsz hk ⟨old, T, true, oT, (by rw [ec]; exact ho), hk _ _ r1 r2 hT, r1, r2, r3⟩
    exact n1 ▸ key
theorem ec_done {s : Shared} {Q : Option Value → Shared → Prop} {E : Value → Shared → Prop} (hh : A.handled = none) (L : ELt e it t S) (C : EC e it t S xs h0 xs.size s.heap)
    (hQ : ∀ h', EEnd e it S xs h0 h' → Q none { s with heap := h' }) : wpAny (model P w) A (pyNext (.ref e)) Q E s := by
  have de : (e : Nat) < S := L.le
  have di : (it : Nat) < S := L.li
  have D := Draws.tuple (prog := P) (w := w) (A := A.in1) (by simp [hh]) it t L.ti xs
  have fin : ∀ h', Heap.ExtBut it s.heap h' → Q none { s with heap := h' } := fun h' hk => by
    obtain ⟨c, li⟩ := C.li
    exact hQ h' {
      li := ⟨c, hk _ _ (ng di) li⟩
      ps := fun j hj => by
        obtain ⟨x, tk, p1, p2⟩ := C.ps j hj
        exact ⟨x, tk, p1, hk _ _ (nfar rfl di) p2⟩
      old := fun b o q1 q2 lt q => hk b o q2 (C.old b o q1 q2 lt q) }
  rcases C.ee with ⟨old, he⟩ | ⟨old, T, f, oT, he, hT, r1, r2, r3⟩
  · exact en_stop D he rfl ⟨C.ji, C.mt⟩ fin
  · exact en_stop D he rfl ⟨C.ji, C.mt⟩ fin
theorem ec_loop {R : Result → Shared → Prop} {res : Value} (hh : A.in1.handled = none) (L : ELt e it t S) (hl : xs.size ≤ sizeLine) :
    ∀ (m i : Nat) (s : Shared), i + m = xs.size → EC e it t S xs h0 i s.heap → (∀ h' tk, EEnd e it S xs h0 h' → R (.ok (.ret res)) { s with heap := h', toks := tk }) →
      codeAny (model P w) A (.builtin "list.extend.loop" ⟨[.ref S, .ref e, res], []⟩) R s := by
  intro m
  induction m with
  | zero =>
    intro i s e1 C hR
    obtain rfl : i = xs.size := e1
    refine codeAny_builtin F.entry_extend_loop ?_
    rw [Around.under_plainId F.plain_extend_loop _]
    exact wpAny_bind (m := pyNext (.ref e)) (ec_done hh L C fun h' q => wpAny_pure (hR h' s.toks q))
  | succ m ih =>
    intro i s e1 C hR
    refine codeAny_builtin F.entry_extend_loop ?_
    rw [Around.under_plainId F.plain_extend_loop _]
    refine wpAny_bind (m := pyNext (.ref e)) (ec_item hh L C (by omega) fun h' tk keep next => ?_)
    obtain ⟨c, li⟩ := C.li
    have li' := keep c li
    refine wpAny_bind (m := updateSeq S (·.push (.ref (S + 1 + i)))) (wpAny_updateSeq li' rfl (wpAny_pure ⟨plainId_quiet F.plain_extend_loop _, ih (i + 1) _ (by omega) (next _ (fun b o hb q => (Heap.get?_update_other _ _ (Ne.symm hb)).trans q) ?_ ?_) hR⟩) ?_ ?_)
    · exact Heap.size_update ..
    · have q := Heap.get?_update_self (Obj.mapSeq (·.push (Value.ref (S + 1 + i)))) li' rfl
      rw [← zAcc_push]
      exact ⟨_, q⟩
    · rw [zAcc_size]; omega
    · show ((zAcc S i).push _).size ≤ sizeLine + 1
      rw [Array.size_push, zAcc_size]; omega
theorem enum_no_len : typeLookup (.type "enumerate") "__len__" = pure none := by rw [typeLookup_type, builtinLookup_eq_fast]; kernel_rfl
theorem enum_no_hint : typeLookup (.type "enumerate") "__length_hint__" = pure none := by rw [typeLookup_type, builtinLookup_eq_fast]; kernel_rfl
/-- an enumerate just made of a tuple -/
structure ENew (e it t : Addr) (xs : Array Value) (h : Heap) : Prop where
  he : ∃ old, IsEnum h e it ((0 : Nat) : Int) old
  ji : h.IsTupleIter it t 0
  mt : h.IsTuple t xs
theorem ENew.mono {h h' : Heap} (Z : ENew e it t xs h) (k : ∀ b o, h.get? b = some o → h'.get? b = some o) : ENew e it t xs h' := ⟨Z.he.imp fun _ q => k _ _ q, Z.ji.at fun o => k _ o, Z.mt.at fun o => k _ o⟩
theorem en_extend {R : Result → Shared → Prop} {s : Shared} {c : Nat} {res : Value} (hh : A.handled = none) (Z : ENew e it t xs s.heap) (L : ELt e it t S) (hS : s.heap.get? S = some { cls := .type "list", data := .seq #[] c }) (hz : s.heap.objs.size = S + 1) (hl : xs.size ≤ sizeLine)
    (hR : ∀ h' tk, EEnd e it S xs s.heap h' → R (.ok (.ret res)) { s with heap := h', toks := tk }) :
    wpAny (model P w) A.in1 (Builtin.List.listExtendWith (.ref S) (.ref e) res) (fun fin s' => match fin with | .done f => R (.ok f) s' | .again c' => c'.quiet = true ∧ codeAny (model P w) A c' R s') (fun e s' => R (.error e) s') s := by
  obtain ⟨old, he⟩ := Z.he
  have ty : s.TypeIs (.ref e) "enumerate" := ⟨_, he, rfl⟩
  unfold Builtin.List.listExtendWith
  refine wpAny_bind (wpAny_typeOf ty ?_)
  have o1 : Builtin.List.listSameRef (.ref S) (.ref e) = false := by simp [Builtin.List.listSameRef]; exact ng L.le
  have o2 : (Value.type "enumerate" == Value.type "list") = false := by decide
  have o3 : (Value.type "enumerate" == Value.type "tuple") = false := by decide
  rw [o1, o2, o3]
  simp only [Bool.or_false, Bool.false_eq_true, if_false]
  refine wpAny_bind (wpAny_pyIter_enum he (wpAny_bind (wpAny_holding ?_)))
  unfold Builtin.List.listLengthHint
  refine wpAny_bind (wpAny_specialOf ty enum_no_len (wpAny_bind (m := specialOf (Value.ref e) (Str.ofString "__length_hint__")) (wpAny_specialOf ty enum_no_hint (wpAny_pure ?_))))
  refine wpAny_bind (m := rule "list.extend.makes-room") (wpAny_rule ?_)
  refine wpAny_bind (m := Builtin.List.listTouch (.ref S)) ?_
  refine wpAny_bind (m := updateSeq S (·.push .none)) (wpAny_updateSeq hS rfl ?_)
  have top2 := Heap.get?_update_self (Obj.mapSeq (·.push Value.none)) hS rfl
  refine wpAny_updateSeq top2 rfl ?_
  have top3 := Heap.get?_update_self (Obj.mapSeq (·.pop)) top2 rfl
  have kq : ∀ b o, b ≠ S → s.heap.get? b = some o → ((s.heap.update S (Obj.mapSeq (·.push Value.none))).update S (Obj.mapSeq (·.pop))).get? b = some o := fun b o hb q =>
    (Heap.get?_update_other _ _ (Ne.symm hb)).trans ((Heap.get?_update_other _ _ (Ne.symm hb)).trans q)
  have sz3 : ((s.heap.update S (Obj.mapSeq (·.push Value.none))).update S (Obj.mapSeq (·.pop))).objs.size = S + 1 := by rw [Heap.size_update, Heap.size_update, hz]
  generalize (s.heap.update S (Obj.mapSeq (·.push Value.none))).update S (Obj.mapSeq (·.pop)) = hp3 at top3 kq sz3 ⊢
  have C : EC e it t S xs s.heap 0 hp3 := {
    ji := Z.ji.at fun o => kq _ o (nl L.li)
    mt := Z.mt.at fun o => kq _ o (nl L.lt)
    ee := .inl ⟨old, kq _ _ (nl L.le) he⟩
    li := ⟨_, top3⟩
    ps := fun j hj => absurd hj (Nat.not_lt_zero _)
    old := fun b o _ _ lt q => kq b o (nl lt) q
    sz := sz3 }
  exact wpAny_pure ⟨plainId_quiet F.plain_extend_loop _, ec_loop (by simp [hh]) L hl xs.size 0 { s with heap := hp3 } (Nat.zero_add _) C fun h' tk q => hR h' tk q⟩
theorem en_init {R : Result → Shared → Prop} {s : Shared} (hh : A.handled = none) (Z : ENew e it t xs s.heap) (L : ELt e it t S) (hS : s.heap.get? S = some { cls := .type "list", data := .seq #[] }) (hz : s.heap.objs.size = S + 1) (hl : xs.size ≤ sizeLine)
    (hR : ∀ h' tk, EEnd e it S xs s.heap h' → R (.ok (.ret .none)) { s with heap := h', toks := tk }) :
    wpAny (model P w) A.in1 (Builtin.«list.__init__» ⟨[.ref S, .ref e], []⟩) (fun fin s' => match fin with | .done f => R (.ok f) s' | .again c' => c'.quiet = true ∧ codeAny (model P w) A c' R s') (fun e s' => R (.error e) s') s := by
  show wpAny _ _ (do let old ← Builtin.List.listItems (.ref S); Builtin.List.listUpdate (.ref S) (fun _ => #[]); letGo old.toList.reverse; Builtin.List.listExtendWith (.ref S) (.ref e) .none) _ _ s
  refine wpAny_bind ?_
  unfold Builtin.List.listItems
  refine wpAny_bind (wpAny_seqItems hS rfl (wpAny_pure ?_))
  show wpAny _ _ (updateSeq S (fun _ => #[]) >>= fun _ => letGo (#[] : Array Value).toList.reverse >>= fun _ => Builtin.List.listExtendWith (.ref S) (.ref e) .none) _ _ s
  refine wpAny_bind (wpAny_updateSeq hS rfl ?_)
  have hS2 := Heap.get?_update_self (Obj.mapSeq (fun _ => (#[] : Array Value))) hS rfl
  have oth : ∀ b o, b ≠ S → s.heap.get? b = some o → (s.heap.update S (Obj.mapSeq (fun _ => (#[] : Array Value)))).get? b = some o := fun b o hb q => (Heap.get?_update_other _ _ (Ne.symm hb)).trans q
  refine wpAny_bind (wpAny_letGo ?_)
  refine en_extend hh ⟨Z.he.imp fun _ q => oth _ _ (nl L.le) q, Z.ji.at fun o => oth _ o (nl L.li), Z.mt.at fun o => oth _ o (nl L.lt)⟩ L hS2 ((Heap.size_update ..).trans hz) hl fun h' tk E => hR h' tk ⟨E.li, E.ps, fun b o q1 q2 lt q => E.old b o q1 q2 lt (oth b o (nl lt) q)⟩
theorem call_list_enum {s : Shared} {Q : Value → Shared → Prop} {E : Value → Shared → Prop} (hh : A.handled = none) (Z : ENew e it t xs s.heap) (L : ELt e it t s.heap.objs.size) (hl : xs.size ≤ sizeLine)
    (hQ : ∀ h' tk, EEnd e it s.heap.objs.size xs s.heap h' → Q (.ref s.heap.objs.size) { s with heap := h', toks := tk }) : wpAny (model P w) A (call (.type "list") [.ref e]) Q E s := by
  refine callType_codes (Q₁ := fun obj s₁ => obj = .ref s.heap.objs.size ∧ s₁ = { s with heap := s.heap.push { cls := .type "list", data := .seq #[] } }) F.called_list (F.typeCall_list_1 _) F.entry_list_init (code_list_new _ ⟨rfl, rfl⟩) fun obj s₁ h₁ => ?_
  obtain ⟨rfl, rfl⟩ := h₁
  have hS : (s.heap.push { cls := .type "list", data := .seq #[] }).get? s.heap.objs.size = some { cls := .type "list", data := .seq #[] } := Heap.get?_push_size _ rfl
  refine ⟨⟨_, hS, rfl⟩, F.args_list_init_2 _ _, en_init (A := A.in1) (by simp [hh]) (Z.mono fun b o q => Heap.get?_push_of_some _ q) L hS (Heap.size_push ..) hl fun h' tk q => ?_⟩
  exact ⟨rfl, hQ h' tk ⟨q.li, q.ps, fun b o q1 q2 lt x => q.old b o q1 q2 lt (Heap.get?_push_of_some _ x)⟩⟩
end
def prsV (xs : List V) : List (V × V) := xs.zipIdx.map fun p => (V.int (p.2 : Nat), p.1)
theorem prsV_get {xs : List V} {j : Nat} : (prsV xs)[j]? = xs[j]?.map fun x => (V.int (j : Nat), x) := by
  unfold prsV
  rw [List.getElem?_map, List.getElem?_zipIdx]
  cases xs[j]? <;> simp
section
variable {X : Cx} {Y : Fx}
def tLstEn (K : PySem.W.Frag) (ta : TA) : TE := fun σ H Q => ta σ H fun vs H1 => ∃ (a : Addr) (xs : List V), vs = [.ref a] ∧ SqT K H1 a xs ∧
  ∀ q : Nat, (∀ c : Addr, q ≤ c → H1 c = none) → Q (.ref q) (upd (layZ H1 (q + 1) (prsV xs)) q (.lst (refsV (q + 1) xs.length)))
theorem pe_lstEn {e : Expr} {ta : TA} {p p2 pos pos2 : Pos} (hc : X.calm = true) (hgT : Gl X "list") (hmT : X.mg "list" = none) (hg : Gl X "enumerate") (hm : X.mg "enumerate" = none) (ha : PA X [e] ta)
    (h1 : starEach [e] X.env = (false, eval e X.env) :: starEach [] X.env := by rfl) (h2 : (backTo pos2 (starEach [] X.env)).any (·.1) = false := by rfl)
    (h3 : starEach [.Call (.Name "enumerate" p2) [e] [] pos2] X.env = (false, eval (.Call (.Name "enumerate" p2) [e] [] pos2) X.env) :: starEach [] X.env := by rfl) (h4 : (backTo pos (starEach [] X.env)).any (·.1) = false := by rfl) :
    PE X (.Call (.Name "list" p) [.Call (.Name "enumerate" p2) [e] [] pos2] [] pos) (tLstEn X.K ta) := ⟨fun pins s σ H Q I h => by
  refine wpAny_Call_Name_kw (ld_blt I hgT hmT (by rfl) (PyProof.Rows.callWith_type1 ?_ h3 h4))
  rw [h3]
  refine Calls.spliced_cons (wpAny_Call_Name_kw (ld_blt I hg hm boot_enumerate (PyProof.Rows.callWith_type1 (thn (ha.run pos2 pins s σ H _ I h) fun us s1 ⟨vs, H1, I1, r1, a, xs, ex, hq, q⟩ => ?_) h1 h2)))
  subst ex
  obtain ⟨va, rfl, ra⟩ : ∃ v, us = [v] ∧ RelV (.ref a) v := by
    cases r1 with
    | cons r rr => cases rr; exact ⟨_, rfl, r⟩
  cases ra
  obtain ⟨its, rv, pt, lu⟩ := I1.tuple hq
  have pt' : s1.heap.IsTuple a its.toArray := pt
  obtain ⟨ol, hol, _⟩ := id pt'
  have alt : (a : Nat) < s1.heap.objs.size := Heap.lt_size hol
  refine call_enumT pt' fun h' he hit hk => Calls.spliced_nil ?_
  have sz : s1.heap.objs.size + 1 < h'.objs.size := Heap.lt_size he
  have L : ELt (s1.heap.objs.size + 1) s1.heap.objs.size a h'.objs.size := ⟨Nat.succ_ne_self _, Nat.ne_of_lt (Nat.lt_succ_of_lt alt), Nat.ne_of_lt alt, sz, Nat.lt_of_succ_lt sz, Nat.lt_trans alt (Nat.lt_of_succ_lt sz)⟩
  have hl : its.toArray.size ≤ sizeLine := by rw [List.size_toArray, ← rv.length]; exact lu
  refine call_list_enum (s := { s1 with heap := h' }) (I1.ok.hd hc) ⟨⟨_, he⟩, hit, pt'.at fun o => hk _ o⟩ L hl fun g tk T => ?_
  have keep : ∀ c o, s1.heap.get? c = some o → g.get? c = some o := fun c o e => by
    have lt : (c : Nat) < s1.heap.objs.size := Heap.lt_size e
    exact T.old c o (nl (Nat.lt_succ_of_lt lt)) (nl lt) (Nat.lt_trans lt (Nat.lt_of_succ_lt sz)) (hk c o e)
  have lt1 : ∀ c o, H1 c = some o → (c : Nat) < s1.heap.objs.size := fun c o e => I1.hok.lt e
  have same : ∀ c : Addr, (c : Nat) < s1.heap.objs.size → upd (layZ H1 (h'.objs.size + 1) (prsV xs)) h'.objs.size (.lst (refsV (h'.objs.size + 1) xs.length)) c = H1 c := fun c lt => by
    have n1 : c ≠ h'.objs.size := Nat.ne_of_lt (Nat.lt_trans lt (Nat.lt_of_succ_lt sz))
    rw [upd_ne n1, layZ_old]
    exact Nat.lt_trans lt (Nat.lt_trans (Nat.lt_of_succ_lt sz) (Nat.lt_succ_self _))
  have ok : HOk X.prog X.w (upd (layZ H1 (h'.objs.size + 1) (prsV xs)) h'.objs.size (.lst (refsV (h'.objs.size + 1) xs.length))) g := fun c o e => by
    by_cases ct : c = h'.objs.size
    · subst ct
      rw [upd_same] at e
      cases e
      obtain ⟨cc, li⟩ := T.li
      have es : its.toArray.size = xs.length := by rw [List.size_toArray, rv.length]
      rw [es] at li
      exact ⟨by simp [refsV]; exact lu, _, cc, vals_refs, li⟩
    · rw [upd_ne ct] at e
      rcases layZ_cases e with ⟨j, pr, rfl, e2, rfl⟩ | e2
      · rw [prsV_get] at e2
        obtain ⟨x, e3, rfl⟩ := Option.map_eq_some_iff.mp e2
        obtain ⟨u, m1, m2⟩ := rv.get e3
        have jl : j < its.toArray.size := by rw [List.size_toArray]; exact (List.getElem?_eq_some_iff.mp m1).1
        obtain ⟨y, tk', g1, g2⟩ := T.ps j jl
        rw [List.getElem?_toArray, m1] at g1
        cases g1
        exact ⟨(by decide : 2 ≤ sizeLine), [.int (j : Nat) tk', u], .cons ⟨_, rfl⟩ (.cons m2 .nil), _, g2, rfl, _, rfl⟩
      · refine (I1.hok c o e2).stay (fun d u _ w' => keep d u w') (fun d w' => ?_) fun d ws' w' => ?_
        · rw [same d (lt1 _ _ w')]; exact w'
        · rw [same d (lt1 _ _ w')]; exact w'
  have I2 : Inv X pins σ _ { s1 with heap := g, toks := tk } := I1.un (t' := tk) ⟨fun c o e _ _ _ => keep c o e, fun c o e _ _ _ => ⟨o.slots, keep c o e⟩, fun c o e n _ => by rw [same c (Heap.lt_size e)]; exact n, fun c o e _ => ⟨o, keep c o e⟩,
    fun c ws' w' => by rw [same c (lt1 _ _ w')]; exact w', fun c o u w' => by rw [same c (lt1 _ _ w')]; exact w', fun c ps w' => ⟨#[], by rw [same c (lt1 _ _ w')]; simpa using w'⟩⟩ ok
  exact ⟨.ref h'.objs.size, _, I2, rfl, q _ fun c le => I1.hok.fresh (Nat.le_trans (Nat.le_of_lt (Nat.lt_of_succ_lt sz)) le)⟩⟩
def mLstEn (t : DTA) : DTM := fun ρ n R => t ρ n fun xs n' => ∃ ds, xs = [.dat (.tuple ds)] ∧ R (enumD ds) n'
/-- list(enumerate(a tuple)) -/
theorem me_lstEn {e : Expr} {t : DTA} {p p2 pos pos2 : Pos} (hc : X.calm = true) (hgT : Gl X "list") (hmT : X.mg "list" = none) (hg : Gl X "enumerate") (hm : X.mg "enumerate" = none) (ha : WA Y X [e] t)
    (h1 : starEach [e] X.env = (false, eval e X.env) :: starEach [] X.env := by rfl) (h2 : (backTo pos2 (starEach [] X.env)).any (·.1) = false := by rfl)
    (h3 : starEach [.Call (.Name "enumerate" p2) [e] [] pos2] X.env = (false, eval (.Call (.Name "enumerate" p2) [e] [] pos2) X.env) :: starEach [] X.env := by rfl) (h4 : (backTo pos (starEach [] X.env)).any (·.1) = false := by rfl) :
    ME Y X (.Call (.Name "list" p) [.Call (.Name "enumerate" p2) [e] [] pos2] [] pos) (mLstEn t) :=
  pe_imp (pe_lstEn hc hgT hmT hg hm ha h1 h2 h3 h4) fun σ H Q ⟨Z, F, ρ, n, R, r, ht, k⟩ => ⟨Z, F, ρ, n, _, r, ht, fun xs n1 F1 H1 vs ⟨ds, ex, hx⟩ g1 s1 d1 w1 => by
    subst ex
    obtain ⟨v, rfl, w2⟩ := vr1 w1
    have w3 : Rp X.K F1 (.tuple ds) v := w2
    simp only [Rp] at w3
    obtain ⟨a, us, rfl, e1, q1⟩ := w3
    refine ⟨a, us, rfl, sqtR (rdS s1 e1), fun q free => ?_⟩
    have ltH : ∀ c o, H1 c = some o → (c : Nat) < q := fun c o e => Nat.lt_of_not_le fun le => by rw [free c le] at e; cases e
    have oldH : ∀ (G : Hp) (c : Addr), (c : Nat) < q → layZ G (q + 1) (prsV us) c = G c := fun G c lt => layZ_old (Nat.lt_succ_of_lt lt)
    have hq0 : H1 q = none := free q (Nat.le_refl q)
    have hq1 : layZ F1 (q + 1) (prsV us) q = none := by rw [layZ_old (Nat.lt_succ_self q)]; exact s1.free hq0
    have s2 : Same (layZ F1 (q + 1) (prsV us)) (upd (layZ H1 (q + 1) (prsV us)) q (.lst (refsV (q + 1) us.length))) := fun c o e => by
      have ct : c ≠ q := fun x => by rw [x, hq1] at e; cases e
      rw [upd_ne ct]
      rcases layZ_cases e with ⟨j, pr, rfl, y, rfl⟩ | y
      · exact layZ_at y
      · rw [oldH H1 c (ltH _ _ (s1 _ _ y))]; exact s1 _ _ y
    have g2 : Gp F1 H1 (layZ F1 (q + 1) (prsV us)) (upd (layZ H1 (q + 1) (prsV us)) q (.lst (refsV (q + 1) us.length))) :=
      ⟨fun c o e => by rw [oldH F1 c (ltH _ _ (s1 _ _ e))]; exact e, fun c ne e => by
        obtain ⟨o, y⟩ := some_of_ne ne
        rw [oldH F1 c (ltH _ _ y)]; exact e, fun c o e => by
        have lt := ltH _ _ e
        rw [upd_ne (Nat.ne_of_lt lt), oldH H1 c lt]; exact e⟩
    have hp0 : H q = none := by
      cases e : H q with
      | none => rfl
      | some o => exact absurd hq0 (g1.dH q (by rw [e]; nofun))
    refine k _ _ _ _ _ _ hx (g1.trans g2.gr) s2 (g2.dk ((r.step g1 s1 d1).b)) hp0 hq1 upd_same ?_
    have lz : (enumD ds).length = us.length := by rw [enumD_length, q1.length]
    refine rps_at (by rw [lz]; simp [refsV]) fun i d v e1 e2 => ?_
    have lt : i < us.length := by rw [← lz]; exact (List.getElem?_eq_some_iff.mp e1).1
    simp only [refsV, List.getElem?_map, List.getElem?_range lt, Option.map_some, Option.some.injEq] at e2
    obtain ⟨x, x1, rfl⟩ := enumD_get e1
    obtain ⟨u, m1, m2⟩ := q1.get x1
    have zi : (prsV us)[i]? = some (.int (i : Nat), u) := by rw [prsV_get, m1]; rfl
    subst e2
    simp only [Rp]
    exact ⟨q + 1 + i, [.int (i : Nat), u], rfl, .inl (layZ_at zi), rps_cons (by simp [Rp]) (rps_cons (Rp.mono g2.sF _ _ m2) rps_nil)⟩⟩
end
end DL
set_option maxHeartbeats 4000000
namespace DL
open PySem PySem.Spec PyProof.Rows L2
/-- a hall that a party has at a version, None for now -/
def HAt (p : Pt) (d : PyData) (h : Hl) : Prop := (d = .none ∧ h = p.h) ∨ ∃ i : Nat, d = .int i ∧ p.hs[i]? = some h
def vOk (p : Pt) (v : PyData) : Bool := isN v || numIn v 0 p.done.length
def atV (p : Pt) (v : PyData) : Hl := match v with | .int i => p.hs.getD i.toNat p.h | _ => p.h
theorem vOk_no {p : Pt} {v : PyData} (h1 : v ≠ .none) (h2 : numIn v 0 p.done.length = false) : vOk p v = false := by
  unfold vOk
  rw [h2, Bool.or_false]
  cases v <;> first | rfl | exact absurd rfl h1
theorem HAt.len {p : Pt} (k : p.Ok) {v : PyData} {h : Hl} (q : HAt p v h) : vOk p v = true ∧ atV p v = h := by
  rcases q with ⟨rfl, rfl⟩ | ⟨i, rfl, e⟩
  · exact ⟨rfl, rfl⟩
  · have hl := (List.getElem?_eq_some_iff.mp e).1
    have := k.len
    refine ⟨?_, ?_⟩
    · unfold vOk
      rw [numIn_int (by omega) (by omega), Bool.or_true]
    · show p.hs.getD (Int.toNat (i : Nat)) p.h = h
      rw [Int.toNat_natCast, List.getD_eq_getElem?_getD, e]
      rfl
noncomputable def ansW (w : Int) (num : PyData) (h : Hl) : PyData :=
  if w = 0 then .list [.str "answer", .str (halD h).shown]
  else if w = 1 then .list [.str "answer", .str (PyData.list (walkD h.2 (smallR h.1 h.2))).shown]
  else if numIn num 0 1000 = false then .list [.str "number", .str num.shown]
  else .list [.str "answer", .str (sureD h.1 h.2 (fewC h) (intD num)).shown]
/-- what a query tells -/
noncomputable def duD (p : Pt) (w : Int) (num v : PyData) : PyData := if vOk p v = false then .list [.str "version", .str v.shown] else ansW w num (atV p v)
theorem gs_left {rl : Int → Int → Prop} {F P : List Int} {run : List (Int × Int)} {m : Nat} (h : Gs rl F P (intsN m) run) : ∀ k, k ≤ run.length → Gs rl F P (leftL m (run.take k)) (run.drop k) := by
  intro k
  induction k with
  | zero =>
    intro _
    have e0 : leftL m (run.take 0) = intsN m := by unfold leftL; simp
    rw [e0]
    exact h
  | succ k ih =>
    intro hk
    have hq : run[k]? = some run[k] := List.getElem?_eq_getElem (by omega)
    rcases gs_step hq (ih (by omega)) with ⟨_, e, g⟩ | ⟨_, _, _, g⟩
    · rw [left_next hq, List.erase_of_not_mem]
      · exact g
      · intro hm
        have := (mem_intsN (List.mem_filter.mp hm).1).1
        omega
    · rw [left_next hq]
      exact g
/-- the least of those that fit, and of them the first, is what the run takes -/
theorem walk_step {F P : List Int} {run : List (Int × Int)} (rv : RunV (Lx (getI P)) F P run) {k : Nat} {g j : Int} (hq : run[k]? = some (g, j)) {qs : List (Int × Int)}
    (hp : qs.Perm (((leftL P.length (run.take k)).filter fun i => decide (getI F g ≤ getI P i)).map fun i => (getI P i, i))) (hs : qs.Pairwise (fun p q => p.1 < q.1 ∨ (p.1 = q.1 ∧ p.2 ≤ q.2))) :
    (qs = [] ∧ j = -1) ∨ ∃ rest, qs = (getI P j, j) :: rest ∧ j ≠ -1 := by
  have hk : k < run.length := (List.getElem?_eq_some_iff.mp hq).1
  rcases gs_step hq (gs_left rv.s k (by omega)) with ⟨h1, h2, _⟩ | ⟨h1, h2, h3, _⟩
  · left
    refine ⟨?_, h2⟩
    have e : ((leftL P.length (run.take k)).filter fun i => decide (getI F g ≤ getI P i)) = [] := List.filter_eq_nil_iff.mpr fun i hi => by
      have := h1 i hi
      unfold fitG at this
      rw [this]
      exact Bool.false_ne_true
    rw [e] at hp
    exact hp.eq_nil
  · right
    have hm : (getI P j, j) ∈ qs := hp.mem_iff.mpr (List.mem_map.mpr ⟨j, List.mem_filter.mpr ⟨h1, h2⟩, rfl⟩)
    cases qs with
    | nil => cases hm
    | cons a rest =>
      have ha : a ∈ (((leftL P.length (run.take k)).filter fun i => decide (getI F g ≤ getI P i)).map fun i => (getI P i, i)) := hp.mem_iff.mp (by simp)
      obtain ⟨i, hi, rfl⟩ := List.mem_map.mp ha
      obtain ⟨i1, i2⟩ := List.mem_filter.mp hi
      have hx := h3 i i1 i2
      have e : j = i := by
        rcases List.mem_cons.mp hm with q | q
        · exact (Prod.mk.inj q).2
        · have := (List.pairwise_cons.mp hs).1 _ q
          unfold Lx at hx
          simp only at this hx
          omega
      subst e
      exact ⟨rest, rfl, by have := (mem_intsN (List.mem_filter.mp h1).1).1; omega⟩
theorem left_filter {m : Nat} {run : List (Int × Int)} {k : Nat} {g j : Int} (hq : run[k]? = some (g, j)) : (leftL m (run.take k)).filter (fun o => decide (o ≠ j)) = leftL m (run.take (k + 1)) := by
  rw [leftL_leftT, leftL_leftT, leftT_next, List.take_add_one, hq, List.map_append]
  rfl
theorem atI_head {d : PyData} {ds : List PyData} : atI (d :: ds) 0 = some d := by
  unfold atI ixN
  rw [if_pos (Int.le_refl 0), if_pos (by rw [List.length_cons]; omega)]
  rfl
theorem duD_no {p : Pt} {w : Int} {num v : PyData} (h : vOk p v = false) : duD p w num v = .list [.str "version", .str v.shown] := by
  unfold duD
  rw [if_pos h]
theorem duD_at {p : Pt} (k : p.Ok) {w : Int} {num v : PyData} {h : Hl} (q : HAt p v h) : duD p w num v = ansW w num h := by
  obtain ⟨h1, h2⟩ := q.len k
  unfold duD
  rw [if_neg (by rw [h1]; exact Bool.noConfusion), h2]
theorem HAt.ok {p : Pt} (k : p.Ok) {v : PyData} {h : Hl} (q : HAt p v h) : HlOk h := by
  rcases q with ⟨_, rfl⟩ | ⟨i, _, e⟩
  · exact k.hh
  · exact k.all h (List.mem_of_getElem? e)
theorem ansW_0 {num : PyData} {h : Hl} : ansW 0 num h = .list [.str "answer", .str (halD h).shown] := rfl
theorem ansW_1 {num : PyData} {h : Hl} : ansW 1 num h = .list [.str "answer", .str (PyData.list (walkD h.2 (smallR h.1 h.2))).shown] := rfl
theorem ansW_no {w : Int} {num : PyData} {h : Hl} (h0 : w ≠ 0) (h1 : w ≠ 1) (hn : numIn num 0 1000 = false) : ansW w num h = .list [.str "number", .str num.shown] := by
  unfold ansW
  rw [if_neg h0, if_neg h1, if_pos hn]
theorem ansW_yes {w z : Int} {h : Hl} (h0 : w ≠ 0) (h1 : w ≠ 1) (z0 : 0 ≤ z) (z1 : z ≤ 1000) {m : Int} (hm : IsFew h.1 h.2 m) : ansW w (.int z) h = .list [.str "answer", .str (sureD h.1 h.2 m z).shown] := by
  unfold ansW
  rw [if_neg h0, if_neg h1, if_neg (by rw [numIn_int z0 z1]; exact Bool.noConfusion), fewC_eq hm]
  rfl
theorem iteB {b : Bool} {A B : Prop} (X : Prop) (hx : X) (h1 : b = true → X → A) (h2 : b = false → X → B) : if b = true then A else B := by
  cases b with
  | false => rw [if_neg (by simp)]; exact h2 rfl hx
  | true => rw [if_pos rfl]; exact h1 rfl hx
theorem at_or {p : Pt} (k : p.Ok) (v : PyData) : (v ≠ .none ∧ numIn v 0 p.done.length = false) ∨ ∃ h, HAt p v h := by
  by_cases e : v = .none
  · exact .inr ⟨p.h, .inl ⟨e, rfl⟩⟩
  · cases h : numIn v 0 p.done.length with
    | false => exact .inl ⟨e, rfl⟩
    | true =>
      obtain ⟨z, rfl, z0, z1⟩ := numIn_true h
      obtain ⟨i, rfl⟩ := Int.eq_ofNat_of_zero_le z0
      have := k.len
      exact .inr ⟨_, .inr ⟨i, rfl, List.getElem?_eq_getElem (by omega)⟩⟩
theorem isN_no {v : PyData} (h : v ≠ .none) : isN v = false := by cases v <;> first | rfl | exact absurd rfl h
theorem HAt.look {p : Pt} (k : p.Ok) {v : PyData} {h : Hl} (q : HAt p v h) : (isN v = true → atI (p.hs.map halD) (-1) = some (halD h)) ∧ (isN v = false → ∃ i : Int, v = .int i ∧ atI (p.hs.map halD) i = some (halD h)) := by
  rcases q with ⟨rfl, rfl⟩ | ⟨i, rfl, e⟩
  · exact ⟨fun _ => last_atF halD k.last, fun hb => Bool.noConfusion hb⟩
  · refine ⟨fun hb => Bool.noConfusion hb, fun _ => ⟨i, rfl, ?_⟩⟩
    have hl : i < (p.hs.map halD).length := by rw [List.length_map]; exact (List.getElem?_eq_some_iff.mp e).1
    unfold atI ixN
    rw [if_pos (by omega), if_pos (by omega)]
    simp [e]
theorem HAt.within {p : Pt} (k : p.Ok) {v : PyData} {h : Hl} (q : HAt p v h) (hn : isN v = false) : numIn v 0 p.done.length = true := by
  have h1 := (q.len k).1
  unfold vOk at h1
  rw [hn, Bool.false_or] at h1
  exact h1
theorem okT_iff {s : Str} : okT s ↔ ∀ c ∈ TL.tl s, c < 0x110000 := by
  unfold okT PyData.strOk
  rw [Array.all_eq_true']
  constructor
  · intro h c hc
    have := h c (by simpa [TL.tl] using hc)
    simpa using this
  · intro h c hc
    have := h c (by simpa [TL.tl] using hc)
    simpa using this
theorem okT_app {a b : Str} (ha : okT a) (hb : okT b) : okT (a ++ b) := okT_iff.mpr fun c hc => by
  rw [TL.tl_append] at hc
  rcases List.mem_append.mp hc with h | h
  · exact okT_iff.mp ha c h
  · exact okT_iff.mp hb c h
theorem okT_from : ∀ (ts : List Str) (k : Nat) (acc : Str), okT acc → (∀ t ∈ ts, okT t) → okT (textFrom k acc ts)
  | [], _, _, ha, _ => ha
  | t :: ts, k, acc, ha, h => okT_from ts (k + 1) _ (okT_app (okT_app ha (by split <;> exact show PyData.strOk _ = true by decide +kernel)) (h t (by simp))) fun x hx => h x (by simp [hx])
theorem mem_joinL2 {S : List Nat} {c : Nat} : ∀ {ws : List (List Nat)}, c ∈ TL.joinL S ws → c ∈ S ∨ ∃ w ∈ ws, c ∈ w
  | [], h => (nomatch h)
  | [p], h => .inr ⟨p, by simp, h⟩
  | p :: q :: r, h => by
    rcases List.mem_append.mp (show c ∈ p ++ (S ++ TL.joinL S (q :: r)) from h) with h | h
    · exact .inr ⟨p, by simp, h⟩
    · rcases List.mem_append.mp h with h | h
      · exact .inl h
      · rcases mem_joinL2 h with h | ⟨w, hw, h⟩
        · exact .inl h
        · exact .inr ⟨w, by simp [hw], h⟩
theorem okT_join {y : Str} {ts : List Str} (hy : okT y) (h : ∀ t ∈ ts, okT t) : okT (Str.join y ts) := okT_iff.mpr fun c hc => by
  rw [TL.tl_join] at hc
  rcases mem_joinL2 hc with q | ⟨w, hw, q⟩
  · exact okT_iff.mp hy c q
  · obtain ⟨t, ht, rfl⟩ := List.mem_map.mp hw
    exact okT_iff.mp (h t ht) c q
theorem okT_all : ∀ {ds : List PyData}, (∀ d ∈ ds, okT d.shown) → ∀ t ∈ PyData.shownAll ds, okT t
  | [], _, t, ht => by simp only [PyData.shownAll] at ht; cases ht
  | d :: ds, h, t, ht => by
    simp only [PyData.shownAll] at ht
    rcases List.mem_cons.mp ht with rfl | q
    · exact h d (by simp)
    · exact okT_all (fun x hx => h x (by simp [hx])) t q
theorem okT_list {ds : List PyData} (h : ∀ d ∈ ds, okT d.shown) : okT (PyData.list ds).shown := by
  simp only [PyData.shown]
  unfold listText
  exact okT_app (okT_from _ _ _ (show PyData.strOk _ = true by decide +kernel) (okT_all h)) (show PyData.strOk _ = true by decide +kernel)
theorem okT_tuple {ds : List PyData} (h : ∀ d ∈ ds, okT d.shown) : okT (PyData.tuple ds).shown := by
  simp only [PyData.shown]
  unfold tupleText
  exact okT_app (okT_app (show PyData.strOk _ = true by decide +kernel) (okT_join (show PyData.strOk _ = true by decide +kernel) (okT_all h))) (by split <;> exact show PyData.strOk _ = true by decide +kernel)
theorem okT_int (z : Int) : okT (PyData.int z).shown := num_ok z
theorem okT_ints (l : List Int) : okT (PyData.tuple (l.map .int)).shown := okT_tuple fun d hd => by obtain ⟨z, _, rfl⟩ := List.mem_map.mp hd; exact okT_int z
theorem okT_hal (h : Hl) : okT (halD h).shown := okT_tuple fun d hd => by
  simp only [List.mem_cons, List.not_mem_nil, or_false] at hd
  rcases hd with rfl | rfl
  · exact okT_ints _
  · exact okT_ints _
theorem okT_walk (P : List Int) (run : List (Int × Int)) : okT (PyData.list (walkD P run)).shown := okT_list fun d hd => by
  obtain ⟨k, _, rfl⟩ := List.mem_map.mp hd
  refine okT_tuple fun x hx => ?_
  simp only [List.mem_cons, List.not_mem_nil, or_false] at hx
  rcases hx with rfl | rfl | rfl
  · exact okT_int _
  · exact okT_int _
  · refine okT_tuple fun y hy => ?_
    obtain ⟨j, _, rfl⟩ := List.mem_map.mp hy
    exact okT_int _
theorem okT_word {w : Str} (hw : w = "run" ∨ w = "table" ∨ w = "feet" ∨ w = "pairs") : okT (PyData.str w).shown := by
  rcases hw with rfl | rfl | rfl | rfl <;> exact show PyData.strOk _ = true by decide +kernel
theorem okT_sure (F P : List Int) (m num : Int) : okT (sureD F P m num).shown := by
  unfold sureD
  split
  · refine okT_tuple fun d hd => ?_
    simp only [List.mem_cons, List.not_mem_nil, or_false] at hd
    rcases hd with rfl | rfl
    · exact okT_word (by simp)
    · refine okT_tuple fun x hx => ?_
      obtain ⟨q, _, rfl⟩ := List.mem_map.mp hx
      exact okT_tuple fun y hy => by
        simp only [List.mem_cons, List.not_mem_nil, or_false] at hy
        rcases hy with rfl | rfl <;> exact okT_int _
  · refine okT_tuple fun d hd => ?_
    simp only [List.mem_cons, List.not_mem_nil, or_false] at hd
    rcases hd with rfl | rfl
    · exact okT_word (by simp)
    · refine okT_tuple fun x hx => ?_
      obtain ⟨q, _, rfl⟩ := List.mem_map.mp hx
      exact okT_word (by unfold wordAt; split <;> simp)
theorem duD_form {p : Pt} {w : Int} {num v : PyData} (hn : okT num.shown) (hv : okT v.shown) : ∃ a b, duD p w num v = two35 a b ∧ okT a ∧ okT b := by
  have k1 : okT "version" := show PyData.strOk _ = true by decide +kernel
  have k2 : okT "answer" := show PyData.strOk _ = true by decide +kernel
  have k3 : okT "number" := show PyData.strOk _ = true by decide +kernel
  unfold duD
  split
  · exact ⟨_, _, rfl, k1, hv⟩
  · unfold ansW
    split
    · exact ⟨_, _, rfl, k2, okT_hal _⟩
    · split
      · exact ⟨_, _, rfl, k2, okT_walk _ _⟩
      · split
        · exact ⟨_, _, rfl, k3, hn⟩
        · exact ⟨_, _, rfl, k2, okT_sure _ _ _ _⟩
def PVal (d : PyData) : Prop := GV 500 4 d ∧ okT d.shown
def RowP (d : PyData) : Prop := ∃ (w : Int) (num v : PyData), d = .tuple [.int w, num, v] ∧ PVal num ∧ PVal v
theorem pv_int {z : Int} (h0 : -1 ≤ z) (h1 : z ≤ 1000) : PVal (.int z) := ⟨gv_int h0 (by omega), okT_int z⟩
abbrev cs39 : List PyData := [.none, .bool true, .bool false, .int (-1), .int 0, .int 1, .int 1000, .int 1001, .int ((10 : Int) ^ (20 : Int).toNat), .str "1", .str "", .tuple [], .list [], .dict [], .tuple [.int 1], .int ((10 : Int) ^ (39 : Int).toNat)]
theorem pv_cs {d : PyData} (h : d ∈ cs39) : PVal d := ⟨gv_look (by decide +kernel) d h, List.all_eq_true.mp (show (cs39.all fun d => PyData.strOk d.shown) = true by decide +kernel) d h⟩
theorem pv_odd {L : Int} (h0 : 0 ≤ L) (h1 : L ≤ 1000) {d : PyData} (h : d ∈ [PyData.none, .bool true, .bool false, .int (-1), .int 1001, .int ((10 : Int) ^ (20 : Int).toNat), .str "1", .str "", .tuple [], .list [], .dict [], .tuple [.int 1], .int L, .int ((10 : Int) ^ (39 : Int).toNat)]) : PVal d := by
  by_cases c : d = .int L
  · rw [c]; exact pv_int (by omega) h1
  · refine pv_cs ?_
    simp only [List.mem_cons, List.not_mem_nil, or_false] at h ⊢
    rcases h with h | h | h | h | h | h | h | h | h | h | h | h | h | h
    all_goals first | exact absurd h c | simp only [h, true_or, or_true]
end DL
set_option maxHeartbeats 0
namespace DL
open PySem PySem.Spec PyProof.Rows L2
def topS (i : Nat) : Stmt := PySem.Challenge.pw_shoeparty_k39_versions_and_numbers.main.body.getD i (.Pass ⟨0, 0, 0, 0⟩)
structure CA where
  PartyError : Addr
  TooManyPairs : Addr
  BadFoot : Addr
  BadHall : Addr
  Busy : Addr
  TooManyEdits : Addr
  TooManyGuests : Addr
  LastGuest : Addr
  BadSize : Addr
  NothingToUndo : Addr
  BadEdits : Addr
  BadNumber : Addr
  TooFewServed : Addr
  BadText : Addr
  NoPlace : Addr
  NoGuest : Addr
  NoPair : Addr
  NoVersion : Addr
  Party : Addr
  CHANGES : Addr
structure Bn (K : PySem.W.Frag) (mg : Str → Option Value) (C : CA) : Prop where
  LookupError : mg "LookupError" = none
  ValueError : mg "ValueError" = none
  abs : mg "abs" = none
  all : mg "all" = none
  bool : mg "bool" = none
  enumerate : mg "enumerate" = none
  int : mg "int" = none
  isinstance : mg "isinstance" = none
  len : mg "len" = none
  list : mg "list" = none
  max : mg "max" = none
  min : mg "min" = none
  range : mg "range" = none
  repr : mg "repr" = none
  set : mg "set" = none
  sorted : mg "sorted" = none
  str : mg "str" = none
  sum : mg "sum" = none
  tuple : mg "tuple" = none
  zip : mg "zip" = none
  LIMIT : ∃ t, mg "LIMIT" = some (.int (1000) t)
  MAX_SIZE : ∃ t, mg "MAX_SIZE" = some (.int (1000000) t)
  MAX_GUESTS : ∃ t, mg "MAX_GUESTS" = some (.int (20) t)
  MAX_PAIRS : ∃ t, mg "MAX_PAIRS" = some (.int (20) t)
  NO_PAIR : ∃ t, mg "NO_PAIR" = some (.int (-1) t)
  SLASH : ∃ t, mg "SLASH" = some (.str "/" t)
  NO_PAIRS : ∃ t, mg "NO_PAIRS" = some (.str "-" t)
  WORDS : ∃ t, mg "WORDS" = some (.int (3) t)
  g_PartyError : mg "PartyError" = some (.ref C.PartyError)
  g_TooManyPairs : mg "TooManyPairs" = some (.ref C.TooManyPairs)
  g_BadFoot : mg "BadFoot" = some (.ref C.BadFoot)
  g_BadHall : mg "BadHall" = some (.ref C.BadHall)
  g_Busy : mg "Busy" = some (.ref C.Busy)
  g_TooManyEdits : mg "TooManyEdits" = some (.ref C.TooManyEdits)
  g_TooManyGuests : mg "TooManyGuests" = some (.ref C.TooManyGuests)
  g_LastGuest : mg "LastGuest" = some (.ref C.LastGuest)
  g_BadSize : mg "BadSize" = some (.ref C.BadSize)
  g_NothingToUndo : mg "NothingToUndo" = some (.ref C.NothingToUndo)
  g_BadEdits : mg "BadEdits" = some (.ref C.BadEdits)
  g_BadNumber : mg "BadNumber" = some (.ref C.BadNumber)
  g_TooFewServed : mg "TooFewServed" = some (.ref C.TooFewServed)
  g_BadText : mg "BadText" = some (.ref C.BadText)
  g_NoPlace : mg "NoPlace" = some (.ref C.NoPlace)
  g_NoGuest : mg "NoGuest" = some (.ref C.NoGuest)
  g_NoPair : mg "NoPair" = some (.ref C.NoPair)
  g_NoVersion : mg "NoVersion" = some (.ref C.NoVersion)
  g_Party : mg "Party" = some (.ref C.Party)
  g_CHANGES : mg "CHANGES" = some (.ref C.CHANGES)
  fk_CHANGES_come : ∃ g, PySem.W.nsIn K C.CHANGES "come" = some (some (.ref g)) ∧ mg "_with_guest" = some (.ref g)
  fk_CHANGES_leave : ∃ g, PySem.W.nsIn K C.CHANGES "leave" = some (some (.ref g)) ∧ mg "_without_guest" = some (.ref g)
  fk_CHANGES_put : ∃ g, PySem.W.nsIn K C.CHANGES "put" = some (some (.ref g)) ∧ mg "_with_pair" = some (.ref g)
  fk_CHANGES_take : ∃ g, PySem.W.nsIn K C.CHANGES "take" = some (some (.ref g)) ∧ mg "_without_pair" = some (.ref g)
  cg : PySem.W.specialIn K (.builtin "object.__class__") "__get__" = some (some (.builtin "getset_descriptor.__get__"))
  ct : PySem.W.takesIn K (.builtin "object.__class__") = some true
  ty_PartyError : PySem.W.typeIn K (.ref C.PartyError) = some (.type "type")
  hd_PartyError : PySem.W.hasDictIn K C.PartyError = true
  ty_TooManyPairs : PySem.W.typeIn K (.ref C.TooManyPairs) = some (.type "type")
  k_TooManyPairs : PySem.W.keepIn K (.ref C.TooManyPairs) = true
  ty_BadFoot : PySem.W.typeIn K (.ref C.BadFoot) = some (.type "type")
  k_BadFoot : PySem.W.keepIn K (.ref C.BadFoot) = true
  sa_BadFoot : PySem.W.findIn K (.ref C.BadFoot) "__setattr__" = some (some (.builtin "object.__setattr__"))
  ty_BadHall : PySem.W.typeIn K (.ref C.BadHall) = some (.type "type")
  k_BadHall : PySem.W.keepIn K (.ref C.BadHall) = true
  sa_BadHall : PySem.W.findIn K (.ref C.BadHall) "__setattr__" = some (some (.builtin "object.__setattr__"))
  ty_Busy : PySem.W.typeIn K (.ref C.Busy) = some (.type "type")
  k_Busy : PySem.W.keepIn K (.ref C.Busy) = true
  ty_TooManyEdits : PySem.W.typeIn K (.ref C.TooManyEdits) = some (.type "type")
  k_TooManyEdits : PySem.W.keepIn K (.ref C.TooManyEdits) = true
  ty_TooManyGuests : PySem.W.typeIn K (.ref C.TooManyGuests) = some (.type "type")
  k_TooManyGuests : PySem.W.keepIn K (.ref C.TooManyGuests) = true
  ty_LastGuest : PySem.W.typeIn K (.ref C.LastGuest) = some (.type "type")
  k_LastGuest : PySem.W.keepIn K (.ref C.LastGuest) = true
  ty_BadSize : PySem.W.typeIn K (.ref C.BadSize) = some (.type "type")
  k_BadSize : PySem.W.keepIn K (.ref C.BadSize) = true
  sa_BadSize : PySem.W.findIn K (.ref C.BadSize) "__setattr__" = some (some (.builtin "object.__setattr__"))
  ty_NothingToUndo : PySem.W.typeIn K (.ref C.NothingToUndo) = some (.type "type")
  k_NothingToUndo : PySem.W.keepIn K (.ref C.NothingToUndo) = true
  cl_BadEdits : PySem.W.isClsIn K C.BadEdits = true
  ty_BadEdits : PySem.W.typeIn K (.ref C.BadEdits) = some (.type "type")
  s_BadEdits_BadEdits : PySem.W.subIn K (.ref C.BadEdits) (.ref C.BadEdits) = some true
  cl_BadNumber : PySem.W.isClsIn K C.BadNumber = true
  ty_BadNumber : PySem.W.typeIn K (.ref C.BadNumber) = some (.type "type")
  k_BadNumber : PySem.W.keepIn K (.ref C.BadNumber) = true
  hd_BadNumber : PySem.W.hasDictIn K C.BadNumber = true
  ca_BadNumber : PySem.W.findIn K (.ref C.BadNumber) "__class__" = some (some (.builtin "object.__class__"))
  mo_BadNumber : PySem.W.mroIn K C.BadNumber (.type "object") = some true
  sa_BadNumber : PySem.W.findIn K (.ref C.BadNumber) "__setattr__" = some (some (.builtin "object.__setattr__"))
  s_BadNumber_PartyError : PySem.W.subIn K (.ref C.BadNumber) (.ref C.PartyError) = some true
  s_BadNumber_BadEdits : PySem.W.subIn K (.ref C.BadNumber) (.ref C.BadEdits) = some false
  s_BadNumber_BadNumber : PySem.W.subIn K (.ref C.BadNumber) (.ref C.BadNumber) = some true
  s_BadNumber_TooFewServed : PySem.W.subIn K (.ref C.BadNumber) (.ref C.TooFewServed) = some false
  s_BadNumber_NoVersion : PySem.W.subIn K (.ref C.BadNumber) (.ref C.NoVersion) = some false
  s_BadNumber_ValueError : PySem.W.subIn K (.ref C.BadNumber) (.type "ValueError") = some true
  cl_TooFewServed : PySem.W.isClsIn K C.TooFewServed = true
  ty_TooFewServed : PySem.W.typeIn K (.ref C.TooFewServed) = some (.type "type")
  s_TooFewServed_TooFewServed : PySem.W.subIn K (.ref C.TooFewServed) (.ref C.TooFewServed) = some true
  cl_NoPlace : PySem.W.isClsIn K C.NoPlace = true
  ty_NoPlace : PySem.W.typeIn K (.ref C.NoPlace) = some (.type "type")
  s_NoPlace_NoPlace : PySem.W.subIn K (.ref C.NoPlace) (.ref C.NoPlace) = some true
  cl_NoGuest : PySem.W.isClsIn K C.NoGuest = true
  ty_NoGuest : PySem.W.typeIn K (.ref C.NoGuest) = some (.type "type")
  k_NoGuest : PySem.W.keepIn K (.ref C.NoGuest) = true
  sa_NoGuest : PySem.W.findIn K (.ref C.NoGuest) "__setattr__" = some (some (.builtin "object.__setattr__"))
  s_NoGuest_NoGuest : PySem.W.subIn K (.ref C.NoGuest) (.ref C.NoGuest) = some true
  cl_NoPair : PySem.W.isClsIn K C.NoPair = true
  ty_NoPair : PySem.W.typeIn K (.ref C.NoPair) = some (.type "type")
  k_NoPair : PySem.W.keepIn K (.ref C.NoPair) = true
  sa_NoPair : PySem.W.findIn K (.ref C.NoPair) "__setattr__" = some (some (.builtin "object.__setattr__"))
  s_NoPair_NoPair : PySem.W.subIn K (.ref C.NoPair) (.ref C.NoPair) = some true
  cl_NoVersion : PySem.W.isClsIn K C.NoVersion = true
  ty_NoVersion : PySem.W.typeIn K (.ref C.NoVersion) = some (.type "type")
  k_NoVersion : PySem.W.keepIn K (.ref C.NoVersion) = true
  hd_NoVersion : PySem.W.hasDictIn K C.NoVersion = true
  ca_NoVersion : PySem.W.findIn K (.ref C.NoVersion) "__class__" = some (some (.builtin "object.__class__"))
  mo_NoVersion : PySem.W.mroIn K C.NoVersion (.type "object") = some true
  sa_NoVersion : PySem.W.findIn K (.ref C.NoVersion) "__setattr__" = some (some (.builtin "object.__setattr__"))
  s_NoVersion_NoPlace : PySem.W.subIn K (.ref C.NoVersion) (.ref C.NoPlace) = some false
  s_NoVersion_NoGuest : PySem.W.subIn K (.ref C.NoVersion) (.ref C.NoGuest) = some false
  s_NoVersion_NoPair : PySem.W.subIn K (.ref C.NoVersion) (.ref C.NoPair) = some false
  s_NoVersion_NoVersion : PySem.W.subIn K (.ref C.NoVersion) (.ref C.NoVersion) = some true
  s_NoVersion_ValueError : PySem.W.subIn K (.ref C.NoVersion) (.type "ValueError") = some false
  s_NoVersion_StopIteration : PySem.W.subIn K (.ref C.NoVersion) (.type "StopIteration") = some false
  k_Party : PySem.W.keepIn K (.ref C.Party) = true
  hd_Party : PySem.W.hasDictIn K C.Party = true
  sa_Party : PySem.W.findIn K (.ref C.Party) "__setattr__" = some (some (.builtin "object.__setattr__"))
  sb_PartyError : PySem.W.subIn K (.ref C.PartyError) (.type "BaseException") = some true
  sb_TooManyPairs : PySem.W.subIn K (.ref C.TooManyPairs) (.type "BaseException") = some true
  sb_BadFoot : PySem.W.subIn K (.ref C.BadFoot) (.type "BaseException") = some true
  n_BadFoot : PySem.W.findIn K (.ref C.BadFoot) "value" = some none
  sb_BadHall : PySem.W.subIn K (.ref C.BadHall) (.type "BaseException") = some true
  n_BadHall : PySem.W.findIn K (.ref C.BadHall) "error" = some none
  sb_Busy : PySem.W.subIn K (.ref C.Busy) (.type "BaseException") = some true
  sb_TooManyEdits : PySem.W.subIn K (.ref C.TooManyEdits) (.type "BaseException") = some true
  sb_TooManyGuests : PySem.W.subIn K (.ref C.TooManyGuests) (.type "BaseException") = some true
  sb_LastGuest : PySem.W.subIn K (.ref C.LastGuest) (.type "BaseException") = some true
  sb_BadSize : PySem.W.subIn K (.ref C.BadSize) (.type "BaseException") = some true
  n_BadSize : PySem.W.findIn K (.ref C.BadSize) "value" = some none
  sb_NothingToUndo : PySem.W.subIn K (.ref C.NothingToUndo) (.type "BaseException") = some true
  ga_BadNumber : PySem.W.findIn K (.ref C.BadNumber) "__getattribute__" = some (some (.builtin "BaseException.__getattribute__"))
  gt_BadNumber : PySem.W.findIn K (.ref C.BadNumber) "__getattr__" = some none
  sb_BadNumber : PySem.W.subIn K (.ref C.BadNumber) (.type "BaseException") = some true
  n_BadNumber : PySem.W.findIn K (.ref C.BadNumber) "value" = some none
  sb_NoGuest : PySem.W.subIn K (.ref C.NoGuest) (.type "BaseException") = some true
  n_NoGuest : PySem.W.findIn K (.ref C.NoGuest) "value" = some none
  sb_NoPair : PySem.W.subIn K (.ref C.NoPair) (.type "BaseException") = some true
  n_NoPair : PySem.W.findIn K (.ref C.NoPair) "value" = some none
  ga_NoVersion : PySem.W.findIn K (.ref C.NoVersion) "__getattribute__" = some (some (.builtin "BaseException.__getattribute__"))
  gt_NoVersion : PySem.W.findIn K (.ref C.NoVersion) "__getattr__" = some none
  sb_NoVersion : PySem.W.subIn K (.ref C.NoVersion) (.type "BaseException") = some true
  n_NoVersion : PySem.W.findIn K (.ref C.NoVersion) "value" = some none
  cv_Party_MOST_EDITS : ∃ t, PySem.W.findIn K (.ref C.Party) "MOST_EDITS" = some (some (.int 60 t))
  pg_Party : PySem.W.plainGet K C.Party Str.empty = true
  po_Party : PySem.W.plainOver K C.Party = true
  mk_Party : PySem.W.makesIn K C.Party = true
  f_Party__busy : PySem.W.findIn K (.ref C.Party) "_busy" = some none
  f_Party_hall : PySem.W.findIn K (.ref C.Party) "hall" = some none
  f_Party_most : PySem.W.findIn K (.ref C.Party) "most" = some none
  f_Party_fewest : PySem.W.findIn K (.ref C.Party) "fewest" = some none
  f_Party__halls : PySem.W.findIn K (.ref C.Party) "_halls" = some none
  f_Party__done : PySem.W.findIn K (.ref C.Party) "_done" = some none
  e0_PartyError : PySem.W.excIn K C.PartyError [.type "ValueError", .type "Exception", .type "BaseException", .type "object"] "ValueError.__new__" = true
  e0_TooManyPairs : PySem.W.excIn K C.TooManyPairs [.type "ValueError", .type "Exception", .type "BaseException", .type "object"] "ValueError.__new__" = true
  e0_Busy : PySem.W.excIn K C.Busy [.type "ValueError", .type "Exception", .type "BaseException", .type "object"] "ValueError.__new__" = true
  e0_TooManyEdits : PySem.W.excIn K C.TooManyEdits [.type "ValueError", .type "Exception", .type "BaseException", .type "object"] "ValueError.__new__" = true
  e0_TooManyGuests : PySem.W.excIn K C.TooManyGuests [.type "ValueError", .type "Exception", .type "BaseException", .type "object"] "ValueError.__new__" = true
  e0_LastGuest : PySem.W.excIn K C.LastGuest [.type "ValueError", .type "Exception", .type "BaseException", .type "object"] "ValueError.__new__" = true
  e0_NothingToUndo : PySem.W.excIn K C.NothingToUndo [.type "ValueError", .type "Exception", .type "BaseException", .type "object"] "ValueError.__new__" = true
  e0_BadEdits : PySem.W.excIn K C.BadEdits [.type "ValueError", .type "Exception", .type "BaseException", .type "object"] "ValueError.__new__" = true
section
variable {K : PySem.W.Frag} {mg : Str → Option Value} {C : CA}
theorem Bn.m_BadNumber_PartyError (B : Bn K mg C) : PySem.W.exmOne K (.ref C.BadNumber) (.ref C.PartyError) = some true := PySem.W.exm_ref B.sb_PartyError B.hd_PartyError B.ty_PartyError B.s_BadNumber_PartyError
theorem Bn.e_TooManyPairs (B : Bn K mg C) : ErrC0 K mg "TooManyPairs" C.TooManyPairs := ⟨B.g_TooManyPairs, B.k_TooManyPairs, B.e0_TooManyPairs, B.sb_TooManyPairs, B.ty_TooManyPairs⟩
theorem Bn.e_Busy (B : Bn K mg C) : ErrC0 K mg "Busy" C.Busy := ⟨B.g_Busy, B.k_Busy, B.e0_Busy, B.sb_Busy, B.ty_Busy⟩
theorem Bn.e_TooManyEdits (B : Bn K mg C) : ErrC0 K mg "TooManyEdits" C.TooManyEdits := ⟨B.g_TooManyEdits, B.k_TooManyEdits, B.e0_TooManyEdits, B.sb_TooManyEdits, B.ty_TooManyEdits⟩
theorem Bn.e_TooManyGuests (B : Bn K mg C) : ErrC0 K mg "TooManyGuests" C.TooManyGuests := ⟨B.g_TooManyGuests, B.k_TooManyGuests, B.e0_TooManyGuests, B.sb_TooManyGuests, B.ty_TooManyGuests⟩
theorem Bn.e_LastGuest (B : Bn K mg C) : ErrC0 K mg "LastGuest" C.LastGuest := ⟨B.g_LastGuest, B.k_LastGuest, B.e0_LastGuest, B.sb_LastGuest, B.ty_LastGuest⟩
theorem Bn.e_NothingToUndo (B : Bn K mg C) : ErrC0 K mg "NothingToUndo" C.NothingToUndo := ⟨B.g_NothingToUndo, B.k_NothingToUndo, B.e0_NothingToUndo, B.sb_NothingToUndo, B.ty_NothingToUndo⟩
theorem Bn.is_BadNumber (B : Bn K mg C) : IsC K C.BadNumber := ⟨B.cl_BadNumber, B.ga_BadNumber, B.gt_BadNumber, B.sb_BadNumber, B.ca_BadNumber, B.cg, B.ct, B.mo_BadNumber⟩
theorem Bn.x_BadNumber (B : Bn K mg C) : XfC K C.BadNumber := ⟨B.ga_BadNumber, B.gt_BadNumber, B.sb_BadNumber, B.hd_BadNumber⟩
theorem Bn.xf_BadNumber (B : Bn K mg C) : XfC K C.BadNumber ∧ PySem.W.findIn K (.ref C.BadNumber) "value" = some none := ⟨B.x_BadNumber, B.n_BadNumber⟩
theorem Bn.is_NoVersion (B : Bn K mg C) : IsC K C.NoVersion := ⟨B.cl_NoVersion, B.ga_NoVersion, B.gt_NoVersion, B.sb_NoVersion, B.ca_NoVersion, B.cg, B.ct, B.mo_NoVersion⟩
theorem Bn.x_NoVersion (B : Bn K mg C) : XfC K C.NoVersion := ⟨B.ga_NoVersion, B.gt_NoVersion, B.sb_NoVersion, B.hd_NoVersion⟩
theorem Bn.xf_NoVersion (B : Bn K mg C) : XfC K C.NoVersion ∧ PySem.W.findIn K (.ref C.NoVersion) "value" = some none := ⟨B.x_NoVersion, B.n_NoVersion⟩
theorem Bn.m_BadNumber_NoVersion (B : Bn K mg C) : PySem.W.exmOne K (.ref C.BadNumber) (.ref C.NoVersion) = some false := PySem.W.exm_ref B.sb_NoVersion B.hd_NoVersion B.ty_NoVersion B.s_BadNumber_NoVersion
theorem Bn.m_NoVersion_NoVersion (B : Bn K mg C) : PySem.W.exmOne K (.ref C.NoVersion) (.ref C.NoVersion) = some true := PySem.W.exm_ref B.sb_NoVersion B.hd_NoVersion B.ty_NoVersion B.s_NoVersion_NoVersion
theorem Bn.c_Party (B : Bn K mg C) : Cls K C.Party := ⟨B.pg_Party, B.hd_Party, B.po_Party, B.sa_Party⟩
theorem Bn.con_Party_MOST_EDITS (B : Bn K mg C) : ∃ u, Con K C.Party "MOST_EDITS" (.int 60) u := by
  obtain ⟨t, h⟩ := B.cv_Party_MOST_EDITS
  exact ⟨_, h, ⟨_, rfl⟩, get_int, by decide +kernel⟩
theorem Bn.fl_Party__busy (B : Bn K mg C) : FldC K C.Party "_busy" := ⟨B.c_Party, B.f_Party__busy⟩
theorem Bn.fl_Party_hall (B : Bn K mg C) : FldC K C.Party "hall" := ⟨B.c_Party, B.f_Party_hall⟩
theorem Bn.fl_Party_most (B : Bn K mg C) : FldC K C.Party "most" := ⟨B.c_Party, B.f_Party_most⟩
theorem Bn.fl_Party_fewest (B : Bn K mg C) : FldC K C.Party "fewest" := ⟨B.c_Party, B.f_Party_fewest⟩
theorem Bn.fl_Party__halls (B : Bn K mg C) : FldC K C.Party "_halls" := ⟨B.c_Party, B.f_Party__halls⟩
theorem Bn.fl_Party__done (B : Bn K mg C) : FldC K C.Party "_done" := ⟨B.c_Party, B.f_Party__done⟩
theorem Bn.k_BadNumber_BadEdits (B : Bn K mg C) : PySem.W.kitOne K (.ref C.BadNumber) (.ref C.BadEdits) = some false := kit_own B.cl_BadEdits B.ty_BadEdits B.s_BadEdits_BadEdits B.s_BadNumber_BadEdits
theorem Bn.k_BadNumber_BadNumber (B : Bn K mg C) : PySem.W.kitOne K (.ref C.BadNumber) (.ref C.BadNumber) = some true := kit_own B.cl_BadNumber B.ty_BadNumber B.s_BadNumber_BadNumber B.s_BadNumber_BadNumber
theorem Bn.k_BadNumber_TooFewServed (B : Bn K mg C) : PySem.W.kitOne K (.ref C.BadNumber) (.ref C.TooFewServed) = some false := kit_own B.cl_TooFewServed B.ty_TooFewServed B.s_TooFewServed_TooFewServed B.s_BadNumber_TooFewServed
theorem Bn.k_BadNumber_ValueError (B : Bn K mg C) : PySem.W.kitOne K (.ref C.BadNumber) (.type "ValueError") = some true := kit_oty (by decide +kernel) B.s_BadNumber_ValueError
theorem Bn.k_NoVersion_NoPlace (B : Bn K mg C) : PySem.W.kitOne K (.ref C.NoVersion) (.ref C.NoPlace) = some false := kit_own B.cl_NoPlace B.ty_NoPlace B.s_NoPlace_NoPlace B.s_NoVersion_NoPlace
theorem Bn.k_NoVersion_NoGuest (B : Bn K mg C) : PySem.W.kitOne K (.ref C.NoVersion) (.ref C.NoGuest) = some false := kit_own B.cl_NoGuest B.ty_NoGuest B.s_NoGuest_NoGuest B.s_NoVersion_NoGuest
theorem Bn.k_NoVersion_NoPair (B : Bn K mg C) : PySem.W.kitOne K (.ref C.NoVersion) (.ref C.NoPair) = some false := kit_own B.cl_NoPair B.ty_NoPair B.s_NoPair_NoPair B.s_NoVersion_NoPair
theorem Bn.k_NoVersion_ValueError (B : Bn K mg C) : PySem.W.kitOne K (.ref C.NoVersion) (.type "ValueError") = some false := kit_oty (by decide +kernel) B.s_NoVersion_ValueError
end
section
variable {P : Program} {w : World} {K : PySem.W.Frag} {mg : Str → Option Value} {base : Heap} {C : CA}
abbrev s__law_deck : Stmt := topS 65
abbrev s__law_draw : Stmt := topS 66
def spDeckA (K : PySem.W.Frag) : Sp := fun vs H Q _ => ∃ (a : Addr) (ns : List Int), vs = [.ref a] ∧ SqL K H a (ns.map V.int) ∧ ns.length ≤ 63 ∧
  ∀ (H' : Hp) (p q : Addr), Same H H' → H p = none → H q = none → (dkA p q).at0 H' 0 → Q (.ref p) H'
theorem scDeck : FnScope ["script", "cell"] ["script"] (defScope s__law_deck) := ⟨rfl, rfl, rfl, by decide +kernel, rfl, by decide +kernel, by decide +kernel⟩
theorem ok_deck {f : Addr} {fd : FuncData} (F : Fun K "_law_deck" "_law_deck" s__law_deck f fd) (mabs : mg "abs" = none) : FnG P w K mg base 1 f fd ["script"] (spDeckA K) := by
  refine fng_of F scDeck (fun vs H Q E ⟨a, ns, e, _⟩ => by rw [e]; rfl) fun cdv A outer s H vs Q hgd hr ⟨a, ns, e, hS, hlen, k⟩ => ?_
  subst e
  refine ⟨_, pss_one (ps_ret (pe_lst (pa_cons (pe_lc (own := [("cell", 1)]) (g := gName 1) (tt := tYes) rfl scDeck.nd (pi_list (pe_slice sl_list (pv 0) po_none (po_some pe_int)))
    (blkOk_by (N := ["script", "cell"]) (sc := defScope s__law_deck) (by decide +kernel)) (fun _ _ _ _ _ => pg_name (i := 1) scDeck.nd rfl (Or.inl rfl)) (fun _ _ _ _ _ => pts_nil)
    (fun _ _ _ _ _ => pe_callB call_abs (by rfl) mabs PyProof.Rows.boot_abs (pa_cons (pv 1) pa_nil))) (pa_cons pe_int pa_nil)))), ?_⟩
  refine ⟨_, rfl, 63, rfl, a, _, rfl, hS, fun l hl => ?_⟩
  have cut : ∃ ms : List Int, cutV (ns.map V.int) none (some 63) = ms.map V.int ∧ ms.length ≤ 63 := by
    refine ⟨cutG ns none (some 63), by unfold cutG cutV; simp, ?_⟩
    unfold cutG
    rw [List.length_take, List.length_drop]
    omega
  obtain ⟨ms, e1, e2⟩ := cut
  rw [e1]
  have s1 : Same H (upd H l (.lst (ms.map V.int))) := fun b o e => by rw [upd_ne (ne_of_none e hl)]; exact e
  refine ⟨l, rfl, ⟨_, SqL.of upd_same⟩, fun D hD => ?_⟩
  have nlD : l ≠ D := fun q => by rw [← q, upd_same] at hD; cases hD
  have hD0 : H D = none := s1.free hD
  refine lc_list (K := K) (a := l) (xs := ms.map V.int) (fun i H' => ∃ cs : List Int, cs.length ≤ i ∧ (∀ c ∈ cs, 0 ≤ c) ∧ H' = upd (upd H l (.lst (ms.map V.int))) D (.lst (cs.map V.int)))
    ⟨[], Nat.le_refl _, fun _ h => (by cases h), rfl⟩ (fun i H' _ ⟨cs, _, _, e⟩ => by rw [e]; exact SqL.of (by rw [upd_ne nlD]; exact upd_same)) (fun i x H' hx ⟨cs, hc1, hc2, e⟩ => ?_) (fun H' ⟨cs, hc1, hc2, e⟩ => ?_)
  · subst e
    rw [List.getElem?_map] at hx
    obtain ⟨z, hz, rfl⟩ := Option.map_eq_some_iff.mp hx
    have hi : i < ms.length := (List.getElem?_eq_some_iff.mp hz).1
    refine ⟨rfl, V.int z, rfl, z, rfl, cs.map V.int, upd_same, small1000 (by rw [List.length_map]; omega), cs ++ [if z < 0 then -z else z], by rw [List.length_append]; show cs.length + 1 ≤ i + 1; omega, fun c hc => ?_, ?_⟩
    · rcases List.mem_append.mp hc with q | q
      · exact hc2 c q
      · rw [List.mem_singleton.mp q]; split <;> omega
    · rw [upd_upd, List.map_append] <;> rfl
  · subst e
    refine ⟨by show 2 ≤ sizeLine; decide, fun p hp => ?_⟩
    have hp2 : upd H l (.lst (ms.map V.int)) p = none := by
      by_cases q : p = D
      · rw [q, upd_same] at hp; cases hp
      · rw [upd_ne q] at hp; exact hp
    have npD : D ≠ p := fun q => by rw [← q, upd_same] at hp; cases hp
    rw [List.length_map] at hc1
    refine k _ p D (fun b o e => ?_) (s1.free hp2) hD0 ⟨cs, upd_same, by rw [upd_ne npD]; exact upd_same, by omega, hc2⟩
    have eb := s1 b o e
    rw [upd_ne (ne_of_none eb hp2), upd_ne (ne_of_none eb hD)]
    exact eb
def drawA : DSpec := fun as n R => ∃ lim : Int, as = [.deck false, .dat (.int lim)] ∧ 1 ≤ lim ∧ lim ≤ 10 ^ 7 ∧ n.n ≤ 10 ^ 6 ∧ ∀ r : Int, 0 ≤ r → r < lim → R (.int r) (n + 1)
theorem scDraw : FnScope ["deck", "many", "cell", "place"] ["deck", "many"] (defScope s__law_draw) := ⟨rfl, rfl, rfl, by decide +kernel, rfl, by decide +kernel, by decide +kernel⟩
theorem ok_draw {f : Addr} {fd : FuncData} (F : Fun K "_law_draw" "_law_draw" s__law_draw f fd) (mlen : mg "len" = none) : FnG P w K mg base 1 f fd ["deck", "many"] (spD K 2 drawA) := by
  refine fng_of F scDraw (fun vs H Q E ⟨δ, Fz, as, n, R, hl, w1, _⟩ => by rw [← Paired.length w1]; exact hl) fun cdv A outer s H vs Q hgd hr ⟨δ, Fz, as, n, R, hl, w1, s1, d1, o1, ⟨lim, ea, hl1, hl2, hn, hR⟩, hk⟩ => ?_
  subst ea
  obtain ⟨va, vb, rfl, h1, h2⟩ := vr2 w1
  obtain ⟨a, rfl, b, rfl⟩ := h1
  simp only [VR, Rp] at h2
  subst h2
  obtain ⟨⟨cells, hA, hB, hc1, hc2⟩, hob⟩ := d1
  have nba : b ≠ a := fun q => by
    rw [q, hA] at hB
    have q2 := HO.lst.inj (Option.some.inj hB)
    cases cells with
    | nil => cases q2
    | cons x r => simp at q2
  -- what is wanted behind the body
  have fin : ∀ (H' : Hp) (cs : List Int) (r : Int), H' a = some (.lst [.ref b, .int ((n.n : Int) + 1)]) → H' b = some (.lst (cs.map V.int)) → cs.length ≤ 63 → (∀ c ∈ cs, 0 ≤ c) → (∀ c o, c ≠ a → c ≠ b → H c = some o → H' c = some o) → 0 ≤ r → r < lim → Q (.int r) H' := fun H' cs r q1 q2 q3 q4 q5 q6 q7 => by
    have out : ∀ c o, c ∉ (dkA a b).own → H c = some o → H' c = some o := fun c o hc => q5 c o (fun e => hc (by rw [e]; simp [dkA])) fun e => hc (by rw [e]; simp [dkA])
    have keepI : ∀ c C dx fs, H c = some (.ins C dx fs) → H' c = some (.ins C dx fs) := fun c C dx fs e => q5 c _ (fun z => by rw [z, hA] at e; cases e) (fun z => by rw [z, hB] at e; cases e) e
    have inn : ∀ c, c ∈ (dkA a b).own → H' c ≠ none := fun c hc => by
      simp only [dkA, List.mem_cons, List.not_mem_nil, or_false] at hc
      rcases hc with e | e <;> rw [e]
      · rw [q1]; nofun
      · rw [q2]; nofun
    refine hk (.int r) (n + 1) Fz H' _ (hR r q6 q7) ⟨Same.refl _, fun _ _ h => h, fun c o hc e _ => out c o hc e, fun c C dx fs e => ⟨fs, keepI c C dx fs e⟩, fun c hc => ?_⟩ (fun c o e => ?_) ⟨⟨cs, q1, q2, q3, q4⟩, fun c ob e => (by
      obtain ⟨h1, dx, vs, h2, h3⟩ := hob.1 c ob e
      exact ⟨h1, dx, vs, keepI _ _ _ _ h2, h3⟩), hob.2⟩ (by simp [Rp])
    · by_cases z : c ∈ (dkA a b).own
      · exact inn c z
      · obtain ⟨o, e⟩ := some_of_ne hc
        rw [out c o z e]; nofun
    · exact out c o (fun z => by rw [(o1 c z).1] at e; cases e) (s1 _ _ e)
  refine ⟨_, pss_cons (ps_asg (pe_op op_add (pe_ix ix_list (pv 0) pe_int (fun _ _ => rfl)) pe_int) (pg_sub (pv 0) pe_int set_list))
    (pss_cons (ps_set (i := 2) scDraw.nd rfl (Or.inl rfl) pe_int) (pss_cons (ps_set (i := 3) scDraw.nd rfl (Or.inl rfl) (pe_un un_neg pe_int))
    (pss_cons (ps_if (pt_cmpR op_gt (pe_callB call_len_seq (by rfl) mlen PySem.boot_len (pa_cons (pe_ix ix_list (pv 0) pe_int (fun _ _ => rfl)) pa_nil)) pe_int (nomark _))
        (pss_cons (ps_set (i := 3) scDraw.nd rfl (Or.inl rfl) (pe_op op_mod (pe_ix ix_list (pv 0) pe_int (fun _ _ => rfl)) (pe_callB call_len_seq (by rfl) mlen PySem.boot_len (pa_cons (pe_ix ix_list (pv 0) pe_int (fun _ _ => rfl)) pa_nil))))
          (pss_one (ps_set (i := 2) scDraw.nd rfl (Or.inl rfl) (pe_ix ix_list (pe_ix ix_list (pv 0) pe_int (fun _ _ => rfl)) (pv 3) (fun _ _ => rfl))))) pss_nil)
    (pss_cons (ps_if (pt_cmpR op_ge (pv 2) (pe_op op_pow pe_int pe_int) (nomark _))
        (pss_cons (ps_asg (pe_op op_fdivW (pv 2) (pv 1)) (pg_sub (pe_ix ix_list (pv 0) pe_int (fun _ _ => rfl)) (pv 3) set_list)) (pss_one (ps_ret (pe_op op_mod (pv 2) (pv 1))))) pss_nil)
    (pss_one (ps_ret (pe_op op_mod (pe_op op_mod (pe_op op_pow (pe_op op_add (pe_op op_add (pe_op op_mod (pv 2) pe_int) (pe_op op_mul pe_int (pe_ix ix_list (pv 0) pe_int (fun _ _ => rfl)))) pe_int) pe_int) pe_int) (pv 1)))))))), ?_⟩
  refine ⟨_, rfl, a, _, 1, .int n.n, rfl, rfl, SqL.of hA, rfl, n.n, 1, rfl, rfl, _, rfl, a, _, 1, 1, rfl, rfl, hA, rfl, ?_⟩
  -- behind the first row
  have hA1 : upd H a (.lst ([V.ref b, V.int n.n].set 1 (.int ((n.n : Int) + 1)))) a = some (.lst [.ref b, .int ((n.n : Int) + 1)]) := upd_same
  have hB1 : upd H a (.lst ([V.ref b, V.int n.n].set 1 (.int ((n.n : Int) + 1)))) b = some (.lst (cells.map V.int)) := by rw [upd_ne nba]; exact hB
  have hO1 : ∀ c, c ≠ a → upd H a (.lst ([V.ref b, V.int n.n].set 1 (.int ((n.n : Int) + 1)))) c = H c := fun c hc => upd_ne hc
  generalize upd H a (.lst ([V.ref b, V.int n.n].set 1 (.int ((n.n : Int) + 1)))) = H1 at hA1 hB1 hO1
  have hO2 : ∀ c o, c ≠ a → H c = some o → H1 c = some o := fun c o hc e => (hO1 c hc).trans e
  have hA2 := hA1
  have hB2 := hB1
  have cdiv : ∀ c : Int, CDivW c lim := fun c => wide_div (b := 64) (by omega) (by omega) (by decide) (by decide)
  refine ⟨1, rfl, _, rfl, a, _, 0, .ref b, rfl, rfl, SqL.of hA2, rfl, b, _, rfl, .inl (SqL.of hB2), _, 0, rfl, rfl, _, rfl, ?_⟩
  rw [List.length_map]
  -- the last row, whatever was drawn
  have last : ∀ c : Int, 0 ≤ c → ((c % 2147483587 + 7919 * ((n.n : Int) + 1) + 1).natAbs < 2 ^ 64) := fun c hc => by
    have h1 : 0 ≤ c % 2147483587 := Int.emod_nonneg _ (by decide)
    have h2 : c % 2147483587 < 2147483587 := Int.emod_lt_of_pos _ (by decide)
    omega
  have hpos : (0 : Int) < lim := by omega
  have ends : ∀ (c z : Int), 0 ≤ z % lim ∧ z % lim < lim := fun c z => ⟨Int.emod_nonneg _ (by omega), Int.emod_lt_of_pos _ hpos⟩
  by_cases hne : cells = []
  · subst hne
    refine iteF ?_
    refine ⟨_, rfl, 10, 18, rfl, rfl, ⟨by decide, by decide, by decide⟩, 0, _, rfl, rfl, _, rfl, ?_⟩
    refine iteF ?_
    refine ⟨_, rfl, 0, 2147483587, rfl, rfl, (by decide : (0 : Int) < 2147483587), _, rfl, a, _, 1, .int ((n.n : Int) + 1), rfl, rfl, SqL.of hA2, rfl, 7919, _, rfl, rfl, .inl ⟨by decide, by decide⟩, _, _, rfl, rfl, _, 1, rfl, rfl, _, 5, rfl, rfl, ⟨by decide, by decide, last 0 (Int.le_refl 0)⟩,
      _, 2147483647, rfl, rfl, (by decide : (0 : Int) < 2147483647), _, rfl, _, lim, rfl, rfl, hpos, ?_⟩
    exact fin H1 [] _ hA2 hB2 hc1 hc2 (fun c o q1 q2 e => hO2 c o q1 e) (ends 0 _).1 (ends 0 _).2
  · have hlen : 0 < cells.length := List.length_pos_iff.mpr hne
    rw [decide_eq_true (show (0 : Int) < (cells.length : Int) by omega)]
    refine iteT ?_
    have m0 : (0 : Int) ≤ ((n.n : Int) + 1) % (cells.length : Int) := Int.emod_nonneg _ (by omega)
    have m1 : ((n.n : Int) + 1) % (cells.length : Int) < (cells.length : Int) := Int.emod_lt_of_pos _ (by omega)
    obtain ⟨j, hj⟩ : ∃ j : Nat, ((n.n : Int) + 1) % (cells.length : Int) = (j : Int) := ⟨(((n.n : Int) + 1) % (cells.length : Int)).toNat, by omega⟩
    have hjl : j < cells.length := by omega
    obtain ⟨c, hc⟩ : ∃ c, cells[j]? = some c := ⟨cells[j], by simp [hjl]⟩
    have hc0 : 0 ≤ c := hc2 c (List.mem_of_getElem? hc)
    refine ⟨_, rfl, a, _, 1, .int ((n.n : Int) + 1), rfl, rfl, SqL.of hA2, rfl, _, rfl, a, _, 0, .ref b, rfl, rfl, SqL.of hA2, rfl, b, _, rfl, .inl (SqL.of hB2), _, _, rfl, rfl, (by rw [List.length_map]; omega), ?_⟩
    refine ⟨_, rfl, a, _, 0, .ref b, rfl, rfl, SqL.of hA2, rfl, _, rfl, b, _, _, .int c, rfl, rfl, SqL.of hB2, (by rw [List.length_map, hj]; exact atI_nat (by rw [List.getElem?_map, hc]; rfl)), ?_⟩
    refine ⟨_, rfl, 10, 18, rfl, rfl, ⟨by decide, by decide, by decide⟩, c, _, rfl, rfl, _, rfl, ?_⟩
    refine ite2 (fun _ => ?_) fun _ => ?_
    · refine ⟨_, rfl, _, rfl, c, lim, rfl, rfl, cdiv c, _, rfl, a, _, 0, .ref b, rfl, rfl, SqL.of hA2, rfl, _, rfl, b, _, _, j, rfl, rfl, hB2, ?_, ?_⟩
      · rw [List.length_map, hj]
        unfold ixN
        rw [if_pos (by omega), if_pos (by omega)]
        rfl
      · refine ⟨_, rfl, _, rfl, c, lim, rfl, rfl, hpos, ?_⟩
        refine fin _ (cells.set j (c / lim)) _ (by rw [upd_ne (Ne.symm nba)]; exact hA2) (by rw [upd_same, List.map_set]) (by rw [List.length_set]; exact hc1) (fun d hd => ?_) (fun d o q1 q2 e => by rw [upd_ne q2]; exact hO2 d o q1 e) (ends 0 _).1 (ends 0 _).2
        rcases List.mem_or_eq_of_mem_set hd with q | q
        · exact hc2 d q
        · rw [q]; exact Int.ediv_nonneg hc0 (by omega)
    · refine ⟨_, rfl, c, 2147483587, rfl, rfl, (by decide : (0 : Int) < 2147483587), _, rfl, a, _, 1, .int ((n.n : Int) + 1), rfl, rfl, SqL.of hA2, rfl, 7919, _, rfl, rfl, .inl ⟨by decide, by decide⟩, _, _, rfl, rfl, _, 1, rfl, rfl, _, 5, rfl, rfl, ⟨by decide, by decide, last c hc0⟩,
        _, 2147483647, rfl, rfl, (by decide : (0 : Int) < 2147483647), _, rfl, _, lim, rfl, rfl, hpos, ?_⟩
      exact fin H1 cells _ hA2 hB2 hc1 hc2 (fun c o q1 q2 e => hO2 c o q1 e) (ends 0 _).1 (ends 0 _).2
abbrev s_BadHall_init : Stmt := inCls (topS 9) 0
theorem sc_BadHall_init : FnScope ["self", "error"] ["self", "error"] (defScope s_BadHall_init) := ⟨rfl, rfl, rfl, by decide +kernel, rfl, by decide +kernel, by decide +kernel⟩
theorem ok_BadHall_init {f : Addr} {fd : FuncData} (F : Fun K "__init__" "BadHall.__init__" s_BadHall_init f fd) (T : OexC K C.BadHall) (B : Bn K mg C) : FnOk P w K mg base CX0 1 f fd ["self", "error"] (spEI C.BadHall "error") := by
  refine F.ok sc_BadHall_init (fun vs H Q E ⟨a, v, e, _⟩ => by rw [e]; rfl) fun cdv A outer s H vs Q E hr ⟨a, v, e, hH, hQ⟩ => ⟨_, pss_one (ps_ost (pv 0) (pv 1)), ?_⟩
  subst e
  exact ⟨_, rfl, _, rfl, a, C.BadHall, rfl, T, B.n_BadHall, .inl ⟨hH, fun dx h1 h2 => hQ dx h1 h2⟩⟩
abbrev s_BadFoot_init : Stmt := inCls (topS 8) 0
theorem sc_BadFoot_init : FnScope ["self", "value"] ["self", "value"] (defScope s_BadFoot_init) := ⟨rfl, rfl, rfl, by decide +kernel, rfl, by decide +kernel, by decide +kernel⟩
theorem ok_BadFoot_init {f : Addr} {fd : FuncData} (F : Fun K "__init__" "BadFoot.__init__" s_BadFoot_init f fd) (T : OexC K C.BadFoot) (B : Bn K mg C) : FnOk P w K mg base CX0 1 f fd ["self", "value"] (spEI C.BadFoot "value") := by
  refine F.ok sc_BadFoot_init (fun vs H Q E ⟨a, v, e, _⟩ => by rw [e]; rfl) fun cdv A outer s H vs Q E hr ⟨a, v, e, hH, hQ⟩ => ⟨_, pss_one (ps_ost (pv 0) (pv 1)), ?_⟩
  subst e
  exact ⟨_, rfl, _, rfl, a, C.BadFoot, rfl, T, B.n_BadFoot, .inl ⟨hH, fun dx h1 h2 => hQ dx h1 h2⟩⟩
abbrev s_NoGuest_init : Stmt := inCls (topS 21) 0
theorem sc_NoGuest_init : FnScope ["self", "value"] ["self", "value"] (defScope s_NoGuest_init) := ⟨rfl, rfl, rfl, by decide +kernel, rfl, by decide +kernel, by decide +kernel⟩
theorem ok_NoGuest_init {f : Addr} {fd : FuncData} (F : Fun K "__init__" "NoGuest.__init__" s_NoGuest_init f fd) (T : OexL K C.NoGuest) (B : Bn K mg C) : FnOk P w K mg base CX0 1 f fd ["self", "value"] (spEI C.NoGuest "value") := by
  refine F.ok sc_NoGuest_init (fun vs H Q E ⟨a, v, e, _⟩ => by rw [e]; rfl) fun cdv A outer s H vs Q E hr ⟨a, v, e, hH, hQ⟩ => ⟨_, pss_one (ps_osL (pv 0) (pv 1)), ?_⟩
  subst e
  exact ⟨_, rfl, _, rfl, a, C.NoGuest, rfl, T, B.n_NoGuest, hH, fun dx h1 h2 => hQ dx h1 h2⟩
abbrev s_BadSize_init : Stmt := inCls (topS 14) 0
theorem sc_BadSize_init : FnScope ["self", "value"] ["self", "value"] (defScope s_BadSize_init) := ⟨rfl, rfl, rfl, by decide +kernel, rfl, by decide +kernel, by decide +kernel⟩
theorem ok_BadSize_init {f : Addr} {fd : FuncData} (F : Fun K "__init__" "BadSize.__init__" s_BadSize_init f fd) (T : OexC K C.BadSize) (B : Bn K mg C) : FnOk P w K mg base CX0 1 f fd ["self", "value"] (spEI C.BadSize "value") := by
  refine F.ok sc_BadSize_init (fun vs H Q E ⟨a, v, e, _⟩ => by rw [e]; rfl) fun cdv A outer s H vs Q E hr ⟨a, v, e, hH, hQ⟩ => ⟨_, pss_one (ps_ost (pv 0) (pv 1)), ?_⟩
  subst e
  exact ⟨_, rfl, _, rfl, a, C.BadSize, rfl, T, B.n_BadSize, .inl ⟨hH, fun dx h1 h2 => hQ dx h1 h2⟩⟩
abbrev s_NoPair_init : Stmt := inCls (topS 22) 0
theorem sc_NoPair_init : FnScope ["self", "value"] ["self", "value"] (defScope s_NoPair_init) := ⟨rfl, rfl, rfl, by decide +kernel, rfl, by decide +kernel, by decide +kernel⟩
theorem ok_NoPair_init {f : Addr} {fd : FuncData} (F : Fun K "__init__" "NoPair.__init__" s_NoPair_init f fd) (T : OexL K C.NoPair) (B : Bn K mg C) : FnOk P w K mg base CX0 1 f fd ["self", "value"] (spEI C.NoPair "value") := by
  refine F.ok sc_NoPair_init (fun vs H Q E ⟨a, v, e, _⟩ => by rw [e]; rfl) fun cdv A outer s H vs Q E hr ⟨a, v, e, hH, hQ⟩ => ⟨_, pss_one (ps_osL (pv 0) (pv 1)), ?_⟩
  subst e
  exact ⟨_, rfl, _, rfl, a, C.NoPair, rfl, T, B.n_NoPair, hH, fun dx h1 h2 => hQ dx h1 h2⟩
abbrev s_NoVersion_init : Stmt := inCls (topS 23) 0
theorem sc_NoVersion_init : FnScope ["self", "value"] ["self", "value"] (defScope s_NoVersion_init) := ⟨rfl, rfl, rfl, by decide +kernel, rfl, by decide +kernel, by decide +kernel⟩
theorem ok_NoVersion_init {f : Addr} {fd : FuncData} (F : Fun K "__init__" "NoVersion.__init__" s_NoVersion_init f fd) (T : OexL K C.NoVersion) (B : Bn K mg C) : FnOk P w K mg base CX0 1 f fd ["self", "value"] (spEI C.NoVersion "value") := by
  refine F.ok sc_NoVersion_init (fun vs H Q E ⟨a, v, e, _⟩ => by rw [e]; rfl) fun cdv A outer s H vs Q E hr ⟨a, v, e, hH, hQ⟩ => ⟨_, pss_one (ps_osL (pv 0) (pv 1)), ?_⟩
  subst e
  exact ⟨_, rfl, _, rfl, a, C.NoVersion, rfl, T, B.n_NoVersion, hH, fun dx h1 h2 => hQ dx h1 h2⟩
abbrev s_BadNumber_init : Stmt := inCls (topS 17) 0
theorem sc_BadNumber_init : FnScope ["self", "value"] ["self", "value"] (defScope s_BadNumber_init) := ⟨rfl, rfl, rfl, by decide +kernel, rfl, by decide +kernel, by decide +kernel⟩
theorem ok_BadNumber_init {f : Addr} {fd : FuncData} (F : Fun K "__init__" "BadNumber.__init__" s_BadNumber_init f fd) (T : OexC K C.BadNumber) (B : Bn K mg C) : FnOk P w K mg base CX0 1 f fd ["self", "value"] (spEI C.BadNumber "value") := by
  refine F.ok sc_BadNumber_init (fun vs H Q E ⟨a, v, e, _⟩ => by rw [e]; rfl) fun cdv A outer s H vs Q E hr ⟨a, v, e, hH, hQ⟩ => ⟨_, pss_one (ps_ost (pv 0) (pv 1)), ?_⟩
  subst e
  exact ⟨_, rfl, _, rfl, a, C.BadNumber, rfl, T, B.n_BadNumber, .inl ⟨hH, fun dx h1 h2 => hQ dx h1 h2⟩⟩
def c_is_number : DSpec := fun as n R => ∃ d : PyData, as = [.dat d] ∧ isRefD d = false ∧ R (.bool (numB d)) n
def c_is_number_from : DSpec := fun as n R => ∃ d : PyData, ∃ a b : Int, as = [.dat d, .dat (.int a), .dat (.int b)] ∧ isRefD d = false ∧ R (.bool (numIn d a b)) n
def c_is_size : DSpec := fun as n R => ∃ d : PyData, as = [.dat d] ∧ isRefD d = false ∧ R (.bool (szD d)) n
def c__first_wrong : DSpec := fun as n R => ∃ xs : List Int, as = [.dat (sizesD xs)] ∧ In1 (10 ^ 6) xs ∧ xs.length ≤ 40 ∧ R .none n
def c_is_tuple : DSpec := fun as n R => ∃ ds : List PyData, ∃ a b : Int, as = [.dat (.tuple ds), .dat (.int a), .dat (.int b)] ∧ a ≤ ds.length ∧ (ds.length : Int) ≤ b ∧ R (.bool true) n
def c_hall_error : DSpec := fun as n R => ∃ feet pairs : List Int, as = [.dat (hallD feet pairs)] ∧ HallOk feet pairs ∧ feet.length ≤ 20 ∧ pairs.length ≤ 20 ∧ R .none n
def c_counts_at : DSpec := fun as n R => ∃ feet pairs : List Int, ∃ z : Int, as = [.dat (hallD feet pairs), .dat (.int z)] ∧ feet.length ≤ 100 ∧ pairs.length ≤ 100 ∧ R (.tuple [.int (cF feet z : Nat), .int (cP pairs z : Nat)]) n
def c__foot_sizes : DSpec := fun as n R => ∃ feet pairs : List Int, as = [.dat (hallD feet pairs)] ∧ feet.length ≤ 40 ∧ ∀ ms : List Int, ms = sd feet → (∀ k, k ∈ ms ↔ k ∈ feet) → ms.length ≤ 40 → R (.list (ms.map .int)) n
def c__deciding_sizes : DSpec := fun as n R => ∃ feet pairs : List Int, as = [.dat (hallD feet pairs)] ∧ feet.length ≤ 40 ∧ ∀ ms : List Int, ms = sd feet ++ [1000001] → (∀ k, k ∈ ms ↔ (k ∈ feet ∨ k = 1000001)) → ms.length ≤ 41 → R (.list (ms.map .int)) n
def c_most_served : DSpec := fun as n R => ∃ feet pairs : List Int, as = [.dat (hallD feet pairs)] ∧ HallOk feet pairs ∧ ∀ m : Int, IsMost feet pairs m → R (.int m) n
def c_fewest_served : DSpec := fun as n R => ∃ feet pairs : List Int, as = [.dat (hallD feet pairs)] ∧ HallOk feet pairs ∧ ∀ m : Int, IsFew feet pairs m → R (.int m) n
def c_Party__stand (C : CA) : DSpecX := fun as n R E => ∃ (a : Addr) (b : Bool) (h : Hl) (hs : List Hl) (done : List PyData) (fs : List (Str × PyData)), as = [.dat (refD a), .dat (.tuple (hs.map halD)), .dat (.tuple done)] ∧ n.ob a = some ⟨C.Party, fs⟩ ∧ StD b fs ∧ hs.getLast? = some h ∧ HlOk h ∧
  ∀ m f, IsMost h.1 h.2 m → IsFew h.1 h.2 f → R .none (n.put a ⟨C.Party, (Pt.mk b h m f hs done).fs⟩)
def c_Party___init__ (C : CA) : DSpecX := fun as n R E => ∃ (a : Addr) (h : Hl), as = [.dat (refD a), .dat (halD h)] ∧ HlOk h ∧ n.ob a = some ⟨C.Party, []⟩ ∧ ∀ m f, IsMost h.1 h.2 m → IsFew h.1 h.2 f → R .none (n.put a ⟨C.Party, (Pt.mk false h m f [h] []).fs⟩)
theorem len_Party___init__ {C : CA} (as : List Dv) (n : Wo) (R : PyData → Wo → Prop) (E : Ex → Wo → Prop) (h : c_Party___init__ C as n R E) : as.length = 2 := by
  obtain ⟨a, h, rfl, _⟩ := h
  rfl
abbrev c__law_draw : DSpec := drawA
def c__law_sizes : DSpec := fun as n R => ∃ many way : Int, as = [.deck false, .dat (.int many), .dat (.int way)] ∧ 0 ≤ many ∧ many ≤ 40 ∧ 0 ≤ way ∧ way < 3 ∧ n.n ≤ 900000 ∧ ∀ (xs : List Int) n', xs.length = many.toNat → In1 (10 ^ 6) xs → n' ≤ n + 40 → R (sizesD xs) n'
def c__law_hall : DSpec := fun as n R => ∃ most : Int, as = [.deck false, .dat (.int most)] ∧ 1 ≤ most ∧ most ≤ 20 ∧ n.n ≤ 800000 ∧ ∀ (h : Hl) n', HlOk h → (h.1.length : Int) ≤ most → (h.2.length : Int) ≤ most → n' ≤ n + 100 → R (halD h) n'
def c__law_edit : DSpec := fun as n R => ∃ h : Hl, as = [.deck false, .dat (halD h)] ∧ HlOk h ∧ n.n ≤ 900000 ∧ ∀ (nm : Str) (d : PyData) (h' : Hl) n', four nm → aft nm d h = .inr h' → (∃ z, d = .int z ∧ 0 ≤ z ∧ z ≤ 1000000) → n' ≤ n + 10 → R (.tuple [.str nm, d]) n'
def c__law_after : DSpec := fun as n R => ∃ (h h' : Hl) (nm : Str) (d : PyData), as = [.dat (halD h), .dat (.tuple [.str nm, d])] ∧ HlOk h ∧ four nm ∧ aft nm d h = .inr h' ∧ R (halD h') n
def c_Party__ask_idle (C : CA) : DSpecX := fun as n R E => ∃ (a : Addr) (p : Pt), as = [.dat (refD a)] ∧ n.ob a = some ⟨C.Party, p.fs⟩ ∧ (p.busy = false → R .none n) ∧ (p.busy = true → E ⟨C.Busy, []⟩ n)
def exP (C : CA) : Nat → Addr
  | 0 => C.BadFoot
  | 1 => C.TooManyGuests
  | 2 => C.NoGuest
  | 3 => C.LastGuest
  | 4 => C.BadSize
  | 5 => C.TooManyPairs
  | _ => C.NoPair
def c__with_guest (C : CA) : DSpecX := fun as n R E => ∃ (h : Hl) (d : PyData), as = [.dat (halD h), .dat d] ∧ HlOk h ∧ isRefD d = false ∧ OutK (aCome d h) (fun h' => R (halD h') n) fun b fs => E ⟨exP C b, fs⟩ n
def c__without_guest (C : CA) : DSpecX := fun as n R E => ∃ (h : Hl) (d : PyData), as = [.dat (halD h), .dat d] ∧ HlOk h ∧ isRefD d = false ∧ OutK (aLeave d h) (fun h' => R (halD h') n) fun b fs => E ⟨exP C b, fs⟩ n
def c__with_pair (C : CA) : DSpecX := fun as n R E => ∃ (h : Hl) (d : PyData), as = [.dat (halD h), .dat d] ∧ HlOk h ∧ isRefD d = false ∧ OutK (aPut d h) (fun h' => R (halD h') n) fun b fs => E ⟨exP C b, fs⟩ n
def c__without_pair (C : CA) : DSpecX := fun as n R E => ∃ (h : Hl) (d : PyData), as = [.dat (halD h), .dat d] ∧ HlOk h ∧ isRefD d = false ∧ OutK (aTake d h) (fun h' => R (halD h') n) fun b fs => E ⟨exP C b, fs⟩ n
def c_hall_after (C : CA) : DSpecX := fun as n R E => ∃ (h : Hl) (nm : Str) (d : PyData), as = [.dat (halD h), .dat (.str nm), .dat d] ∧ HlOk h ∧ isRefD d = false ∧ (nm = "come" ∨ nm = "leave" ∨ nm = "put" ∨ nm = "take") ∧ OutK (aft nm d h) (fun h' => R (halD h') n) fun b fs => E ⟨exP C b, fs⟩ n
def c_Party__ask_pledge (C : CA) : DSpecX := fun as n R E => ∃ (a : Addr) (f : Int), as = [.dat (refD a), .dat (.int f)] ∧ R .none n
def DoK (C : CA) (p : Pt) (a : Addr) (nm : Str) (d : PyData) (n : Wo) (R : Wo → Prop) (E : Ex → Wo → Prop) : Prop := (60 ≤ p.done.length → E ⟨C.TooManyEdits, []⟩ n) ∧ (p.done.length < 60 → OutK (aft nm d p.h) (fun h => ∀ m f, IsMost h.1 h.2 m → IsFew h.1 h.2 f → R (n.put a ⟨C.Party, (p.next h m f (.tuple [.str nm, d])).fs⟩)) fun b fs => E ⟨exP C b, fs⟩ n)
def c_Party__do (C : CA) : DSpecX := fun as n R E => ∃ (a : Addr) (p : Pt) (nm : Str) (d : PyData), as = [.dat (refD a), .dat (.str nm), .dat d] ∧ n.ob a = some ⟨C.Party, p.fs⟩ ∧ p.Ok ∧ four nm ∧ isRefD d = false ∧ DoK C p a nm d n (R .none) E
def EdK (C : CA) (p : Pt) (a : Addr) (nm : Str) (d : PyData) (n : Wo) (R : PyData → Wo → Prop) (E : Ex → Wo → Prop) : Prop := (p.busy = true → E ⟨C.Busy, []⟩ n) ∧ (p.busy = false → DoK C p a nm d n (R (.int (p.done.length + 1))) E)
def c_Party__edit (C : CA) : DSpecX := fun as n R E => ∃ (a : Addr) (p : Pt) (nm : Str) (d : PyData), as = [.dat (refD a), .dat (.str nm), .dat d] ∧ n.ob a = some ⟨C.Party, p.fs⟩ ∧ p.Ok ∧ four nm ∧ isRefD d = false ∧ EdK C p a nm d n R E
def c_Party_take (C : CA) : DSpecX := fun as n R E => ∃ (a : Addr) (p : Pt) (d : PyData), as = [.dat (refD a), .dat d] ∧ n.ob a = some ⟨C.Party, p.fs⟩ ∧ p.Ok ∧ isRefD d = false ∧ EdK C p a "take" d n R E
def c_Party_come (C : CA) : DSpecX := fun as n R E => ∃ (a : Addr) (p : Pt) (d : PyData), as = [.dat (refD a), .dat d] ∧ n.ob a = some ⟨C.Party, p.fs⟩ ∧ p.Ok ∧ isRefD d = false ∧ EdK C p a "come" d n R E
def c_Party_leave (C : CA) : DSpecX := fun as n R E => ∃ (a : Addr) (p : Pt) (d : PyData), as = [.dat (refD a), .dat d] ∧ n.ob a = some ⟨C.Party, p.fs⟩ ∧ p.Ok ∧ isRefD d = false ∧ EdK C p a "leave" d n R E
def c_Party_put (C : CA) : DSpecX := fun as n R E => ∃ (a : Addr) (p : Pt) (d : PyData), as = [.dat (refD a), .dat d] ∧ n.ob a = some ⟨C.Party, p.fs⟩ ∧ p.Ok ∧ isRefD d = false ∧ EdK C p a "put" d n R E
def c__law_do (C : CA) : DSpec := fun as n R => ∃ (a : Addr) (p : Pt) (nm : Str) (d : PyData) (h : Hl), as = [.dat (refD a), .dat (.tuple [.str nm, d])] ∧ n.ob a = some ⟨C.Party, p.fs⟩ ∧ p.Ok ∧ p.busy = false ∧ p.done.length < 60 ∧ four nm ∧ isRefD d = false ∧ aft nm d p.h = .inr h ∧ ∀ m f, IsMost h.1 h.2 m → IsFew h.1 h.2 f → R (.int (p.done.length + 1)) (n.put a ⟨C.Party, (p.next h m f (.tuple [.str nm, d])).fs⟩)
def c_Party__hall_at (C : CA) : DSpecX := fun as n R E => ∃ (a : Addr) (p : Pt) (d : PyData), as = [.dat (refD a), .dat d] ∧ n.ob a = some ⟨C.Party, p.fs⟩ ∧ p.Ok ∧ isRefD d = false ∧ (d = .none → R (halD p.h) n) ∧
  (d ≠ .none → numIn d 0 p.done.length = false → E ⟨C.NoVersion, [("value", d)]⟩ n) ∧ (∀ (i : Nat) (h : Hl), d = .int i → p.hs[i]? = some h → R (halD h) n)
def c__fitting : DSpec := fun as n R => ∃ feet pairs left : List Int, ∃ g : Int, as = [.dat (hallD feet pairs), .dat (.int g), .vw (left.map .int)] ∧ 0 ≤ g ∧ g < feet.length ∧ InR pairs.length left ∧ left.length ≤ 100 ∧
  R (.list ((left.filter fun j => decide (getI feet g ≤ getI pairs j)).map .int)) n
def c_run_by_liking : DSpec := fun as n R => ∃ feet pairs order liking : List Int, as = [.dat (hallD feet pairs), .dat (.tuple (order.map .int)), .dat (.list (liking.map .int))] ∧ InR feet.length order ∧ InR pairs.length liking ∧ order.length ≤ 100 ∧ liking.length ≤ 100 ∧
  R (.tuple ((order.foldl (stepF feet pairs) (liking, [])).2.map prD)) n
def c_large_run : DSpec := fun as n R => ∃ feet pairs order : List Int, as = [.dat (hallD feet pairs), .dat (.tuple (order.map .int))] ∧ HallOk feet pairs ∧ InR feet.length order ∧ order.length ≤ 100 ∧ R (.tuple ((ruled (fun j => -getI pairs j) feet pairs order).map prD)) n
def c_order_by_feet : DSpec := fun as n R => ∃ feet pairs : List Int, as = [.dat (hallD feet pairs)] ∧ feet.length ≤ 40 ∧ R (.tuple ((obf feet).map .int)) n
def c__word_at : DSpec := fun as n R => ∃ feet pairs : List Int, ∃ num s : Int, as = [.dat (hallD feet pairs), .dat (.int num), .dat (.int s)] ∧ feet.length ≤ 100 ∧ pairs.length ≤ 100 ∧ R (.str (wordAt feet num s)) n
def c_sure_certificate : DSpec := fun as n R => ∃ feet pairs : List Int, ∃ num : Int, as = [.dat (hallD feet pairs), .dat (.int num)] ∧ HallOk feet pairs ∧ ∀ m : Int, IsFew feet pairs m → R (sureD feet pairs m num) n
def c_Party_certificate (C : CA) : DSpecX := fun as n R E => ∃ (a : Addr) (p : Pt) (num v : PyData), as = [.dat (refD a), .dat num, .dat v] ∧ n.ob a = some ⟨C.Party, p.fs⟩ ∧ p.Ok ∧ isRefD num = false ∧ isRefD v = false ∧ (v ≠ .none → numIn v 0 p.done.length = false → E ⟨C.NoVersion, [("value", v)]⟩ n) ∧ ∀ h, HAt p v h → (numIn num 0 1000 = false → E ⟨C.BadNumber, [("value", num)]⟩ n) ∧ ∀ z : Int, num = .int z → 0 ≤ z → z ≤ 1000 → ∀ m, IsFew h.1 h.2 m → R (sureD h.1 h.2 m z) n
def c_Party_state (C : CA) : DSpecX := fun as n R E => ∃ (a : Addr) (p : Pt) (d : PyData), as = [.dat (refD a), .dat d] ∧ n.ob a = some ⟨C.Party, p.fs⟩ ∧ p.Ok ∧ isRefD d = false ∧ (d = .none → R (halD p.h) n) ∧
  (d ≠ .none → numIn d 0 p.done.length = false → E ⟨C.NoVersion, [("value", d)]⟩ n) ∧ (∀ (i : Nat) (h : Hl), d = .int i → p.hs[i]? = some h → R (halD h) n)
def c_small_run : DSpec := fun as n R => ∃ feet pairs order : List Int, as = [.dat (hallD feet pairs), .dat (.tuple (order.map .int))] ∧ HallOk feet pairs ∧ InR feet.length order ∧ order.length ≤ 100 ∧ R (.tuple ((ruled (getI pairs) feet pairs order).map prD)) n
def c_Party_walk (C : CA) : DSpecG := fun as n R E => ∃ (a : Addr) (p : Pt) (d : PyData), as = [.dat (refD a), .dat d] ∧ n.ob a = some ⟨C.Party, p.fs⟩ ∧ p.Ok ∧ isRefD d = false ∧ (d ≠ .none → numIn d 0 p.done.length = false → E ⟨C.NoVersion, [("value", d)]⟩ n) ∧ ∀ h, HAt p d h → R (walkD h.2 (smallR h.1 h.2)) n
def c__law_queried (C : CA) : DSpecX := fun as n R E => ∃ (a : Addr) (p : Pt) (w : Int) (num v : PyData), as = [.dat (refD a), .dat (.int w), .dat num, .dat v] ∧ n.ob a = some ⟨C.Party, p.fs⟩ ∧ p.Ok ∧ isRefD num = false ∧ isRefD v = false ∧ (v ≠ .none → numIn v 0 p.done.length = false → E ⟨C.NoVersion, [("value", v)]⟩ n) ∧ ∀ h, HAt p v h → (w = 0 → R (halD h) n) ∧ (w = 1 → R (.list (walkD h.2 (smallR h.1 h.2))) n) ∧ (w ≠ 0 → w ≠ 1 → (numIn num 0 1000 = false → E ⟨C.BadNumber, [("value", num)]⟩ n) ∧ ∀ z : Int, num = .int z → 0 ≤ z → z ≤ 1000 → ∀ m, IsFew h.1 h.2 m → R (sureD h.1 h.2 m z) n)
def c__law_told (C : CA) : DSpec := fun as n R => ∃ (a : Addr) (p : Pt) (w : Int) (num v : PyData), as = [.dat (refD a), .dat (.int w), .dat num, .dat v] ∧ n.ob a = some ⟨C.Party, p.fs⟩ ∧ p.Ok ∧ GV 500 4 num ∧ GV 500 4 v ∧ ∀ n', Sim n n' → R (duD p w num v) n'
def c__law_is_within : DSpec := fun as n R => ∃ d : PyData, ∃ a b : Int, as = [.dat d, .dat (.int a), .dat (.int b)] ∧ isRefD d = false ∧ R (.bool (numIn d a b)) n
def c__law_walked : DSpec := fun as n R => ∃ h : Hl, as = [.dat (halD h)] ∧ HlOk h ∧ R (.list (walkD h.2 (smallR h.1 h.2))) n
def c__law_expected : DSpec := fun as n R => ∃ (p : Pt) (w : Int) (num v : PyData), as = [.vw (p.hs.map halD), .dat (.int w), .dat num, .dat v] ∧ p.Ok ∧ GV 500 4 num ∧ GV 500 4 v ∧ R (duD p w num v) n
def UnK (C : CA) (p : Pt) (a : Addr) (n : Wo) (R : PyData → Wo → Prop) (E : Wo → Prop) : Prop := (p.done = [] → E n) ∧ (p.done ≠ [] → ∀ (h : Hl) m f, p.hs.dropLast.getLast? = some h → IsMost h.1 h.2 m → IsFew h.1 h.2 f → R (.int (p.done.length - 1)) (n.put a ⟨C.Party, (p.back h m f).fs⟩))
def c_Party_undo (C : CA) : DSpecX := fun as n R E => ∃ (a : Addr) (p : Pt), as = [.dat (refD a)] ∧ n.ob a = some ⟨C.Party, p.fs⟩ ∧ p.Ok ∧ (p.busy = true → E ⟨C.Busy, []⟩ n) ∧ (p.busy = false → UnK C p a n R fun n => E ⟨C.NothingToUndo, []⟩ n)
def c__law_ends : DSpec := fun as n R => ∃ h : Hl, as = [.dat (halD h)] ∧ HlOk h ∧ ∀ m f, IsMost h.1 h.2 m → IsFew h.1 h.2 f → R (.list [.int f, .int m]) n
abbrev s_is_number : Stmt := topS 25
abbrev N_is_number : List Str := ["value"]
theorem sc_is_number : FnScope N_is_number ["value"] (defScope s_is_number) := ⟨rfl, rfl, rfl, by decide +kernel, rfl, by decide +kernel, by decide +kernel⟩
theorem fn_is_number {f : Addr} {fd : FuncData} (F : Fun K "is_number" "is_number" s_is_number f fd) (B : Bn K mg C) : FnNG P w K mg base 1 f fd ["value"] (spD K 1 c_is_number) := by
  refine fndNG (k := 0) c_is_number F sc_is_number fun cdv A outer s H hr Y => ?_
  have hu := hr.units
  have hu1 : (A.deeper (envOfC "is_number" (defScope s_is_number) s.heap.objs.size f cdv)).units + 65 < cLine := by have := hr.un; omega
  have hu0 : (A.deeper (envOfC "is_number" (defScope s_is_number) s.heap.objs.size f cdv)).units + 1 < cLine := by have := hr.un; omega
  refine ⟨_, (dss_one (ds_ret (we_and (we_isi (.inl rfl) (by rfl) B.isinstance (we_var 0) (by rfl) B.int PyProof.Rows.boot_int) (we_one (we_not (we_isi (.inr (.inl rfl)) (by rfl) B.isinstance (we_var 0) (by rfl) B.bool PyProof.Rows.boot_bool)))))), fun as n R hl hc => ?_⟩
  obtain ⟨d, rfl, hnr, hR⟩ := hc
  cases d with
  | int z => exact ⟨_, rfl, rfl, asB_T (isi_ii z) (iteT ⟨_, rfl, rfl, asB_F (isi_ib z) hR⟩)⟩
  | bool b => exact ⟨_, rfl, rfl, asB_T (isi_bi b) (iteT ⟨_, rfl, rfl, asB_T (isi_bb b) hR⟩)⟩
  | none => exact ⟨_, rfl, rfl, asB_F (show isiB "NoneType" "int" = false by decide +kernel) hR⟩
  | str s => exact ⟨_, rfl, rfl, asB_F (show isiB "str" "int" = false by decide +kernel) hR⟩
  | list ds => exact ⟨_, rfl, rfl, asB_F (show isiB "list" "int" = false by decide +kernel) hR⟩
  | tuple ds => exact ⟨_, rfl, rfl, asB_F (show isiB "tuple" "int" = false by decide +kernel) hR⟩
  | dict kvs => exact ⟨_, rfl, isDR_dat hnr, asB_F (show isiB "dict" "int" = false by decide +kernel) hR⟩
abbrev s_is_number_from : Stmt := topS 26
abbrev N_is_number_from : List Str := ["value", "low", "high"]
theorem sc_is_number_from : FnScope N_is_number_from ["value", "low", "high"] (defScope s_is_number_from) := ⟨rfl, rfl, rfl, by decide +kernel, rfl, by decide +kernel, by decide +kernel⟩
theorem fn_is_number_from {f : Addr} {fd : FuncData} (F : Fun K "is_number_from" "is_number_from" s_is_number_from f fd) (B : Bn K mg C) (HN_is_number : HasNG P w K mg base "is_number" 1 ["value"] c_is_number) : FnNG P w K mg base 2 f fd ["value", "low", "high"] (spD K 3 c_is_number_from) := by
  refine fndNG (k := 1) c_is_number_from F sc_is_number_from fun cdv A outer s H hr Y => ?_
  have hu := hr.units
  have hu1 : (A.deeper (envOfC "is_number_from" (defScope s_is_number_from) s.heap.objs.size f cdv)).units + 65 < cLine := by have := hr.un; omega
  have hu0 : (A.deeper (envOfC "is_number_from" (defScope s_is_number_from) s.heap.objs.size f cdv)).units + 1 < cLine := by have := hr.un; omega
  refine ⟨_, (dss_one (ds_ret (we_and (we_hasNG HN_is_number (hr.mono (by decide)) (by rfl) (wa_cons (we_var 0) wa_nil)) (we_one (we_chain op_le op_le bi_B0 bi_B0 (we_var 1) (we_var 0) (we_var 2)))))), fun as n R hl hc => ?_⟩
  obtain ⟨d, a, b, rfl, hnr, hR⟩ := hc
  refine ⟨_, rfl, rfl, d, rfl, hnr, ?_⟩
  cases d with
  | int z =>
    have hR : R (.bool (decide (a ≤ z) && decide (z ≤ b))) n := hR
    refine asB_T (c := true) rfl (iteT ⟨_, rfl, _, rfl, _, rfl, ?_⟩)
    by_cases h : a ≤ z
    · rw [decide_eq_true h, Bool.true_and] at hR
      exact iteD h ⟨_, rfl, hR⟩
    · rw [decide_eq_false h, Bool.false_and] at hR
      exact ifF (decide_eq_false h) hR
  | bool z => exact asB_F (c := false) rfl hR
  | none => exact asB_F (c := false) rfl hR
  | str s => exact asB_F (c := false) rfl hR
  | list ds => exact asB_F (c := false) rfl hR
  | tuple ds => exact asB_F (c := false) rfl hR
  | dict kvs => exact asB_F (c := false) rfl hR
abbrev s_is_size : Stmt := topS 27
abbrev N_is_size : List Str := ["value"]
theorem sc_is_size : FnScope N_is_size ["value"] (defScope s_is_size) := ⟨rfl, rfl, rfl, by decide +kernel, rfl, by decide +kernel, by decide +kernel⟩
theorem fn_is_size {f : Addr} {fd : FuncData} (F : Fun K "is_size" "is_size" s_is_size f fd) (B : Bn K mg C) (H_is_number_from : Has P w K mg base "is_number_from" 2 ["value", "low", "high"] c_is_number_from) : FnG P w K mg base 3 f fd ["value"] (spD K 1 c_is_size) := by
  refine fnd (k := 2) c_is_size F sc_is_size fun cdv A outer s H hgd0 hr Y => ?_
  have hu := hr.units
  have hu1 : (A.deeper (envOfC "is_size" (defScope s_is_size) s.heap.objs.size f cdv)).units + 65 < cLine := by have := hr.un; omega
  have hu0 : (A.deeper (envOfC "is_size" (defScope s_is_size) s.heap.objs.size f cdv)).units + 1 < cLine := by have := hr.un; omega
  have hgd : (A.deeper (envOfC "is_size" (defScope s_is_size) s.heap.objs.size f cdv)).guards = some [] := hgd0
  refine ⟨_, (dss_one (ds_ret (we_has H_is_number_from hgd (hr.mono (by decide)) (by rfl) (wa_cons (we_var 0) (wa_cons we_int (wa_cons (we_gint (by rfl) B.MAX_SIZE.choose_spec) wa_nil)))))), fun as n R hl hc => ?_⟩
  obtain ⟨d, rfl, hnr, hR⟩ := hc
  exact ⟨_, rfl, rfl, d, 1, 1000000, rfl, hnr, hR⟩
abbrev s__first_wrong : Stmt := topS 29
abbrev N__first_wrong : List Str := ["values", "at", "value"]
theorem sc__first_wrong : FnScope N__first_wrong ["values"] (defScope s__first_wrong) := ⟨rfl, rfl, rfl, by decide +kernel, rfl, by decide +kernel, by decide +kernel⟩
theorem fn__first_wrong {f : Addr} {fd : FuncData} (F : Fun K "_first_wrong" "_first_wrong" s__first_wrong f fd) (B : Bn K mg C) (H_is_size : Has P w K mg base "is_size" 3 ["value"] c_is_size) : FnG P w K mg base 4 f fd ["values"] (spD K 1 c__first_wrong) := by
  refine fnd (k := 3) c__first_wrong F sc__first_wrong fun cdv A outer s H hgd0 hr Y => ?_
  have hu := hr.units
  have hu1 : (A.deeper (envOfC "_first_wrong" (defScope s__first_wrong) s.heap.objs.size f cdv)).units + 65 < cLine := by have := hr.un; omega
  have hu0 : (A.deeper (envOfC "_first_wrong" (defScope s__first_wrong) s.heap.objs.size f cdv)).units + 1 < cLine := by have := hr.un; omega
  have hgd : (A.deeper (envOfC "_first_wrong" (defScope s__first_wrong) s.heap.objs.size f cdv)).guards = some [] := hgd0
  refine ⟨_, (dss_cons (ds_for PassesOwn.never rfl (di_enumA (by rfl) B.enumerate (wa_cons (we_var 0) wa_nil)) ⟨(pg_tup rfl (pgs_cons (pg_name (i := 1) sc__first_wrong.nd rfl (Or.inl rfl)) (pgs_cons (pg_name (i := 2) sc__first_wrong.nd rfl (Or.inl rfl)) pgs_nil))), gok_two⟩ (dss_one (ds_if (wt_not (wt_val (we_has H_is_size hgd (hr.mono (by decide)) (by rfl) (wa_cons (we_var 2) wa_nil)))) (dss_one (ds_ret (we_var 1))) dss_nil))) (dss_one (ds_ret we_non))), fun as n R hl hc => ?_⟩
  obtain ⟨xs, rfl, hx1, hxl, hR⟩ := hc
  refine ⟨_, rfl, _, _, rfl, rfl, ?_⟩
  refine forR_inv (fun k ρ n' => n' = n ∧ ∃ a1 a2, ρ = [some (.dat (sizesD xs)), a1, a2]) ⟨rfl, none, none, rfl⟩ ?_ ?_
  · rintro k x ρ n' hx ⟨rfl, a1, a2, rfl⟩
    obtain ⟨d, hd, rfl⟩ := enumD_get hx
    obtain ⟨z, hz, rfl⟩ := map_get hd
    obtain ⟨z1, z2⟩ := hx1 z (List.mem_of_getElem? hz)
    refine ⟨_, _, rfl, _, rfl, rfl, .int z, rfl, rfl, _, rfl, ?_⟩
    refine ifN (numIn_int z1 z2) ?_
    exact ⟨rfl, _, _, rfl⟩
  · rintro ρ n' ⟨rfl, a1, a2, rfl⟩
    exact hR
abbrev s_is_tuple : Stmt := topS 28
abbrev N_is_tuple : List Str := ["value", "least", "most"]
theorem sc_is_tuple : FnScope N_is_tuple ["value", "least", "most"] (defScope s_is_tuple) := ⟨rfl, rfl, rfl, by decide +kernel, rfl, by decide +kernel, by decide +kernel⟩
theorem fn_is_tuple {f : Addr} {fd : FuncData} (F : Fun K "is_tuple" "is_tuple" s_is_tuple f fd) (B : Bn K mg C) : FnG P w K mg base 1 f fd ["value", "least", "most"] (spD K 3 c_is_tuple) := by
  refine fnd (k := 0) c_is_tuple F sc_is_tuple fun cdv A outer s H hgd0 hr Y => ?_
  have hu := hr.units
  have hu1 : (A.deeper (envOfC "is_tuple" (defScope s_is_tuple) s.heap.objs.size f cdv)).units + 65 < cLine := by have := hr.un; omega
  have hu0 : (A.deeper (envOfC "is_tuple" (defScope s_is_tuple) s.heap.objs.size f cdv)).units + 1 < cLine := by have := hr.un; omega
  have hgd : (A.deeper (envOfC "is_tuple" (defScope s_is_tuple) s.heap.objs.size f cdv)).guards = some [] := hgd0
  refine ⟨_, (dss_one (ds_ret (we_and (we_isi (.inr (.inr (.inr (.inl rfl)))) (by rfl) B.isinstance (we_var 0) (by rfl) B.tuple PyProof.Rows.boot_tuple) (we_one (we_chain op_le op_le bi_B0 bi_B0 (we_var 1) (we_callB call_len_seq ck_len (by rfl) B.len PySem.boot_len (wa_cons (we_var 0) wa_nil)) (we_var 2)))))), fun as n R hl hc => ?_⟩
  obtain ⟨ds, a, b, rfl, h1, h2, hR⟩ := hc
  refine ⟨_, rfl, rfl, asB_T (isi_tt _) (iteT ?_)⟩
  refine ⟨_, rfl, _, rfl, _, _, rfl, rfl, _, rfl, iteD h1 ?_⟩
  refine ⟨_, rfl, ?_⟩
  show R (.bool (decide ((ds.length : Int) ≤ b))) n
  rw [decide_eq_true h2]
  exact hR
abbrev s_hall_error : Stmt := topS 30
abbrev N_hall_error : List Str := ["value", "feet", "pairs", "guest", "pair"]
theorem sc_hall_error : FnScope N_hall_error ["value"] (defScope s_hall_error) := ⟨rfl, rfl, rfl, by decide +kernel, rfl, by decide +kernel, by decide +kernel⟩
theorem fn_hall_error {f : Addr} {fd : FuncData} (F : Fun K "hall_error" "hall_error" s_hall_error f fd) (B : Bn K mg C) (H__first_wrong : Has P w K mg base "_first_wrong" 4 ["values"] c__first_wrong) (H_is_tuple : Has P w K mg base "is_tuple" 1 ["value", "least", "most"] c_is_tuple) : FnG P w K mg base 5 f fd ["value"] (spD K 1 c_hall_error) := by
  refine fnd (k := 4) c_hall_error F sc_hall_error fun cdv A outer s H hgd0 hr Y => ?_
  have hu := hr.units
  have hu1 : (A.deeper (envOfC "hall_error" (defScope s_hall_error) s.heap.objs.size f cdv)).units + 65 < cLine := by have := hr.un; omega
  have hu0 : (A.deeper (envOfC "hall_error" (defScope s_hall_error) s.heap.objs.size f cdv)).units + 1 < cLine := by have := hr.un; omega
  have hgd : (A.deeper (envOfC "hall_error" (defScope s_hall_error) s.heap.objs.size f cdv)).guards = some [] := hgd0
  refine ⟨_, (dss_cons (ds_if (wt_not (wt_val (we_has H_is_tuple hgd (hr.mono (by decide)) (by rfl) (wa_cons (we_var 0) (wa_cons we_int (wa_cons we_int wa_nil)))))) (dss_one (ds_ret (we_tup (wa_cons we_non (wa_cons we_str wa_nil))))) dss_nil) (dss_cons (ds_asgG (we_var 0) ⟨(pg_tup rfl (pgs_cons (pg_name (i := 1) sc_hall_error.nd rfl (Or.inl rfl)) (pgs_cons (pg_name (i := 2) sc_hall_error.nd rfl (Or.inl rfl)) pgs_nil))), gok_two⟩) (dss_cons (ds_if (wt_not (wt_val (we_has H_is_tuple hgd (hr.mono (by decide)) (by rfl) (wa_cons (we_var 1) (wa_cons we_int (wa_cons (we_gint (by rfl) B.MAX_GUESTS.choose_spec) wa_nil)))))) (dss_one (ds_ret (we_tup (wa_cons we_non (wa_cons we_str wa_nil))))) dss_nil) (dss_cons (ds_set (i := 3) sc_hall_error.nd rfl (Or.inl rfl) (xe_d (we_has H__first_wrong hgd (hr.mono (by decide)) (by rfl) (wa_cons (we_var 1) wa_nil)))) (dss_cons (ds_if (wt_cmp op_notN bi_notN (we_var 3) we_non (nomark _)) (dss_one (ds_ret (we_tup (wa_cons (we_var 3) (wa_cons we_str wa_nil))))) dss_nil) (dss_cons (ds_if (wt_not (wt_val (we_has H_is_tuple hgd (hr.mono (by decide)) (by rfl) (wa_cons (we_var 2) (wa_cons we_int (wa_cons (we_gint (by rfl) B.MAX_PAIRS.choose_spec) wa_nil)))))) (dss_one (ds_ret (we_tup (wa_cons we_non (wa_cons we_str wa_nil))))) dss_nil) (dss_cons (ds_set (i := 4) sc_hall_error.nd rfl (Or.inl rfl) (xe_d (we_has H__first_wrong hgd (hr.mono (by decide)) (by rfl) (wa_cons (we_var 2) wa_nil)))) (dss_cons (ds_if (wt_cmp op_notN bi_notN (we_var 4) we_non (nomark _)) (dss_one (ds_ret (we_tup (wa_cons (we_var 4) (wa_cons we_str wa_nil))))) dss_nil) (dss_one (ds_ret we_non)))))))))), fun as n R hl hc => ?_⟩
  obtain ⟨feet, pairs, rfl, hh, hf, hp, hR⟩ := hc
  have hf1 := hh.f1
  refine ⟨_, rfl, rfl, _, 2, 2, rfl, by show (2 : Int) ≤ 2; decide, by show (2 : Int) ≤ 2; decide, _, rfl, ?_⟩
  refine ifN (b := true) rfl ?_
  refine ⟨_, rfl, _, _, rfl, _, rfl, rfl, _, 1, 20, rfl, by rw [List.length_map]; omega, by rw [List.length_map]; omega, _, rfl, ?_⟩
  refine ifN (b := true) rfl ?_
  refine ⟨_, rfl, rfl, feet, rfl, hh.fi, hh.f2, ?_⟩
  refine ⟨_, rfl, rfl, rfl, _, rfl, iteF ?_⟩
  refine ⟨_, rfl, rfl, _, 0, 20, rfl, by rw [List.length_map]; omega, by rw [List.length_map]; omega, _, rfl, ?_⟩
  refine ifN (b := true) rfl ?_
  refine ⟨_, rfl, rfl, pairs, rfl, hh.pi, hh.p2, ?_⟩
  exact ⟨_, rfl, rfl, rfl, _, rfl, iteF hR⟩
abbrev s_counts_at : Stmt := topS 31
abbrev N_counts_at : List Str := ["hall", "size", "feet", "pairs", "smaller", "larger", "foot", "pair"]
theorem sc_counts_at : FnScope N_counts_at ["hall", "size"] (defScope s_counts_at) := ⟨rfl, rfl, rfl, by decide +kernel, rfl, by decide +kernel, by decide +kernel⟩
theorem fn_counts_at {f : Addr} {fd : FuncData} (F : Fun K "counts_at" "counts_at" s_counts_at f fd) (B : Bn K mg C) : FnG P w K mg base 1 f fd ["hall", "size"] (spD K 2 c_counts_at) := by
  refine fnd (k := 0) c_counts_at F sc_counts_at fun cdv A outer s H hgd0 hr Y => ?_
  have hu := hr.units
  have hu1 : (A.deeper (envOfC "counts_at" (defScope s_counts_at) s.heap.objs.size f cdv)).units + 65 < cLine := by have := hr.un; omega
  have hu0 : (A.deeper (envOfC "counts_at" (defScope s_counts_at) s.heap.objs.size f cdv)).units + 1 < cLine := by have := hr.un; omega
  have hgd : (A.deeper (envOfC "counts_at" (defScope s_counts_at) s.heap.objs.size f cdv)).guards = some [] := hgd0
  refine ⟨_, (dss_cons (ds_asgG (we_var 0) ⟨(pg_tup rfl (pgs_cons (pg_name (i := 2) sc_counts_at.nd rfl (Or.inl rfl)) (pgs_cons (pg_name (i := 3) sc_counts_at.nd rfl (Or.inl rfl)) pgs_nil))), gok_two⟩) (dss_cons (ds_setLcV (i := 4) (u := xD (dOfM _)) (hyl := rfl) (hy := rfl) (hsw := sw_true rfl rfl rfl (by decide +kernel)) (hu := lc_dat) (own := [("foot", 6)]) (hc := rfl) (hN := sc_counts_at.nd) (hi := (di_seqV (we_var 2))) (ok := (blkOk_by (N := N_counts_at) (sc := defScope s_counts_at) (by decide +kernel))) (hk := gok_name) (hg := fun _ _ _ _ _ => (pg_name (i := 6) sc_counts_at.nd rfl (Or.inl rfl))) (ht := fun _ _ _ _ _ => (wts_one (wt_cmp op_lt bi_B0 (we_var 6) (we_var 1) (nomark _)))) (he := fun _ _ _ _ _ => (we_var 6)) (hv := by decide)) (dss_cons (ds_setLcV (i := 5) (u := xD (dOfM _)) (hyl := rfl) (hy := rfl) (hsw := sw_true rfl rfl rfl (by decide +kernel)) (hu := lc_dat) (own := [("pair", 7)]) (hc := rfl) (hN := sc_counts_at.nd) (hi := (di_seqV (we_var 3))) (ok := (blkOk_by (N := N_counts_at) (sc := defScope s_counts_at) (by decide +kernel))) (hk := gok_name) (hg := fun _ _ _ _ _ => (pg_name (i := 7) sc_counts_at.nd rfl (Or.inl rfl))) (ht := fun _ _ _ _ _ => (wts_one (wt_cmp op_ge bi_B0 (we_var 7) (we_var 1) (nomark _)))) (he := fun _ _ _ _ _ => (we_var 7)) (hv := by decide)) (dss_one (ds_ret (we_tup (wa_cons (we_callB call_len_seq ck_len (by rfl) B.len PySem.boot_len (wa_cons (we_var 4) wa_nil)) (wa_cons (we_callB call_len_seq ck_len (by rfl) B.len PySem.boot_len (wa_cons (we_var 5) wa_nil)) wa_nil)))))))), fun as n R hl hc => ?_⟩
  obtain ⟨feet, pairs, z, rfl, hf, hp, hR⟩ := hc
  refine ⟨_, rfl, _, _, rfl, _, rfl, _, rfl, compR_p feet .int (fun x => decide (x < z)) .int (small1000 (by omega)) (fun x hx acc KK hK => ⟨_, rfl, _, rfl, _, rfl, ite_imp (fun h => ⟨_, rfl, h⟩) id hK⟩) ?_⟩
  refine ⟨_, rfl, _, rfl, compR_p pairs .int (fun x => decide (z ≤ x)) .int (small1000 (by omega)) (fun x hx acc KK hK => ⟨_, rfl, _, rfl, _, rfl, ite_imp (fun h => ⟨_, rfl, h⟩) id hK⟩) ?_⟩
  refine ⟨_, rfl, _, _, rfl, rfl, _, rfl, _, _, rfl, rfl, by show 2 ≤ sizeLine; decide, ?_⟩
  simp only [List.length_map]
  exact hR
abbrev s__foot_sizes : Stmt := topS 46
abbrev N__foot_sizes : List Str := ["hall"]
theorem sc__foot_sizes : FnScope N__foot_sizes ["hall"] (defScope s__foot_sizes) := ⟨rfl, rfl, rfl, by decide +kernel, rfl, by decide +kernel, by decide +kernel⟩
theorem fn__foot_sizes {f : Addr} {fd : FuncData} (F : Fun K "_foot_sizes" "_foot_sizes" s__foot_sizes f fd) (B : Bn K mg C) : FnG P w K mg base 1 f fd ["hall"] (spD K 1 c__foot_sizes) := by
  refine fnd (k := 0) c__foot_sizes F sc__foot_sizes fun cdv A outer s H hgd0 hr Y => ?_
  have hu := hr.units
  have hu1 : (A.deeper (envOfC "_foot_sizes" (defScope s__foot_sizes) s.heap.objs.size f cdv)).units + 65 < cLine := by have := hr.un; omega
  have hu0 : (A.deeper (envOfC "_foot_sizes" (defScope s__foot_sizes) s.heap.objs.size f cdv)).units + 1 < cLine := by have := hr.un; omega
  have hgd : (A.deeper (envOfC "_foot_sizes" (defScope s__foot_sizes) s.heap.objs.size f cdv)).guards = some [] := hgd0
  refine ⟨_, (dss_one (ds_ret (we_ofM (me_sortedSet rfl (by rfl) B.sorted (by rfl) B.set (we_ix (we_var 0) we_int (fun _ _ => rfl)))))), fun as n R hl hc => ?_⟩
  obtain ⟨feet, pairs, rfl, hf, hR⟩ := hc
  exact ⟨_, rfl, 0, _, rfl, rfl, feet, rfl, by omega, fun ms hp hm => hR ms (sd_uniq hp hm) hm (Nat.le_trans (nodup_len (hp.imp fun h => Int.ne_of_lt h) fun x hx => (hm x).mp hx) hf)⟩
abbrev s__deciding_sizes : Stmt := topS 47
abbrev N__deciding_sizes : List Str := ["hall"]
theorem sc__deciding_sizes : FnScope N__deciding_sizes ["hall"] (defScope s__deciding_sizes) := ⟨rfl, rfl, rfl, by decide +kernel, rfl, by decide +kernel, by decide +kernel⟩
theorem fn__deciding_sizes {f : Addr} {fd : FuncData} (F : Fun K "_deciding_sizes" "_deciding_sizes" s__deciding_sizes f fd) (B : Bn K mg C) (H__foot_sizes : Has P w K mg base "_foot_sizes" 1 ["hall"] c__foot_sizes) : FnG P w K mg base 2 f fd ["hall"] (spD K 1 c__deciding_sizes) := by
  refine fnd (k := 1) c__deciding_sizes F sc__deciding_sizes fun cdv A outer s H hgd0 hr Y => ?_
  have hu := hr.units
  have hu1 : (A.deeper (envOfC "_deciding_sizes" (defScope s__deciding_sizes) s.heap.objs.size f cdv)).units + 65 < cLine := by have := hr.un; omega
  have hu0 : (A.deeper (envOfC "_deciding_sizes" (defScope s__deciding_sizes) s.heap.objs.size f cdv)).units + 1 < cLine := by have := hr.un; omega
  have hgd : (A.deeper (envOfC "_deciding_sizes" (defScope s__deciding_sizes) s.heap.objs.size f cdv)).guards = some [] := hgd0
  refine ⟨_, (dss_one (ds_ret (we_bin or_addA bi_add (we_has H__foot_sizes hgd (hr.mono (by decide)) (by rfl) (wa_cons (we_var 0) wa_nil)) (we_ofM (me_lst (wa_cons (we_bin or_addA bi_add (we_gint (by rfl) B.MAX_SIZE.choose_spec) we_int) wa_nil)))))), fun as n R hl hc => ?_⟩
  obtain ⟨feet, pairs, rfl, hf, hR⟩ := hc
  refine ⟨_, rfl, rfl, feet, pairs, rfl, hf, fun ms he hm hml => ⟨by show 1 ≤ sizeLine; decide, line1000 (by rw [List.length_map]; show ms.length + 1 ≤ 1000; omega), ?_⟩⟩
  have h := hR (ms ++ [1000000 + 1]) (by rw [he]; rfl) (fun k => by
    rw [List.mem_append, hm k, List.mem_singleton]
    exact Iff.rfl) (by rw [List.length_append]; exact Nat.succ_le_succ hml)
  rw [List.map_append] at h
  exact h
abbrev s_most_served : Stmt := topS 48
abbrev N_most_served : List Str := ["hall", "size"]
theorem sc_most_served : FnScope N_most_served ["hall"] (defScope s_most_served) := ⟨rfl, rfl, rfl, by decide +kernel, rfl, by decide +kernel, by decide +kernel⟩
theorem fn_most_served {f : Addr} {fd : FuncData} (F : Fun K "most_served" "most_served" s_most_served f fd) (B : Bn K mg C) (H_counts_at : Has P w K mg base "counts_at" 1 ["hall", "size"] c_counts_at) (H__deciding_sizes : Has P w K mg base "_deciding_sizes" 2 ["hall"] c__deciding_sizes) : FnG P w K mg base 3 f fd ["hall"] (spD K 1 c_most_served) := by
  refine fnd (k := 2) c_most_served F sc_most_served fun cdv A outer s H hgd0 hr Y => ?_
  have hu := hr.units
  have hu1 : (A.deeper (envOfC "most_served" (defScope s_most_served) s.heap.objs.size f cdv)).units + 65 < cLine := by have := hr.un; omega
  have hu0 : (A.deeper (envOfC "most_served" (defScope s_most_served) s.heap.objs.size f cdv)).units + 1 < cLine := by have := hr.un; omega
  have hgd : (A.deeper (envOfC "most_served" (defScope s_most_served) s.heap.objs.size f cdv)).guards = some [] := hgd0
  refine ⟨_, (dss_one (ds_ret (we_callB (call_minA rfl) ck_min (by rfl) B.min PyProof.Rows.boot_min (wa_cons (we_ofM (me_compV (own := [("size", 1)]) rfl sc_most_served.nd (di_seqV (we_has H__deciding_sizes hgd (hr.mono (by decide)) (by rfl) (wa_cons (we_var 0) wa_nil))) (blkOk_by (N := N_most_served) (sc := defScope s_most_served) (by decide +kernel)) gok_name (fun _ _ _ _ _ => (pg_name (i := 1) sc_most_served.nd rfl (Or.inl rfl))) (fun _ _ _ _ _ => wts_nil) (fun _ _ _ _ _ => (we_callB (call_sumA rfl) ck_sum (by rfl) B.sum PyProof.Rows.boot_sum (wa_cons (we_has H_counts_at hgd (hr.mono (by decide)) (by rfl) (wa_cons (we_var 0) (wa_cons (we_var 1) wa_nil))) wa_nil))) (by decide))) wa_nil)))), fun as n R hl hc => ?_⟩
  obtain ⟨feet, pairs, rfl, hh, hR⟩ := hc
  have hf40 := hh.f2
  have hp40 := hh.p2
  refine ⟨_, rfl, rfl, feet, pairs, rfl, hf40, fun ms hme hm hml => ⟨_, rfl, compR_m ms .int (fun s => .int ((cF feet s : Int) + cP pairs s)) (small1000 (by omega)) (fun x hx acc KK ha hK => ⟨_, rfl, _, rfl, rfl, feet, pairs, x, rfl, by omega, by omega, _, [(cF feet x : Int), (cP pairs x : Int)], rfl, rfl, ?_⟩) ?_⟩⟩
  · rw [show ([(cF feet x : Int), (cP pairs x : Int)] : List Int).sum = (cF feet x : Int) + cP pairs x by simp]; exact ⟨ha, hK⟩
  refine ⟨ms.map fun s => (cF feet s : Int) + cP pairs s, by rw [List.map_map]; rfl, ?_, fun m hm2 hle => hR m ?_⟩
  · rw [List.length_map]
    exact List.length_pos_of_mem ((hm 1000001).mpr (.inr rfl))
  obtain ⟨s, hs, rfl⟩ := List.mem_map.mp hm2
  obtain ⟨s0, h0, h1⟩ := most_at (feet := feet) (pairs := pairs) (top := 1000001) (fun x hx => by have := hh.fi x hx; omega) fun x hx => by have := hh.pi x hx; omega
  refine ⟨⟨s, rfl⟩, fun s' => ?_⟩
  exact Int.le_trans (hle _ (List.mem_map_of_mem ((hm s0).mpr h0))) (h1 s')
abbrev s_fewest_served : Stmt := topS 49
abbrev N_fewest_served : List Str := ["hall", "size"]
theorem sc_fewest_served : FnScope N_fewest_served ["hall"] (defScope s_fewest_served) := ⟨rfl, rfl, rfl, by decide +kernel, rfl, by decide +kernel, by decide +kernel⟩
theorem fn_fewest_served {f : Addr} {fd : FuncData} (F : Fun K "fewest_served" "fewest_served" s_fewest_served f fd) (B : Bn K mg C) (H_counts_at : Has P w K mg base "counts_at" 1 ["hall", "size"] c_counts_at) (H__deciding_sizes : Has P w K mg base "_deciding_sizes" 2 ["hall"] c__deciding_sizes) : FnG P w K mg base 3 f fd ["hall"] (spD K 1 c_fewest_served) := by
  refine fnd (k := 2) c_fewest_served F sc_fewest_served fun cdv A outer s H hgd0 hr Y => ?_
  have hu := hr.units
  have hu1 : (A.deeper (envOfC "fewest_served" (defScope s_fewest_served) s.heap.objs.size f cdv)).units + 65 < cLine := by have := hr.un; omega
  have hu0 : (A.deeper (envOfC "fewest_served" (defScope s_fewest_served) s.heap.objs.size f cdv)).units + 1 < cLine := by have := hr.un; omega
  have hgd : (A.deeper (envOfC "fewest_served" (defScope s_fewest_served) s.heap.objs.size f cdv)).guards = some [] := hgd0
  refine ⟨_, (dss_one (ds_ret (we_callB (call_minA rfl) ck_min (by rfl) B.min PyProof.Rows.boot_min (wa_cons (we_ofM (me_compV (own := [("size", 1)]) rfl sc_fewest_served.nd (di_seqV (we_has H__deciding_sizes hgd (hr.mono (by decide)) (by rfl) (wa_cons (we_var 0) wa_nil))) (blkOk_by (N := N_fewest_served) (sc := defScope s_fewest_served) (by decide +kernel)) gok_name (fun _ _ _ _ _ => (pg_name (i := 1) sc_fewest_served.nd rfl (Or.inl rfl))) (fun _ _ _ _ _ => wts_nil) (fun _ _ _ _ _ => (we_callB (call_maxA rfl) ck_max (by rfl) B.max PyProof.Rows.boot_max (wa_cons (we_has H_counts_at hgd (hr.mono (by decide)) (by rfl) (wa_cons (we_var 0) (wa_cons (we_var 1) wa_nil))) wa_nil))) (by decide))) wa_nil)))), fun as n R hl hc => ?_⟩
  obtain ⟨feet, pairs, rfl, hh, hR⟩ := hc
  have hf40 := hh.f2
  have hp40 := hh.p2
  refine ⟨_, rfl, rfl, feet, pairs, rfl, hf40, fun ms hme hm hml => ⟨_, rfl, compR_m ms .int (fun s => .int (((max (cF feet s) (cP pairs s) : Nat) : Int))) (small1000 (by omega)) (fun x hx acc KK ha hK => ⟨_, rfl, _, rfl, rfl, feet, pairs, x, rfl, by omega, by omega, [(cF feet x : Int), (cP pairs x : Int)], rfl, (by show 0 < 2; decide), fun m q1 q2 => ?_⟩) ?_⟩⟩
  · have e : m = ((max (cF feet x) (cP pairs x) : Nat) : Int) := by
      have a1 := q2 (cF feet x : Int) (by simp)
      have a2 := q2 (cP pairs x : Int) (by simp)
      simp only [List.mem_cons, List.not_mem_nil, or_false] at q1
      rcases q1 with rfl | rfl <;> omega
    subst e
    exact ⟨ha, hK⟩
  refine ⟨ms.map fun s => ((max (cF feet s) (cP pairs s) : Nat) : Int), by rw [List.map_map]; rfl, ?_, fun m hm2 hle => hR m ?_⟩
  · rw [List.length_map]
    exact List.length_pos_of_mem ((hm 1000001).mpr (.inr rfl))
  obtain ⟨s, hs, rfl⟩ := List.mem_map.mp hm2
  obtain ⟨s0, h0, h1⟩ := few_at (feet := feet) (pairs := pairs) (top := 1000001) fun x hx => by have := hh.pi x hx; omega
  refine ⟨⟨s, rfl⟩, fun s' => ?_⟩
  exact Int.le_trans (hle _ (List.mem_map_of_mem ((hm s0).mpr h0))) (h1 s')
abbrev s_Party__stand : Stmt := inCls (topS 63) 2
abbrev N_Party__stand : List Str := ["self", "halls", "done"]
theorem sc_Party__stand : FnScope N_Party__stand ["self", "halls", "done"] (defScope s_Party__stand) := ⟨rfl, rfl, rfl, by decide +kernel, rfl, by decide +kernel, by decide +kernel⟩
theorem fn_Party__stand {f : Addr} {fd : FuncData} (F : Fun K "_stand" "Party._stand" s_Party__stand f fd) (B : Bn K mg C) (H_most_served : Has P w K mg base "most_served" 3 ["hall"] c_most_served) (H_fewest_served : Has P w K mg base "fewest_served" 3 ["hall"] c_fewest_served) : FnGX P w K mg base 4 f fd ["self", "halls", "done"] (spDX K 3 (c_Party__stand C)) := by
  refine fndX (k := 3) (c_Party__stand C) F sc_Party__stand fun cdv A outer s H Eh hgd0 hr Y E ok tk => ?_
  have hu := hr.units
  have hu1 : (A.deeper (envOfC "Party._stand" (defScope s_Party__stand) s.heap.objs.size f cdv)).units + 65 < cLine := by have := hr.un; omega
  have hu0 : (A.deeper (envOfC "Party._stand" (defScope s_Party__stand) s.heap.objs.size f cdv)).units + 1 < cLine := by have := hr.un; omega
  have hgd : (A.deeper (envOfC "Party._stand" (defScope s_Party__stand) s.heap.objs.size f cdv)).guards = some [] := hgd0
  refine ⟨_, (dss_cons (ds_fld (we_var 0) (we_ix (we_var 1) (we_neg we_int) (fun _ _ => rfl))) (dss_cons (ds_fld (we_var 0) (we_has H_most_served hgd (hr.mono (by decide)) (by rfl) (wa_cons (we_fld (we_var 0)) wa_nil))) (dss_cons (ds_fld (we_var 0) (we_has H_fewest_served hgd (hr.mono (by decide)) (by rfl) (wa_cons (we_fld (we_var 0)) wa_nil))) (dss_cons (ds_fld (we_var 0) (we_var 1)) (dss_one (ds_fld (we_var 0) (we_var 2))))))), fun as n R hl hc => ?_⟩
  obtain ⟨a, b, h, hs, done, fs, rfl, hob, hst, hl, hk, hR⟩ := hc
  have ok := hk.ok
  have L := last_at hl
  rcases hst with rfl | ⟨p, rfl, rfl⟩
  all_goals
    refine ⟨_, rfl, -1, _, rfl, L, _, rfl, a, _, rfl, hob, B.fl_Party_hall, (Nat.le_of_ble_eq_true rfl), ?_⟩
    refine ⟨_, rfl, a, _, _, rfl, Wo.put_at, B.fl_Party_hall, rfl, rfl, h.1, h.2, rfl, ok, fun m hm => ⟨_, rfl, a, _, rfl, Wo.put_at, B.fl_Party_most, (Nat.le_of_ble_eq_true rfl), ?_⟩⟩
    refine ⟨_, rfl, a, _, _, rfl, Wo.put_at, B.fl_Party_hall, rfl, rfl, h.1, h.2, rfl, ok, fun f hf => ⟨_, rfl, a, _, rfl, Wo.put_at, B.fl_Party_fewest, (Nat.le_of_ble_eq_true rfl), ?_⟩⟩
    refine ⟨_, rfl, _, rfl, a, _, rfl, Wo.put_at, B.fl_Party__halls, (Nat.le_of_ble_eq_true rfl), ?_⟩
    refine ⟨_, rfl, _, rfl, a, _, rfl, Wo.put_at, B.fl_Party__done, (Nat.le_of_ble_eq_true rfl), ?_⟩
    rw [Wo.put_put, Wo.put_put, Wo.put_put, Wo.put_put]
    exact hR m f hm hf
abbrev s_Party___init__ : Stmt := inCls (topS 63) 1
abbrev N_Party___init__ : List Str := ["self", "hall", "error"]
theorem sc_Party___init__ : FnScope N_Party___init__ ["self", "hall"] (defScope s_Party___init__) := ⟨rfl, rfl, rfl, by decide +kernel, rfl, by decide +kernel, by decide +kernel⟩
theorem fn_Party___init__ {f : Addr} {fd : FuncData} (F : Fun K "__init__" "Party.__init__" s_Party___init__ f fd) (B : Bn K mg C) (H_hall_error : Has P w K mg base "hall_error" 5 ["value"] c_hall_error) (HM__stand : HasM P w K mg base (fun D => D = C.Party) "_stand" 4 ["self", "halls", "done"] (fun _ => c_Party__stand C)) (H_BadHall : ErrC P w K mg base "BadHall" C.BadHall "error") : FnGX P w K mg base 6 f fd ["self", "hall"] (spDX K 2 (c_Party___init__ C)) := by
  refine fndX (k := 5) (c_Party___init__ C) F sc_Party___init__ fun cdv A outer s H Eh hgd0 hr Y E ok tk => ?_
  have hu := hr.units
  have hu1 : (A.deeper (envOfC "Party.__init__" (defScope s_Party___init__) s.heap.objs.size f cdv)).units + 65 < cLine := by have := hr.un; omega
  have hu0 : (A.deeper (envOfC "Party.__init__" (defScope s_Party___init__) s.heap.objs.size f cdv)).units + 1 < cLine := by have := hr.un; omega
  have hgd : (A.deeper (envOfC "Party.__init__" (defScope s_Party___init__) s.heap.objs.size f cdv)).guards = some [] := hgd0
  refine ⟨_, (dss_cons (ds_set (i := 2) sc_Party___init__.nd rfl (Or.inl rfl) (xe_d (we_has H_hall_error hgd (hr.mono (by decide)) (by rfl) (wa_cons (we_var 1) wa_nil)))) (dss_cons (ds_if (wt_cmp op_notN bi_notN (we_var 2) we_non (nomark _)) (dss_one (ds_raise rfl tk ok H_BadHall (hr.mono (by decide)) (by rfl) (we_var 2))) dss_nil) (dss_cons (ds_fld (we_var 0) we_bl) (dss_one (ds_expr (we_meth (pl := _) tk ok HM__stand hgd (hr.mono (by decide)) (we_var 0) (wa_cons (we_tup (wa_cons (we_var 1) wa_nil)) (wa_cons (we_tup wa_nil) wa_nil)))))))), fun as n R hl hc => ?_⟩
  obtain ⟨a, h, rfl, hk, hob, hR⟩ := hc
  refine ⟨_, rfl, rfl, h.1, h.2, rfl, hk.ok, hk.l1, hk.l2, ?_⟩
  refine ⟨_, rfl, rfl, rfl, _, rfl, iteF ?_⟩
  refine ⟨_, rfl, a, _, rfl, hob, B.fl_Party__busy, (Nat.le_of_ble_eq_true rfl), ?_⟩
  refine ⟨_, rfl, a, _, rfl, Wo.put_at, rfl, rfl, _, rfl, by show 1 ≤ sizeLine; decide, Nat.zero_le _, rfl, a, false, h, [h], [], _, rfl, Wo.put_at, .inl rfl, rfl, hk, fun m f hm hf => ?_⟩
  rw [Wo.put_put]
  exact hR m f hm hf
abbrev s__law_sizes : Stmt := topS 67
abbrev N__law_sizes : List Str := ["deck", "many", "way", "k"]
theorem sc__law_sizes : FnScope N__law_sizes ["deck", "many", "way"] (defScope s__law_sizes) := ⟨rfl, rfl, rfl, by decide +kernel, rfl, by decide +kernel, by decide +kernel⟩
theorem fn__law_sizes {f : Addr} {fd : FuncData} (F : Fun K "_law_sizes" "_law_sizes" s__law_sizes f fd) (B : Bn K mg C) (H__law_draw : Has P w K mg base "_law_draw" 1 ["deck", "many"] c__law_draw) : FnG P w K mg base 2 f fd ["deck", "many", "way"] (spD K 3 c__law_sizes) := by
  refine fnd (k := 1) c__law_sizes F sc__law_sizes fun cdv A outer s H hgd0 hr Y => ?_
  have hu := hr.units
  have hu1 : (A.deeper (envOfC "_law_sizes" (defScope s__law_sizes) s.heap.objs.size f cdv)).units + 65 < cLine := by have := hr.un; omega
  have hu0 : (A.deeper (envOfC "_law_sizes" (defScope s__law_sizes) s.heap.objs.size f cdv)).units + 1 < cLine := by have := hr.un; omega
  have hgd : (A.deeper (envOfC "_law_sizes" (defScope s__law_sizes) s.heap.objs.size f cdv)).guards = some [] := hgd0
  refine ⟨_, (dss_one (ds_ret (we_callTy call_tuple_of ck_tuple (by rfl) B.tuple PyProof.Rows.boot_tuple (wa_cons (we_ofM (me_compV (own := [("k", 3)]) rfl sc__law_sizes.nd (div_of (di_range1 (by rfl) B.range (wa_cons (we_var 1) wa_nil))) (blkOk_by (N := N__law_sizes) (sc := defScope s__law_sizes) (by decide +kernel)) gok_name (fun _ _ _ _ _ => (pg_name (i := 3) sc__law_sizes.nd rfl (Or.inl rfl))) (fun _ _ _ _ _ => wts_nil) (fun _ _ _ _ _ => (we_bin or_addA bi_add we_int (we_has H__law_draw hgd (hr.mono (by decide)) (by rfl) (wa_cons (we_var 0) (wa_cons (we_ix (we_ofM (me_lst (wa_cons we_int (wa_cons we_int (wa_cons (we_bin op_pow bi_I we_int we_int) wa_nil))))) (we_var 2) (fun _ _ => rfl)) wa_nil))))) (by decide))) wa_nil)))), fun as n R hl hc => ?_⟩
  obtain ⟨many, way, rfl, h1, h2, h3, h4, hn, hR⟩ := hc
  refine ⟨_, rfl, many, rfl, by omega, by omega, compR_le (m := many.toNat) _ (fun y => ∃ z : Int, y = .int z ∧ 1 ≤ z ∧ z ≤ 10 ^ 6) 1 rngD_length (fun k x hx hk acc q KK ha hq hK => ?_) fun ys q hys hP hq => ?_⟩
  · have hqn : q.n ≤ n.n + k * 1 := hq.1
    obtain ⟨d, hd, hd2⟩ := pick3 (a := .int 4) (b := .int 25) (c := .int ((10 : Int) ^ (6 : Int).toNat)) (r := way) h3 h4
    obtain ⟨lim, rfl, l1, l2⟩ : ∃ lim : Int, d = .int lim ∧ 1 ≤ lim ∧ lim ≤ 10 ^ 6 := by
      rcases hd2 with rfl | rfl | rfl
      · exact ⟨_, rfl, by decide, by decide⟩
      · exact ⟨_, rfl, by decide, by decide⟩
      · exact ⟨_, rfl, by decide, by decide⟩
    refine ⟨_, rfl, ⟨by decide, by decide, by decide⟩, by show 3 ≤ sizeLine; decide, _, rfl, _, _, rfl, hd, rfl, lim, rfl, l1, by omega, by omega, fun r r0 r1 => ?_⟩
    have ha : acc.length ≤ 1000 := by omega
    refine ⟨small1000 ha, hK _ _ ⟨1 + r, rfl, by omega, by omega⟩ ?_⟩
    have := Wo.tr hq (Wo.one (a := q))
    rw [Nat.add_mul]
    exact this
  · obtain ⟨xs, rfl, hi⟩ := sizes_of hP
    rw [List.length_map] at hys
    exact ⟨_, _, rfl, rfl, hR xs q hys hi (Wo.le' hq (by omega))⟩
abbrev s__law_hall : Stmt := topS 68
abbrev N__law_hall : List Str := ["deck", "most", "way"]
theorem sc__law_hall : FnScope N__law_hall ["deck", "most"] (defScope s__law_hall) := ⟨rfl, rfl, rfl, by decide +kernel, rfl, by decide +kernel, by decide +kernel⟩
theorem fn__law_hall {f : Addr} {fd : FuncData} (F : Fun K "_law_hall" "_law_hall" s__law_hall f fd) (B : Bn K mg C) (H__law_draw : Has P w K mg base "_law_draw" 1 ["deck", "many"] c__law_draw) (H__law_sizes : Has P w K mg base "_law_sizes" 2 ["deck", "many", "way"] c__law_sizes) : FnG P w K mg base 3 f fd ["deck", "most"] (spD K 2 c__law_hall) := by
  refine fnd (k := 2) c__law_hall F sc__law_hall fun cdv A outer s H hgd0 hr Y => ?_
  have hu := hr.units
  have hu1 : (A.deeper (envOfC "_law_hall" (defScope s__law_hall) s.heap.objs.size f cdv)).units + 65 < cLine := by have := hr.un; omega
  have hu0 : (A.deeper (envOfC "_law_hall" (defScope s__law_hall) s.heap.objs.size f cdv)).units + 1 < cLine := by have := hr.un; omega
  have hgd : (A.deeper (envOfC "_law_hall" (defScope s__law_hall) s.heap.objs.size f cdv)).guards = some [] := hgd0
  refine ⟨_, (dss_cons (ds_set (i := 2) sc__law_hall.nd rfl (Or.inl rfl) (xe_d (we_has H__law_draw hgd (hr.mono (by decide)) (by rfl) (wa_cons (we_var 0) (wa_cons we_int wa_nil))))) (dss_one (ds_ret (we_tup (wa_cons (we_has H__law_sizes hgd (hr.mono (by decide)) (by rfl) (wa_cons (we_var 0) (wa_cons (we_bin or_addA bi_add we_int (we_has H__law_draw hgd (hr.mono (by decide)) (by rfl) (wa_cons (we_var 0) (wa_cons (we_var 1) wa_nil)))) (wa_cons (we_var 2) wa_nil)))) (wa_cons (we_has H__law_sizes hgd (hr.mono (by decide)) (by rfl) (wa_cons (we_var 0) (wa_cons (we_has H__law_draw hgd (hr.mono (by decide)) (by rfl) (wa_cons (we_var 0) (wa_cons (we_bin or_addA bi_add (we_var 1) we_int) wa_nil))) (wa_cons (we_var 2) wa_nil)))) wa_nil)))))), fun as n R hl hc => ?_⟩
  obtain ⟨most, rfl, h1, h2, hn, hR⟩ := hc
  refine ⟨_, rfl, rfl, 3, rfl, by decide, by decide, by omega, fun way w1 w2 => ?_⟩
  refine ⟨_, rfl, _, rfl, _, rfl, rfl, most, rfl, h1, by omega, by show n.n + 1 ≤ _; omega, fun r1 a1 b1 => ⟨_, rfl, rfl, 1 + r1, way, rfl, by omega, by omega, w1, w2, by show n.n + 1 + 1 ≤ _; omega, fun xs n1 hx1 hx2 hn1 => ?_⟩⟩
  have q1 : n1 ≤ n + 42 := Wo.le' (Wo.tr (Wo.tr (Wo.one (a := n)) (Wo.one (a := n + 1))) hn1) (by omega)
  have q2 : n1.n ≤ n.n + 42 := q1.1
  refine ⟨_, rfl, _, rfl, _, rfl, rfl, most + 1, rfl, by omega, by omega, by omega, fun r2 a2 b2 => ⟨_, rfl, rfl, r2, way, rfl, by omega, by omega, w1, w2, by show n1.n + 1 ≤ _; omega, fun ys n2 hy1 hy2 hn2 => ?_⟩⟩
  exact ⟨by show 2 ≤ sizeLine; decide, hR (xs, ys) n2 ⟨⟨by show 1 ≤ xs.length; omega, by show xs.length ≤ 40; omega, by show ys.length ≤ 40; omega, hx2, hy2⟩, by show xs.length ≤ 20; omega, by show ys.length ≤ 20; omega⟩ (by show (xs.length : Int) ≤ most; omega) (by show (ys.length : Int) ≤ most; omega) (Wo.le' (Wo.tr (Wo.tr q1 (Wo.one (a := n1))) hn2) (by omega))⟩
abbrev s__law_edit : Stmt := topS 71
abbrev N__law_edit : List Str := ["deck", "hall", "feet", "pairs", "way", "size"]
theorem sc__law_edit : FnScope N__law_edit ["deck", "hall"] (defScope s__law_edit) := ⟨rfl, rfl, rfl, by decide +kernel, rfl, by decide +kernel, by decide +kernel⟩
theorem fn__law_edit {f : Addr} {fd : FuncData} (F : Fun K "_law_edit" "_law_edit" s__law_edit f fd) (B : Bn K mg C) (H__law_draw : Has P w K mg base "_law_draw" 1 ["deck", "many"] c__law_draw) : FnG P w K mg base 2 f fd ["deck", "hall"] (spD K 2 c__law_edit) := by
  refine fnd (k := 1) c__law_edit F sc__law_edit fun cdv A outer s H hgd0 hr Y => ?_
  have hu := hr.units
  have hu1 : (A.deeper (envOfC "_law_edit" (defScope s__law_edit) s.heap.objs.size f cdv)).units + 65 < cLine := by have := hr.un; omega
  have hu0 : (A.deeper (envOfC "_law_edit" (defScope s__law_edit) s.heap.objs.size f cdv)).units + 1 < cLine := by have := hr.un; omega
  have hgd : (A.deeper (envOfC "_law_edit" (defScope s__law_edit) s.heap.objs.size f cdv)).guards = some [] := hgd0
  refine ⟨_, (dss_cons (ds_asgG (we_var 1) ⟨(pg_tup rfl (pgs_cons (pg_name (i := 2) sc__law_edit.nd rfl (Or.inl rfl)) (pgs_cons (pg_name (i := 3) sc__law_edit.nd rfl (Or.inl rfl)) pgs_nil))), gok_two⟩) (dss_cons (ds_par (i := 4) (j := 5) rfl sc__law_edit.nd rfl rfl (by decide) rfl rfl (xe_d (we_has H__law_draw hgd (hr.mono (by decide)) (by rfl) (wa_cons (we_var 0) (wa_cons we_int wa_nil)))) (xe_d (we_bin or_addA bi_add we_int (we_has H__law_draw hgd (hr.mono (by decide)) (by rfl) (wa_cons (we_var 0) (wa_cons (we_ix (we_ofM (me_lst (wa_cons we_int (wa_cons we_int (wa_cons (we_bin op_pow bi_I we_int we_int) wa_nil))))) (we_has H__law_draw hgd (hr.mono (by decide)) (by rfl) (wa_cons (we_var 0) (wa_cons we_int wa_nil))) (fun _ _ => rfl)) wa_nil))))) (by rfl)) (dss_cons (ds_if (wt_w (ww_or (wt_w (ww_and (wt_cmp (or_eqA hu) bi_eqA (we_var 4) we_int (nomark _)) (ww_and1 (wt_cmp op_gt bi_B0 (we_callB call_len_seq ck_len (by rfl) B.len PySem.boot_len (wa_cons (we_var 2) wa_nil)) we_int (nomark _))))) (ww_or1 (wt_w (ww_and (wt_cmp (or_eqA hu) bi_eqA (we_callB call_len_seq ck_len (by rfl) B.len PySem.boot_len (wa_cons (we_var 2) wa_nil)) we_int (nomark _)) (ww_and1 (wt_cmp op_lt bi_B0 (we_var 4) we_int (nomark _)))))))) (dss_one (ds_ret (we_tup (wa_cons we_str (wa_cons (we_has H__law_draw hgd (hr.mono (by decide)) (by rfl) (wa_cons (we_var 0) (wa_cons (we_callB call_len_seq ck_len (by rfl) B.len PySem.boot_len (wa_cons (we_var 2) wa_nil)) wa_nil))) wa_nil))))) dss_nil) (dss_cons (ds_if (wt_cmp op_lt bi_B0 (we_var 4) we_int (nomark _)) (dss_one (ds_ret (we_tup (wa_cons we_str (wa_cons (we_var 5) wa_nil))))) dss_nil) (dss_cons (ds_if (wt_w (ww_or (wt_w (ww_and (wt_cmp (or_eqA hu) bi_eqA (we_var 4) we_int (nomark _)) (ww_and1 (wt_cmp (or_neA hu) bi_neA (we_var 3) (we_tup wa_nil) (nomark _))))) (ww_or1 (wt_cmp (or_eqA hu) bi_eqA (we_callB call_len_seq ck_len (by rfl) B.len PySem.boot_len (wa_cons (we_var 3) wa_nil)) we_int (nomark _))))) (dss_one (ds_ret (we_tup (wa_cons we_str (wa_cons (we_has H__law_draw hgd (hr.mono (by decide)) (by rfl) (wa_cons (we_var 0) (wa_cons (we_callB call_len_seq ck_len (by rfl) B.len PySem.boot_len (wa_cons (we_var 3) wa_nil)) wa_nil))) wa_nil))))) dss_nil) (dss_one (ds_ret (we_tup (wa_cons we_str (wa_cons (we_var 5) wa_nil)))))))))), fun as n R hl hc => ?_⟩
  obtain ⟨h, rfl, hk, hn, hR⟩ := hc
  have l1 := hk.l1
  have l2 := hk.l2
  have f1 := hk.ok.f1
  have e1 : (h.1.map PyData.int).length = h.1.length := List.length_map ..
  have e2 : (h.2.map PyData.int).length = h.2.length := List.length_map ..
  refine ⟨_, rfl, _, _, rfl, ?_⟩
  refine ⟨_, rfl, rfl, 6, rfl, by decide, by decide, by omega, fun way w0 w1 => ?_⟩
  refine ⟨_, rfl, ⟨by decide, by decide, by decide⟩, by show 3 ≤ sizeLine; decide, _, rfl, rfl, 3, rfl, by decide, by decide, by show n.n + 1 ≤ _; omega, fun r3 a0 a1 => ?_⟩
  obtain ⟨d, hd, hd2⟩ := pick3 (a := .int 4) (b := .int 25) (c := .int ((10 : Int) ^ (6 : Int).toNat)) (r := r3) a0 a1
  obtain ⟨lim, rfl, m1, m2⟩ : ∃ lim : Int, d = .int lim ∧ 1 ≤ lim ∧ lim ≤ 10 ^ 6 := by
    rcases hd2 with rfl | rfl | rfl
    · exact ⟨_, rfl, by decide, by decide⟩
    · exact ⟨_, rfl, by decide, by decide⟩
    · exact ⟨_, rfl, by decide, by decide⟩
  refine ⟨_, _, rfl, hd, rfl, lim, rfl, m1, by omega, by show n.n + 1 + 1 ≤ _; omega, fun sz z0 z1 => ?_⟩
  have z2 : sz < 1000000 := by omega
  refine ⟨_, rfl, rfl, rfl, sh_int _, sh_int _, _, rfl, ?_⟩
  have eqv_len : ∀ (L : List Int) (k : Nat), PyData.eqv (.int ((L.map PyData.int).length : Nat)) (.int (k : Int)) = decide (L.length = k) := fun L k => by
    rw [eqv_int, List.length_map]
    exact decide_eq_decide.mpr ⟨fun e => by omega, fun e => by omega⟩
  by_cases q : way = 0
  · refine ifT ((eqv_int _ _).trans (decide_eq_true q)) ⟨_, rfl, _, _, rfl, rfl, _, rfl, ?_⟩
    by_cases q2 : 1 < h.1.length
    · refine iteD (by omega) (iteT ?_)
      refine ⟨_, rfl, _, rfl, _, _, rfl, rfl, rfl, _, rfl, by omega, by omega, by show n.n + 1 + 1 + 1 ≤ _; omega, fun r r0 r1 => ⟨by show 2 ≤ sizeLine; decide, ?_⟩⟩
      refine hR "leave" (.int r) (h.1.take r.toNat ++ h.1.drop (r.toNat + 1), h.2) (n + 1 + 1 + 1 + 1) (.inr (.inl rfl)) ?_ ⟨r, rfl, r0, by omega⟩ ⟨by show n.n + 1 + 1 + 1 + 1 ≤ n.n + 10; omega, rfl, rfl⟩
      rw [aft_leave]
      unfold aLeave
      rw [if_pos (numIn_int r0 (by omega)), if_neg (by omega)]
      rfl
    · refine iteDF (by omega) ?_
      refine ⟨_, rfl, _, _, rfl, rfl, rfl, rfl, sh_int _, sh_int _, _, rfl, ?_⟩
      refine ifF ((eqv_len h.1 20).trans (decide_eq_false (by omega))) (iteF ⟨_, rfl, _, rfl, iteD (by omega) ?_⟩)
      refine ⟨_, rfl, by show 2 ≤ sizeLine; decide, hR "come" (.int (1 + sz)) (h.1 ++ [1 + sz], h.2) (n + 1 + 1 + 1) (.inl rfl) ?_ ⟨_, rfl, by omega, by omega⟩ ⟨by show n.n + 1 + 1 + 1 ≤ n.n + 10; omega, rfl, rfl⟩⟩
      rw [aft_come]
      unfold aCome
      rw [if_pos (numIn_int (by omega) (by omega)), if_neg (by omega)]
      rfl
  · refine ifF ((eqv_int _ _).trans (decide_eq_false q)) (iteF ?_)
    refine ⟨_, rfl, _, _, rfl, rfl, rfl, rfl, sh_int _, sh_int _, _, rfl, ?_⟩
    by_cases q3 : h.1.length = 20
    · refine ifT ((eqv_len h.1 20).trans (decide_eq_true q3)) ⟨_, rfl, _, rfl, ?_⟩
      by_cases q4 : way < 3
      · refine iteD q4 ?_
        refine ⟨_, rfl, _, rfl, _, _, rfl, rfl, rfl, _, rfl, by omega, by omega, by show n.n + 1 + 1 + 1 ≤ _; omega, fun r r0 r1 => ⟨by show 2 ≤ sizeLine; decide, ?_⟩⟩
        refine hR "leave" (.int r) (h.1.take r.toNat ++ h.1.drop (r.toNat + 1), h.2) (n + 1 + 1 + 1 + 1) (.inr (.inl rfl)) ?_ ⟨r, rfl, r0, by omega⟩ ⟨by show n.n + 1 + 1 + 1 + 1 ≤ n.n + 10; omega, rfl, rfl⟩
        rw [aft_leave]
        unfold aLeave
        rw [if_pos (numIn_int r0 (by omega)), if_neg (by omega)]
        rfl
      · refine iteDF q4 ⟨_, rfl, _, rfl, iteDF q4 ?_⟩
        refine ⟨_, rfl, rfl, rfl, sh_int _, sh_int _, _, rfl, ?_⟩
        by_cases q5 : way = 3
        · refine ifT ((eqv_int _ _).trans (decide_eq_true q5)) ⟨_, rfl, Nat.zero_le _, rfl, rfl, sh_tints _, sh_tints [], _, rfl, ?_⟩
          by_cases q6 : h.2 = []
          · refine ifNF' ((eqv_nilT _).trans (by rw [q6]; rfl)) ?_
            refine ⟨_, rfl, _, _, rfl, rfl, rfl, rfl, sh_int _, sh_int _, _, rfl, ?_⟩
            refine ifF ((eqv_len h.2 20).trans (decide_eq_false (by rw [q6]; decide))) ?_
            have q7 : h.2.length = 0 := by rw [q6]; rfl
            refine ⟨_, rfl, by show 2 ≤ sizeLine; decide, hR "put" (.int (1 + sz)) (h.1, h.2 ++ [1 + sz]) (n + 1 + 1 + 1) (.inr (.inr (.inl rfl))) ?_ ⟨_, rfl, by omega, by omega⟩ ⟨by show n.n + 1 + 1 + 1 ≤ n.n + 10; omega, rfl, rfl⟩⟩
            rw [aft_put]
            unfold aPut
            rw [if_pos (numIn_int (by omega) (by omega)), if_neg (by omega)]
            rfl
          · have q7 : 0 < h.2.length := List.length_pos_iff.mpr q6
            refine ifN' ((eqv_nilT _).trans (by cases e : h.2 with | nil => exact absurd e q6 | cons a b => rfl)) (iteT ?_)
            refine ⟨_, rfl, _, rfl, _, _, rfl, rfl, rfl, _, rfl, by omega, by omega, by show n.n + 1 + 1 + 1 ≤ _; omega, fun r r0 r1 => ⟨by show 2 ≤ sizeLine; decide, ?_⟩⟩
            refine hR "take" (.int r) (h.1, h.2.take r.toNat ++ h.2.drop (r.toNat + 1)) (n + 1 + 1 + 1 + 1) (.inr (.inr (.inr rfl))) ?_ ⟨r, rfl, r0, by omega⟩ ⟨by show n.n + 1 + 1 + 1 + 1 ≤ n.n + 10; omega, rfl, rfl⟩
            rw [aft_take]
            unfold aTake
            rw [if_pos (numIn_int r0 (by omega))]
            rfl
        · refine ifF ((eqv_int _ _).trans (decide_eq_false q5)) (iteF ?_)
          refine ⟨_, rfl, _, _, rfl, rfl, rfl, rfl, sh_int _, sh_int _, _, rfl, ?_⟩
          by_cases q8 : h.2.length = 20
          · refine ifT ((eqv_len h.2 20).trans (decide_eq_true q8)) ?_
            refine ⟨_, rfl, _, rfl, _, _, rfl, rfl, rfl, _, rfl, by omega, by omega, by show n.n + 1 + 1 + 1 ≤ _; omega, fun r r0 r1 => ⟨by show 2 ≤ sizeLine; decide, ?_⟩⟩
            refine hR "take" (.int r) (h.1, h.2.take r.toNat ++ h.2.drop (r.toNat + 1)) (n + 1 + 1 + 1 + 1) (.inr (.inr (.inr rfl))) ?_ ⟨r, rfl, r0, by omega⟩ ⟨by show n.n + 1 + 1 + 1 + 1 ≤ n.n + 10; omega, rfl, rfl⟩
            rw [aft_take]
            unfold aTake
            rw [if_pos (numIn_int r0 (by omega))]
            rfl
          · refine ifF ((eqv_len h.2 20).trans (decide_eq_false q8)) ?_
            refine ⟨_, rfl, by show 2 ≤ sizeLine; decide, hR "put" (.int (1 + sz)) (h.1, h.2 ++ [1 + sz]) (n + 1 + 1 + 1) (.inr (.inr (.inl rfl))) ?_ ⟨_, rfl, by omega, by omega⟩ ⟨by show n.n + 1 + 1 + 1 ≤ n.n + 10; omega, rfl, rfl⟩⟩
            rw [aft_put]
            unfold aPut
            rw [if_pos (numIn_int (by omega) (by omega)), if_neg (by omega)]
            rfl
    · refine ifF ((eqv_len h.1 20).trans (decide_eq_false q3)) (iteF ⟨_, rfl, _, rfl, ?_⟩)
      by_cases q4 : way < 3
      · refine iteD q4 ?_
        refine ⟨_, rfl, by show 2 ≤ sizeLine; decide, hR "come" (.int (1 + sz)) (h.1 ++ [1 + sz], h.2) (n + 1 + 1 + 1) (.inl rfl) ?_ ⟨_, rfl, by omega, by omega⟩ ⟨by show n.n + 1 + 1 + 1 ≤ n.n + 10; omega, rfl, rfl⟩⟩
        rw [aft_come]
        unfold aCome
        rw [if_pos (numIn_int (by omega) (by omega)), if_neg (by omega)]
        rfl
      · refine iteDF q4 ?_
        refine ⟨_, rfl, rfl, rfl, sh_int _, sh_int _, _, rfl, ?_⟩
        by_cases q5 : way = 3
        · refine ifT ((eqv_int _ _).trans (decide_eq_true q5)) ⟨_, rfl, Nat.zero_le _, rfl, rfl, sh_tints _, sh_tints [], _, rfl, ?_⟩
          by_cases q6 : h.2 = []
          · refine ifNF' ((eqv_nilT _).trans (by rw [q6]; rfl)) ?_
            refine ⟨_, rfl, _, _, rfl, rfl, rfl, rfl, sh_int _, sh_int _, _, rfl, ?_⟩
            refine ifF ((eqv_len h.2 20).trans (decide_eq_false (by rw [q6]; decide))) ?_
            have q7 : h.2.length = 0 := by rw [q6]; rfl
            refine ⟨_, rfl, by show 2 ≤ sizeLine; decide, hR "put" (.int (1 + sz)) (h.1, h.2 ++ [1 + sz]) (n + 1 + 1 + 1) (.inr (.inr (.inl rfl))) ?_ ⟨_, rfl, by omega, by omega⟩ ⟨by show n.n + 1 + 1 + 1 ≤ n.n + 10; omega, rfl, rfl⟩⟩
            rw [aft_put]
            unfold aPut
            rw [if_pos (numIn_int (by omega) (by omega)), if_neg (by omega)]
            rfl
          · have q7 : 0 < h.2.length := List.length_pos_iff.mpr q6
            refine ifN' ((eqv_nilT _).trans (by cases e : h.2 with | nil => exact absurd e q6 | cons a b => rfl)) (iteT ?_)
            refine ⟨_, rfl, _, rfl, _, _, rfl, rfl, rfl, _, rfl, by omega, by omega, by show n.n + 1 + 1 + 1 ≤ _; omega, fun r r0 r1 => ⟨by show 2 ≤ sizeLine; decide, ?_⟩⟩
            refine hR "take" (.int r) (h.1, h.2.take r.toNat ++ h.2.drop (r.toNat + 1)) (n + 1 + 1 + 1 + 1) (.inr (.inr (.inr rfl))) ?_ ⟨r, rfl, r0, by omega⟩ ⟨by show n.n + 1 + 1 + 1 + 1 ≤ n.n + 10; omega, rfl, rfl⟩
            rw [aft_take]
            unfold aTake
            rw [if_pos (numIn_int r0 (by omega))]
            rfl
        · refine ifF ((eqv_int _ _).trans (decide_eq_false q5)) (iteF ?_)
          refine ⟨_, rfl, _, _, rfl, rfl, rfl, rfl, sh_int _, sh_int _, _, rfl, ?_⟩
          by_cases q8 : h.2.length = 20
          · refine ifT ((eqv_len h.2 20).trans (decide_eq_true q8)) ?_
            refine ⟨_, rfl, _, rfl, _, _, rfl, rfl, rfl, _, rfl, by omega, by omega, by show n.n + 1 + 1 + 1 ≤ _; omega, fun r r0 r1 => ⟨by show 2 ≤ sizeLine; decide, ?_⟩⟩
            refine hR "take" (.int r) (h.1, h.2.take r.toNat ++ h.2.drop (r.toNat + 1)) (n + 1 + 1 + 1 + 1) (.inr (.inr (.inr rfl))) ?_ ⟨r, rfl, r0, by omega⟩ ⟨by show n.n + 1 + 1 + 1 + 1 ≤ n.n + 10; omega, rfl, rfl⟩
            rw [aft_take]
            unfold aTake
            rw [if_pos (numIn_int r0 (by omega))]
            rfl
          · refine ifF ((eqv_len h.2 20).trans (decide_eq_false q8)) ?_
            refine ⟨_, rfl, by show 2 ≤ sizeLine; decide, hR "put" (.int (1 + sz)) (h.1, h.2 ++ [1 + sz]) (n + 1 + 1 + 1) (.inr (.inr (.inl rfl))) ?_ ⟨_, rfl, by omega, by omega⟩ ⟨by show n.n + 1 + 1 + 1 ≤ n.n + 10; omega, rfl, rfl⟩⟩
            rw [aft_put]
            unfold aPut
            rw [if_pos (numIn_int (by omega) (by omega)), if_neg (by omega)]
            rfl
abbrev s__law_after : Stmt := topS 70
abbrev N__law_after : List Str := ["hall", "edit", "feet", "pairs"]
theorem sc__law_after : FnScope N__law_after ["hall", "edit"] (defScope s__law_after) := ⟨rfl, rfl, rfl, by decide +kernel, rfl, by decide +kernel, by decide +kernel⟩
theorem fn__law_after {f : Addr} {fd : FuncData} (F : Fun K "_law_after" "_law_after" s__law_after f fd) (B : Bn K mg C) : FnG P w K mg base 1 f fd ["hall", "edit"] (spD K 2 c__law_after) := by
  refine fnd (k := 0) c__law_after F sc__law_after fun cdv A outer s H hgd0 hr Y => ?_
  have hu := hr.units
  have hu1 : (A.deeper (envOfC "_law_after" (defScope s__law_after) s.heap.objs.size f cdv)).units + 65 < cLine := by have := hr.un; omega
  have hu0 : (A.deeper (envOfC "_law_after" (defScope s__law_after) s.heap.objs.size f cdv)).units + 1 < cLine := by have := hr.un; omega
  have hgd : (A.deeper (envOfC "_law_after" (defScope s__law_after) s.heap.objs.size f cdv)).guards = some [] := hgd0
  refine ⟨_, (dss_cons (ds_asgG (we_var 0) ⟨(pg_tup rfl (pgs_cons (pg_name (i := 2) sc__law_after.nd rfl (Or.inl rfl)) (pgs_cons (pg_name (i := 3) sc__law_after.nd rfl (Or.inl rfl)) pgs_nil))), gok_two⟩) (dss_cons (ds_if (wt_cmp (or_eqA hu) bi_eqA (we_ix (we_var 1) we_int (fun _ _ => rfl)) we_str (nomark _)) (dss_one (ds_ret (we_tup (wa_cons (we_bin or_addA bi_add (we_var 2) (we_tup (wa_cons (we_ix (we_var 1) we_int (fun _ _ => rfl)) wa_nil))) (wa_cons (we_var 3) wa_nil))))) dss_nil) (dss_cons (ds_if (wt_cmp (or_eqA hu) bi_eqA (we_ix (we_var 1) we_int (fun _ _ => rfl)) we_str (nomark _)) (dss_one (ds_ret (we_tup (wa_cons (we_bin or_addA bi_add (we_slice (we_var 2) wo_none (wo_some (we_ix (we_var 1) we_int (fun _ _ => rfl)))) (we_slice (we_var 2) (wo_some (we_bin or_addA bi_add (we_ix (we_var 1) we_int (fun _ _ => rfl)) we_int)) wo_none)) (wa_cons (we_var 3) wa_nil))))) dss_nil) (dss_cons (ds_if (wt_cmp (or_eqA hu) bi_eqA (we_ix (we_var 1) we_int (fun _ _ => rfl)) we_str (nomark _)) (dss_one (ds_ret (we_tup (wa_cons (we_var 2) (wa_cons (we_bin or_addA bi_add (we_var 3) (we_tup (wa_cons (we_ix (we_var 1) we_int (fun _ _ => rfl)) wa_nil))) wa_nil))))) dss_nil) (dss_one (ds_ret (we_tup (wa_cons (we_var 2) (wa_cons (we_bin or_addA bi_add (we_slice (we_var 3) wo_none (wo_some (we_ix (we_var 1) we_int (fun _ _ => rfl)))) (we_slice (we_var 3) (wo_some (we_bin or_addA bi_add (we_ix (we_var 1) we_int (fun _ _ => rfl)) we_int)) wo_none)) wa_nil))))))))), fun as n R hl hc => ?_⟩
  obtain ⟨h, h', nm, d, rfl, hk, h4, e, hR⟩ := hc
  have l1 := hk.l1
  have l2 := hk.l2
  refine ⟨_, rfl, _, _, rfl, ?_⟩
  rcases h4 with rfl | rfl | rfl | rfl
  · rw [aft_come] at e
    unfold aCome at e
    split at e
    · rename_i q
      obtain ⟨z, rfl, z1, z2⟩ := szD_true q
      split at e
      · cases e
      · cases e
        have hR : R (hallD (h.1 ++ [z]) h.2) n := hR
        refine ⟨_, rfl, 0, _, rfl, rfl, _, rfl, iteT ?_⟩
        refine ⟨_, rfl, _, rfl, 1, _, rfl, rfl, by show 1 ≤ sizeLine; decide, line1000 (by rw [List.length_map]; show h.1.length + 1 ≤ 1000; omega), _, rfl, by show 2 ≤ sizeLine; decide, ?_⟩
        unfold hallD sizesD at hR
        rw [List.map_append] at hR
        exact hR
    · cases e
  · rw [aft_leave] at e
    unfold aLeave at e
    split at e
    · rename_i q
      obtain ⟨z, rfl, z1, z2⟩ := numIn_true q
      obtain ⟨i, rfl⟩ := Int.eq_ofNat_of_zero_le z1
      split at e
      · cases e
      · cases e
        have hR : R (hallD (h.1.take i ++ h.1.drop (i + 1)) h.2) n := hR
        refine ⟨_, rfl, 0, _, rfl, rfl, _, rfl, iteF ?_⟩
        refine ⟨_, rfl, 0, _, rfl, rfl, _, rfl, iteT ?_⟩
        refine ⟨_, rfl, _, rfl, 1, _, rfl, rfl, _, rfl, _, rfl, _, rfl, 1, _, rfl, rfl, _, rfl, ?_⟩
        have ea : cutG (h.1.map PyData.int) none (some (i : Int)) = (h.1.take i).map .int := by rw [cut_take, List.map_take]
        have eb : cutG (h.1.map PyData.int) (some ((i : Int) + 1)) none = (h.1.drop (i + 1)).map .int := by rw [show (i : Int) + 1 = ((i + 1 : Nat) : Int) by omega, cut_drop, List.map_drop]
        show ((cutG (h.1.map PyData.int) none (some (i : Int))).length + (cutG (h.1.map PyData.int) (some ((i : Int) + 1)) none).length ≤ sizeLine) ∧ _
        rw [ea, eb]
        refine ⟨line1000 (by rw [List.length_map, List.length_map, List.length_take, List.length_drop]; omega), _, rfl, by show 2 ≤ sizeLine; decide, ?_⟩
        unfold hallD sizesD at hR
        rw [List.map_append] at hR
        exact hR
    · cases e
  · rw [aft_put] at e
    unfold aPut at e
    split at e
    · rename_i q
      obtain ⟨z, rfl, z1, z2⟩ := szD_true q
      split at e
      · cases e
      · cases e
        have hR : R (hallD h.1 (h.2 ++ [z])) n := hR
        refine ⟨_, rfl, 0, _, rfl, rfl, _, rfl, iteF ?_⟩
        refine ⟨_, rfl, 0, _, rfl, rfl, _, rfl, iteF ?_⟩
        refine ⟨_, rfl, 0, _, rfl, rfl, _, rfl, iteT ?_⟩
        refine ⟨_, rfl, _, rfl, _, rfl, 1, _, rfl, rfl, by show 1 ≤ sizeLine; decide, line1000 (by rw [List.length_map]; show h.2.length + 1 ≤ 1000; omega), by show 2 ≤ sizeLine; decide, ?_⟩
        unfold hallD sizesD at hR
        rw [List.map_append] at hR
        exact hR
    · cases e
  · rw [aft_take] at e
    unfold aTake at e
    split at e
    · rename_i q
      obtain ⟨z, rfl, z1, z2⟩ := numIn_true q
      obtain ⟨i, rfl⟩ := Int.eq_ofNat_of_zero_le z1
      cases e
      have hR : R (hallD h.1 (h.2.take i ++ h.2.drop (i + 1))) n := hR
      refine ⟨_, rfl, 0, _, rfl, rfl, _, rfl, iteF ?_⟩
      refine ⟨_, rfl, 0, _, rfl, rfl, _, rfl, iteF ?_⟩
      refine ⟨_, rfl, 0, _, rfl, rfl, _, rfl, iteF ?_⟩
      refine ⟨_, rfl, _, rfl, _, rfl, 1, _, rfl, rfl, _, rfl, _, rfl, _, rfl, 1, _, rfl, rfl, _, rfl, ?_⟩
      have ea : cutG (h.2.map PyData.int) none (some (i : Int)) = (h.2.take i).map .int := by rw [cut_take, List.map_take]
      have eb : cutG (h.2.map PyData.int) (some ((i : Int) + 1)) none = (h.2.drop (i + 1)).map .int := by rw [show (i : Int) + 1 = ((i + 1 : Nat) : Int) by omega, cut_drop, List.map_drop]
      show ((cutG (h.2.map PyData.int) none (some (i : Int))).length + (cutG (h.2.map PyData.int) (some ((i : Int) + 1)) none).length ≤ sizeLine) ∧ _
      rw [ea, eb]
      refine ⟨line1000 (by rw [List.length_map, List.length_map, List.length_take, List.length_drop]; omega), by show 2 ≤ sizeLine; decide, ?_⟩
      unfold hallD sizesD at hR
      rw [List.map_append] at hR
      exact hR
    · cases e
abbrev s_Party__ask_idle : Stmt := inCls (topS 63) 3
abbrev N_Party__ask_idle : List Str := ["self"]
theorem sc_Party__ask_idle : FnScope N_Party__ask_idle ["self"] (defScope s_Party__ask_idle) := ⟨rfl, rfl, rfl, by decide +kernel, rfl, by decide +kernel, by decide +kernel⟩
theorem fn_Party__ask_idle {f : Addr} {fd : FuncData} (F : Fun K "_ask_idle" "Party._ask_idle" s_Party__ask_idle f fd) (B : Bn K mg C) : FnGX P w K mg base 3 f fd ["self"] (spDX K 1 (c_Party__ask_idle C)) := by
  refine fndX (k := 2) (c_Party__ask_idle C) F sc_Party__ask_idle fun cdv A outer s H Eh hgd0 hr Y E ok tk => ?_
  have hu := hr.units
  have hu1 : (A.deeper (envOfC "Party._ask_idle" (defScope s_Party__ask_idle) s.heap.objs.size f cdv)).units + 65 < cLine := by have := hr.un; omega
  have hu0 : (A.deeper (envOfC "Party._ask_idle" (defScope s_Party__ask_idle) s.heap.objs.size f cdv)).units + 1 < cLine := by have := hr.un; omega
  have hgd : (A.deeper (envOfC "Party._ask_idle" (defScope s_Party__ask_idle) s.heap.objs.size f cdv)).guards = some [] := hgd0
  refine ⟨_, (dss_one (ds_if (wt_tru (we_fld (we_var 0))) (dss_one (ds_raise0 rfl tk ok B.e_Busy (by rfl))) dss_nil)), fun as n R hl hc => ?_⟩
  obtain ⟨a, p, rfl, hob, hF, hT⟩ := hc
  refine ⟨_, rfl, a, _, _, rfl, hob, B.fl_Party__busy, rfl, ?_⟩
  cases q : p.busy with
  | false => exact iteF (A := False) (hF q)
  | true => exact iteT (B := False) (hT q)
abbrev s__with_guest : Stmt := topS 33
abbrev N__with_guest : List Str := ["hall", "foot", "feet", "pairs"]
theorem sc__with_guest : FnScope N__with_guest ["hall", "foot"] (defScope s__with_guest) := ⟨rfl, rfl, rfl, by decide +kernel, rfl, by decide +kernel, by decide +kernel⟩
theorem fn__with_guest {f : Addr} {fd : FuncData} (F : Fun K "_with_guest" "_with_guest" s__with_guest f fd) (B : Bn K mg C) (H_is_size : Has P w K mg base "is_size" 3 ["value"] c_is_size) (H_BadFoot : ErrC P w K mg base "BadFoot" C.BadFoot "value") : FnGX P w K mg base 4 f fd ["hall", "foot"] (spDX K 2 (c__with_guest C)) := by
  refine fndX (k := 3) (c__with_guest C) F sc__with_guest fun cdv A outer s H Eh hgd0 hr Y E ok tk => ?_
  have hu := hr.units
  have hu1 : (A.deeper (envOfC "_with_guest" (defScope s__with_guest) s.heap.objs.size f cdv)).units + 65 < cLine := by have := hr.un; omega
  have hu0 : (A.deeper (envOfC "_with_guest" (defScope s__with_guest) s.heap.objs.size f cdv)).units + 1 < cLine := by have := hr.un; omega
  have hgd : (A.deeper (envOfC "_with_guest" (defScope s__with_guest) s.heap.objs.size f cdv)).guards = some [] := hgd0
  refine ⟨_, (dss_cons (ds_asgG (we_var 0) ⟨(pg_tup rfl (pgs_cons (pg_name (i := 2) sc__with_guest.nd rfl (Or.inl rfl)) (pgs_cons (pg_name (i := 3) sc__with_guest.nd rfl (Or.inl rfl)) pgs_nil))), gok_two⟩) (dss_cons (ds_if (wt_not (wt_val (we_has H_is_size hgd (hr.mono (by decide)) (by rfl) (wa_cons (we_var 1) wa_nil)))) (dss_one (ds_raise rfl tk ok H_BadFoot (hr.mono (by decide)) (by rfl) (we_var 1))) dss_nil) (dss_cons (ds_if (wt_cmp op_ge bi_B0 (we_callB call_len_seq ck_len (by rfl) B.len PySem.boot_len (wa_cons (we_var 2) wa_nil)) (we_gint (by rfl) B.MAX_GUESTS.choose_spec) (nomark _)) (dss_one (ds_raise0 rfl tk ok B.e_TooManyGuests (by rfl))) dss_nil) (dss_one (ds_ret (we_tup (wa_cons (we_bin or_addA bi_add (we_var 2) (we_tup (wa_cons (we_var 1) wa_nil))) (wa_cons (we_var 3) wa_nil)))))))), fun as n R hl hc => ?_⟩
  obtain ⟨h, d, rfl, hk, hnr, ho⟩ := hc
  refine ⟨_, rfl, _, _, rfl, ?_⟩
  refine ⟨_, rfl, rfl, d, rfl, hnr, _, rfl, ?_⟩
  unfold aCome at ho
  cases q : szD d with
  | false =>
    rw [q, if_neg Bool.false_ne_true] at ho
    exact ifNF (b := false) rfl ⟨_, rfl, ho⟩
  | true =>
    obtain ⟨z, rfl, z1, z2⟩ := szD_true q
    rw [if_pos q] at ho
    refine ifN (b := true) rfl ⟨_, rfl, _, _, rfl, rfl, _, rfl, ?_⟩
    by_cases c : 20 ≤ h.1.length
    · rw [if_pos c] at ho
      exact iteD (by rw [List.length_map]; omega) ho
    · rw [if_neg c] at ho
      have hR : R (hallD (h.1 ++ [z]) h.2) n := ho
      refine iteDF (by rw [List.length_map]; omega) ⟨_, rfl, _, rfl, by show 1 ≤ sizeLine; decide, ?_⟩
      refine ⟨line1000 (by rw [List.length_map]; show h.1.length + 1 ≤ 1000; omega), _, rfl, by show 2 ≤ sizeLine; decide, ?_⟩
      unfold hallD sizesD at hR
      rw [List.map_append] at hR
      exact hR
abbrev s__without_guest : Stmt := topS 34
abbrev N__without_guest : List Str := ["hall", "guest", "feet", "pairs"]
theorem sc__without_guest : FnScope N__without_guest ["hall", "guest"] (defScope s__without_guest) := ⟨rfl, rfl, rfl, by decide +kernel, rfl, by decide +kernel, by decide +kernel⟩
theorem fn__without_guest {f : Addr} {fd : FuncData} (F : Fun K "_without_guest" "_without_guest" s__without_guest f fd) (B : Bn K mg C) (H_is_number_from : Has P w K mg base "is_number_from" 2 ["value", "low", "high"] c_is_number_from) (H_NoGuest : ErrL P w K mg base "NoGuest" C.NoGuest "value") : FnGX P w K mg base 3 f fd ["hall", "guest"] (spDX K 2 (c__without_guest C)) := by
  refine fndX (k := 2) (c__without_guest C) F sc__without_guest fun cdv A outer s H Eh hgd0 hr Y E ok tk => ?_
  have hu := hr.units
  have hu1 : (A.deeper (envOfC "_without_guest" (defScope s__without_guest) s.heap.objs.size f cdv)).units + 65 < cLine := by have := hr.un; omega
  have hu0 : (A.deeper (envOfC "_without_guest" (defScope s__without_guest) s.heap.objs.size f cdv)).units + 1 < cLine := by have := hr.un; omega
  have hgd : (A.deeper (envOfC "_without_guest" (defScope s__without_guest) s.heap.objs.size f cdv)).guards = some [] := hgd0
  refine ⟨_, (dss_cons (ds_asgG (we_var 0) ⟨(pg_tup rfl (pgs_cons (pg_name (i := 2) sc__without_guest.nd rfl (Or.inl rfl)) (pgs_cons (pg_name (i := 3) sc__without_guest.nd rfl (Or.inl rfl)) pgs_nil))), gok_two⟩) (dss_cons (ds_if (wt_not (wt_val (we_has H_is_number_from hgd (hr.mono (by decide)) (by rfl) (wa_cons (we_var 1) (wa_cons we_int (wa_cons (we_bin op_sub bi_I0 (we_callB call_len_seq ck_len (by rfl) B.len PySem.boot_len (wa_cons (we_var 2) wa_nil)) we_int) wa_nil)))))) (dss_one (ds_raiseL rfl tk ok H_NoGuest (hr.mono (by decide)) (by rfl) (we_var 1))) dss_nil) (dss_cons (ds_if (wt_cmp (or_eqA hu) bi_eqA (we_callB call_len_seq ck_len (by rfl) B.len PySem.boot_len (wa_cons (we_var 2) wa_nil)) we_int (nomark _)) (dss_one (ds_raise0 rfl tk ok B.e_LastGuest (by rfl))) dss_nil) (dss_one (ds_ret (we_tup (wa_cons (we_bin or_addA bi_add (we_slice (we_var 2) wo_none (wo_some (we_var 1))) (we_slice (we_var 2) (wo_some (we_bin or_addA bi_add (we_var 1) we_int)) wo_none)) (wa_cons (we_var 3) wa_nil)))))))), fun as n R hl hc => ?_⟩
  obtain ⟨h, d, rfl, hk, hnr, ho⟩ := hc
  have l1 := hk.l1
  refine ⟨_, rfl, _, _, rfl, ?_⟩
  refine ⟨_, rfl, _, rfl, _, _, rfl, rfl, rfl, d, _, _, rfl, hnr, _, rfl, ?_⟩
  have e0 : ((h.1.map PyData.int).length : Int) - 1 = (h.1.length : Int) - 1 := by rw [List.length_map]
  rw [e0]
  unfold aLeave at ho
  cases q : numIn d 0 ((h.1.length : Int) - 1) with
  | false =>
    rw [q, if_neg Bool.false_ne_true] at ho
    exact ifNF (b := false) rfl ⟨_, rfl, ho⟩
  | true =>
    obtain ⟨z, rfl, z1, z2⟩ := numIn_true q
    rw [if_pos q] at ho
    refine ifN (b := true) rfl ⟨_, rfl, _, _, rfl, rfl, rfl, rfl, rfl, rfl, _, rfl, ?_⟩
    have e1 : PyData.eqv (.int (h.1.map PyData.int).length) (.int 1) = decide (h.1.length = 1) := by
      rw [eqv_int, List.length_map]
      exact decide_eq_decide.mpr ⟨fun e => by omega, fun e => by omega⟩
    show if PyData.eqv (.int (h.1.map PyData.int).length) (.int 1) = true then _ else _
    rw [e1]
    by_cases c : h.1.length = 1
    · rw [if_pos c] at ho
      exact iteD c ho
    · rw [if_neg c] at ho
      obtain ⟨i, rfl⟩ := Int.eq_ofNat_of_zero_le z1
      have hR : R (hallD (h.1.take i ++ h.1.drop (i + 1)) h.2) n := ho
      refine iteDF c ⟨_, rfl, _, rfl, _, rfl, _, rfl, _, rfl, _, rfl, ?_⟩
      rw [show cutG (h.1.map PyData.int) none (some (i : Int)) = (h.1.take i).map .int by rw [cut_take, List.map_take]]
      show (((h.1.take i).map PyData.int).length + (cutG (h.1.map PyData.int) (some ((i : Int) + 1)) none).length ≤ sizeLine) ∧ _
      rw [show cutG (h.1.map PyData.int) (some ((i : Int) + 1)) none = (h.1.drop (i + 1)).map .int by rw [show (i : Int) + 1 = ((i + 1 : Nat) : Int) by omega, cut_drop, List.map_drop]]
      refine ⟨line1000 (by rw [List.length_map, List.length_map, List.length_take, List.length_drop]; omega), _, rfl, by show 2 ≤ sizeLine; decide, ?_⟩
      unfold hallD sizesD at hR
      rw [List.map_append] at hR
      exact hR
abbrev s__with_pair : Stmt := topS 35
abbrev N__with_pair : List Str := ["hall", "size", "feet", "pairs"]
theorem sc__with_pair : FnScope N__with_pair ["hall", "size"] (defScope s__with_pair) := ⟨rfl, rfl, rfl, by decide +kernel, rfl, by decide +kernel, by decide +kernel⟩
theorem fn__with_pair {f : Addr} {fd : FuncData} (F : Fun K "_with_pair" "_with_pair" s__with_pair f fd) (B : Bn K mg C) (H_is_size : Has P w K mg base "is_size" 3 ["value"] c_is_size) (H_BadSize : ErrC P w K mg base "BadSize" C.BadSize "value") : FnGX P w K mg base 4 f fd ["hall", "size"] (spDX K 2 (c__with_pair C)) := by
  refine fndX (k := 3) (c__with_pair C) F sc__with_pair fun cdv A outer s H Eh hgd0 hr Y E ok tk => ?_
  have hu := hr.units
  have hu1 : (A.deeper (envOfC "_with_pair" (defScope s__with_pair) s.heap.objs.size f cdv)).units + 65 < cLine := by have := hr.un; omega
  have hu0 : (A.deeper (envOfC "_with_pair" (defScope s__with_pair) s.heap.objs.size f cdv)).units + 1 < cLine := by have := hr.un; omega
  have hgd : (A.deeper (envOfC "_with_pair" (defScope s__with_pair) s.heap.objs.size f cdv)).guards = some [] := hgd0
  refine ⟨_, (dss_cons (ds_asgG (we_var 0) ⟨(pg_tup rfl (pgs_cons (pg_name (i := 2) sc__with_pair.nd rfl (Or.inl rfl)) (pgs_cons (pg_name (i := 3) sc__with_pair.nd rfl (Or.inl rfl)) pgs_nil))), gok_two⟩) (dss_cons (ds_if (wt_not (wt_val (we_has H_is_size hgd (hr.mono (by decide)) (by rfl) (wa_cons (we_var 1) wa_nil)))) (dss_one (ds_raise rfl tk ok H_BadSize (hr.mono (by decide)) (by rfl) (we_var 1))) dss_nil) (dss_cons (ds_if (wt_cmp op_ge bi_B0 (we_callB call_len_seq ck_len (by rfl) B.len PySem.boot_len (wa_cons (we_var 3) wa_nil)) (we_gint (by rfl) B.MAX_PAIRS.choose_spec) (nomark _)) (dss_one (ds_raise0 rfl tk ok B.e_TooManyPairs (by rfl))) dss_nil) (dss_one (ds_ret (we_tup (wa_cons (we_var 2) (wa_cons (we_bin or_addA bi_add (we_var 3) (we_tup (wa_cons (we_var 1) wa_nil))) wa_nil)))))))), fun as n R hl hc => ?_⟩
  obtain ⟨h, d, rfl, hk, hnr, ho⟩ := hc
  refine ⟨_, rfl, _, _, rfl, ?_⟩
  refine ⟨_, rfl, rfl, d, rfl, hnr, _, rfl, ?_⟩
  unfold aPut at ho
  cases q : szD d with
  | false =>
    rw [q, if_neg Bool.false_ne_true] at ho
    exact ifNF (b := false) rfl ⟨_, rfl, ho⟩
  | true =>
    obtain ⟨z, rfl, z1, z2⟩ := szD_true q
    rw [if_pos q] at ho
    refine ifN (b := true) rfl ⟨_, rfl, _, _, rfl, rfl, _, rfl, ?_⟩
    by_cases c : 20 ≤ h.2.length
    · rw [if_pos c] at ho
      exact iteD (by rw [List.length_map]; omega) ho
    · rw [if_neg c] at ho
      have hR : R (hallD h.1 (h.2 ++ [z])) n := ho
      refine iteDF (by rw [List.length_map]; omega) ⟨_, rfl, _, rfl, _, rfl, by show 1 ≤ sizeLine; decide, ?_⟩
      refine ⟨line1000 (by rw [List.length_map]; show h.2.length + 1 ≤ 1000; omega), by show 2 ≤ sizeLine; decide, ?_⟩
      unfold hallD sizesD at hR
      rw [List.map_append] at hR
      exact hR
abbrev s__without_pair : Stmt := topS 36
abbrev N__without_pair : List Str := ["hall", "pair", "feet", "pairs"]
theorem sc__without_pair : FnScope N__without_pair ["hall", "pair"] (defScope s__without_pair) := ⟨rfl, rfl, rfl, by decide +kernel, rfl, by decide +kernel, by decide +kernel⟩
theorem fn__without_pair {f : Addr} {fd : FuncData} (F : Fun K "_without_pair" "_without_pair" s__without_pair f fd) (B : Bn K mg C) (H_is_number_from : Has P w K mg base "is_number_from" 2 ["value", "low", "high"] c_is_number_from) (H_NoPair : ErrL P w K mg base "NoPair" C.NoPair "value") : FnGX P w K mg base 3 f fd ["hall", "pair"] (spDX K 2 (c__without_pair C)) := by
  refine fndX (k := 2) (c__without_pair C) F sc__without_pair fun cdv A outer s H Eh hgd0 hr Y E ok tk => ?_
  have hu := hr.units
  have hu1 : (A.deeper (envOfC "_without_pair" (defScope s__without_pair) s.heap.objs.size f cdv)).units + 65 < cLine := by have := hr.un; omega
  have hu0 : (A.deeper (envOfC "_without_pair" (defScope s__without_pair) s.heap.objs.size f cdv)).units + 1 < cLine := by have := hr.un; omega
  have hgd : (A.deeper (envOfC "_without_pair" (defScope s__without_pair) s.heap.objs.size f cdv)).guards = some [] := hgd0
  refine ⟨_, (dss_cons (ds_asgG (we_var 0) ⟨(pg_tup rfl (pgs_cons (pg_name (i := 2) sc__without_pair.nd rfl (Or.inl rfl)) (pgs_cons (pg_name (i := 3) sc__without_pair.nd rfl (Or.inl rfl)) pgs_nil))), gok_two⟩) (dss_cons (ds_if (wt_not (wt_val (we_has H_is_number_from hgd (hr.mono (by decide)) (by rfl) (wa_cons (we_var 1) (wa_cons we_int (wa_cons (we_bin op_sub bi_I0 (we_callB call_len_seq ck_len (by rfl) B.len PySem.boot_len (wa_cons (we_var 3) wa_nil)) we_int) wa_nil)))))) (dss_one (ds_raiseL rfl tk ok H_NoPair (hr.mono (by decide)) (by rfl) (we_var 1))) dss_nil) (dss_one (ds_ret (we_tup (wa_cons (we_var 2) (wa_cons (we_bin or_addA bi_add (we_slice (we_var 3) wo_none (wo_some (we_var 1))) (we_slice (we_var 3) (wo_some (we_bin or_addA bi_add (we_var 1) we_int)) wo_none)) wa_nil))))))), fun as n R hl hc => ?_⟩
  obtain ⟨h, d, rfl, hk, hnr, ho⟩ := hc
  have l1 := hk.l2
  refine ⟨_, rfl, _, _, rfl, ?_⟩
  refine ⟨_, rfl, _, rfl, _, _, rfl, rfl, rfl, d, _, _, rfl, hnr, _, rfl, ?_⟩
  have e0 : ((h.2.map PyData.int).length : Int) - 1 = (h.2.length : Int) - 1 := by rw [List.length_map]
  rw [e0]
  unfold aTake at ho
  cases q : numIn d 0 ((h.2.length : Int) - 1) with
  | false =>
    rw [q, if_neg Bool.false_ne_true] at ho
    exact ifNF (b := false) rfl ⟨_, rfl, ho⟩
  | true =>
    obtain ⟨z, rfl, z1, z2⟩ := numIn_true q
    rw [if_pos q] at ho
    obtain ⟨i, rfl⟩ := Int.eq_ofNat_of_zero_le z1
    have hR : R (hallD h.1 (h.2.take i ++ h.2.drop (i + 1))) n := ho
    refine ifN (b := true) rfl ⟨_, rfl, _, rfl, _, rfl, _, rfl, _, rfl, _, rfl, _, rfl, ?_⟩
    rw [show cutG (h.2.map PyData.int) none (some (i : Int)) = (h.2.take i).map .int by rw [cut_take, List.map_take]]
    show (((h.2.take i).map PyData.int).length + (cutG (h.2.map PyData.int) (some ((i : Int) + 1)) none).length ≤ sizeLine) ∧ _
    rw [show cutG (h.2.map PyData.int) (some ((i : Int) + 1)) none = (h.2.drop (i + 1)).map .int by rw [show (i : Int) + 1 = ((i + 1 : Nat) : Int) by omega, cut_drop, List.map_drop]]
    refine ⟨line1000 (by rw [List.length_map, List.length_map, List.length_take, List.length_drop]; omega), by show 2 ≤ sizeLine; decide, ?_⟩
    unfold hallD sizesD at hR
    rw [List.map_append] at hR
    exact hR
def S_hall_after_change (mg : Str → Option Value) (C : CA) (g : Addr) (c : DSpecX) : Prop := (mg "_with_guest" = some (.ref g) ∧ c = c__with_guest C) ∨ (mg "_without_guest" = some (.ref g) ∧ c = c__without_guest C) ∨ (mg "_with_pair" = some (.ref g) ∧ c = c__with_pair C) ∨ (mg "_without_pair" = some (.ref g) ∧ c = c__without_pair C)
abbrev s_hall_after : Stmt := topS 38
abbrev N_hall_after : List Str := ["hall", "name", "value", "change"]
theorem sc_hall_after : FnScope N_hall_after ["hall", "name", "value"] (defScope s_hall_after) := ⟨rfl, rfl, rfl, by decide +kernel, rfl, by decide +kernel, by decide +kernel⟩
theorem fn_hall_after {f : Addr} {fd : FuncData} (F : Fun K "hall_after" "hall_after" s_hall_after f fd) (B : Bn K mg C) (HS_change : ∀ g c, S_hall_after_change mg C g c → PySem.W.keepIn K (.ref g) = true ∧ ∃ fd ps, Binds K fd ps [] ∧ FnGX P w K mg base 4 g fd ps (spDX K 2 c)) (KD_CHANGES : ∃ es n, KDict K w C.CHANGES es n) : FnGX P w K mg base 5 f fd ["hall", "name", "value"] (spDX K 3 (c_hall_after C)) := by
  refine fndX (k := 4) (c_hall_after C) F sc_hall_after fun cdv A outer s H Eh hgd0 hr Y E ok tk => ?_
  have hu := hr.units
  have hu1 : (A.deeper (envOfC "hall_after" (defScope s_hall_after) s.heap.objs.size f cdv)).units + 65 < cLine := by have := hr.un; omega
  have hu0 : (A.deeper (envOfC "hall_after" (defScope s_hall_after) s.heap.objs.size f cdv)).units + 1 < cLine := by have := hr.un; omega
  have hgd : (A.deeper (envOfC "hall_after" (defScope s_hall_after) s.heap.objs.size f cdv)).guards = some [] := hgd0
  refine ⟨_, (dss_cons (ds_set (i := 3) sc_hall_after.nd rfl (Or.inl rfl) (xe_d (we_kd KD_CHANGES.choose_spec.choose_spec (we_gref (by rfl) B.g_CHANGES) (we_var 1)))) (dss_one (ds_ret (we_callR (i := 3) tk ok HS_change hgd (hr.mono (by decide)) rfl (Or.inl rfl) (wa_cons (we_var 0) (wa_cons (we_var 2) wa_nil)))))), fun as n R hl hc => ?_⟩
  obtain ⟨h, nm, d, rfl, hk, hnr, hm, ho⟩ := hc
  rcases hm with rfl | rfl | rfl | rfl
  · rw [aft_come] at ho
    obtain ⟨g, hg, hmg⟩ := B.fk_CHANGES_come
    exact ⟨_, rfl, "come", g, rfl, rfl, hg, g, _, rfl, .inl ⟨hmg, rfl⟩, _, rfl, _, rfl, rfl, h, d, rfl, hk, hnr, ho⟩
  · rw [aft_leave] at ho
    obtain ⟨g, hg, hmg⟩ := B.fk_CHANGES_leave
    exact ⟨_, rfl, "leave", g, rfl, rfl, hg, g, _, rfl, .inr (.inl ⟨hmg, rfl⟩), _, rfl, _, rfl, rfl, h, d, rfl, hk, hnr, ho⟩
  · rw [aft_put] at ho
    obtain ⟨g, hg, hmg⟩ := B.fk_CHANGES_put
    exact ⟨_, rfl, "put", g, rfl, rfl, hg, g, _, rfl, .inr (.inr (.inl ⟨hmg, rfl⟩)), _, rfl, _, rfl, rfl, h, d, rfl, hk, hnr, ho⟩
  · rw [aft_take] at ho
    obtain ⟨g, hg, hmg⟩ := B.fk_CHANGES_take
    exact ⟨_, rfl, "take", g, rfl, rfl, hg, g, _, rfl, .inr (.inr (.inr ⟨hmg, rfl⟩)), _, rfl, _, rfl, rfl, h, d, rfl, hk, hnr, ho⟩
abbrev s_Party__ask_pledge : Stmt := inCls (topS 63) 4
abbrev N_Party__ask_pledge : List Str := ["self", "fewest"]
theorem sc_Party__ask_pledge : FnScope N_Party__ask_pledge ["self", "fewest"] (defScope s_Party__ask_pledge) := ⟨rfl, rfl, rfl, by decide +kernel, rfl, by decide +kernel, by decide +kernel⟩
theorem fn_Party__ask_pledge {f : Addr} {fd : FuncData} (F : Fun K "_ask_pledge" "Party._ask_pledge" s_Party__ask_pledge f fd) (B : Bn K mg C) : FnGX P w K mg base 1 f fd ["self", "fewest"] (spDX K 2 (c_Party__ask_pledge C)) := by
  refine fndX (k := 0) (c_Party__ask_pledge C) F sc_Party__ask_pledge fun cdv A outer s H Eh hgd0 hr Y E ok tk => ?_
  have hu := hr.units
  have hu1 : (A.deeper (envOfC "Party._ask_pledge" (defScope s_Party__ask_pledge) s.heap.objs.size f cdv)).units + 65 < cLine := by have := hr.un; omega
  have hu0 : (A.deeper (envOfC "Party._ask_pledge" (defScope s_Party__ask_pledge) s.heap.objs.size f cdv)).units + 1 < cLine := by have := hr.un; omega
  have hgd : (A.deeper (envOfC "Party._ask_pledge" (defScope s_Party__ask_pledge) s.heap.objs.size f cdv)).guards = some [] := hgd0
  refine ⟨_, (dss_one ds_pass), fun as n R hl hc => ?_⟩
  obtain ⟨a, f, rfl, hR⟩ := hc
  exact hR
abbrev s_Party__do : Stmt := inCls (topS 63) 6
abbrev N_Party__do : List Str := ["self", "name", "value", "hall"]
theorem sc_Party__do : FnScope N_Party__do ["self", "name", "value"] (defScope s_Party__do) := ⟨rfl, rfl, rfl, by decide +kernel, rfl, by decide +kernel, by decide +kernel⟩
theorem fn_Party__do {f : Addr} {fd : FuncData} (F : Fun K "_do" "Party._do" s_Party__do f fd) (B : Bn K mg C) (H_hall_after : HasX P w K mg base "hall_after" 5 ["hall", "name", "value"] (c_hall_after C)) (HM__ask_pledge : HasM P w K mg base (fun D => D = C.Party) "_ask_pledge" 1 ["self", "fewest"] (fun _ => c_Party__ask_pledge C)) (HM__stand : HasM P w K mg base (fun D => D = C.Party) "_stand" 4 ["self", "halls", "done"] (fun _ => c_Party__stand C)) (H_fewest_served : Has P w K mg base "fewest_served" 3 ["hall"] c_fewest_served) : FnGX P w K mg base 6 f fd ["self", "name", "value"] (spDX K 3 (c_Party__do C)) := by
  refine fndX (k := 5) (c_Party__do C) F sc_Party__do fun cdv A outer s H Eh hgd0 hr Y E ok tk => ?_
  have hu := hr.units
  have hu1 : (A.deeper (envOfC "Party._do" (defScope s_Party__do) s.heap.objs.size f cdv)).units + 65 < cLine := by have := hr.un; omega
  have hu0 : (A.deeper (envOfC "Party._do" (defScope s_Party__do) s.heap.objs.size f cdv)).units + 1 < cLine := by have := hr.un; omega
  have hgd : (A.deeper (envOfC "Party._do" (defScope s_Party__do) s.heap.objs.size f cdv)).guards = some [] := hgd0
  refine ⟨_, (dss_cons (ds_if (wt_cmp op_ge bi_B0 (we_callB call_len_seq ck_len (by rfl) B.len PySem.boot_len (wa_cons (we_fld (we_var 0)) wa_nil)) (we_con (we_var 0)) (nomark _)) (dss_one (ds_raise0 rfl tk ok B.e_TooManyEdits (by rfl))) dss_nil) (dss_cons (ds_set (i := 3) sc_Party__do.nd rfl (Or.inl rfl) (xe_d (we_hasX tk ok H_hall_after hgd (hr.mono (by decide)) (by rfl) (wa_cons (we_fld (we_var 0)) (wa_cons (we_var 1) (wa_cons (we_var 2) wa_nil)))))) (dss_cons (ds_expr (we_meth (pl := _) tk ok HM__ask_pledge hgd (hr.mono (by decide)) (we_var 0) (wa_cons (we_has H_fewest_served hgd (hr.mono (by decide)) (by rfl) (wa_cons (we_var 3) wa_nil)) wa_nil))) (dss_one (ds_expr (we_meth (pl := _) tk ok HM__stand hgd (hr.mono (by decide)) (we_var 0) (wa_cons (we_bin or_addA bi_add (we_fld (we_var 0)) (we_tup (wa_cons (we_var 3) wa_nil))) (wa_cons (we_bin or_addA bi_add (we_fld (we_var 0)) (we_tup (wa_cons (we_tup (wa_cons (we_var 1) (wa_cons (we_var 2) wa_nil))) wa_nil))) wa_nil)))))))), fun as n R hl hc => ?_⟩
  obtain ⟨a, p, nm, d, rfl, hob, hk, h4, hnr, hT, hL⟩ := hc
  obtain ⟨u, hu⟩ := B.con_Party_MOST_EDITS
  refine ⟨_, rfl, a, _, _, rfl, hob, B.fl_Party__done, rfl, _, _, rfl, rfl, _, rfl, a, _, 60, u, rfl, hob, B.c_Party, hu, rfl, _, rfl, ?_⟩
  by_cases c : 60 ≤ p.done.length
  · exact iteD (by omega) (hT c)
  · have hL := hL (by omega)
    refine iteDF (by omega) ?_
    refine ⟨_, rfl, a, _, _, rfl, hob, B.fl_Party_hall, rfl, _, rfl, _, rfl, rfl, p.h, nm, d, rfl, hk.hh, hnr, h4, ?_⟩
    cases e : aft nm d p.h with
    | inl b => rw [e] at hL; exact hL
    | inr h =>
      rw [e] at hL
      have hh := aft_ok hk.hh e
      refine ⟨_, rfl, a, _, rfl, hob, rfl, rfl, _, rfl, rfl, h.1, h.2, rfl, hh.ok, fun f0 hf0 => ⟨rfl, a, f0, rfl, ?_⟩⟩
      refine ⟨_, rfl, a, _, rfl, hob, rfl, rfl, _, rfl, a, _, _, rfl, hob, B.fl_Party__halls, rfl, ?_⟩
      have l1 : p.hs.length + 1 ≤ 1000 := by have := hk.len; have := hk.few; omega
      have l2 : p.done.length + 1 ≤ 1000 := by have := hk.few; omega
      refine ⟨_, rfl, by show 1 ≤ sizeLine; decide, line1000 (by rw [List.length_map]; exact l1), ?_⟩
      refine ⟨_, rfl, a, _, _, rfl, hob, B.fl_Party__done, rfl, _, rfl, _, rfl, by show 2 ≤ sizeLine; decide, by show 1 ≤ sizeLine; decide, line1000 l2, ?_⟩
      exact ⟨rfl, a, p.busy, h, p.hs ++ [h], p.done ++ [PyData.tuple [.str nm, d]], _, by rw [List.map_append]; rfl, hob, .inr ⟨p, rfl, rfl⟩, by simp, hh, fun m f hm hf => hL m f hm hf⟩
abbrev s_Party__edit : Stmt := inCls (topS 63) 7
abbrev N_Party__edit : List Str := ["self", "name", "value"]
theorem sc_Party__edit : FnScope N_Party__edit ["self", "name", "value"] (defScope s_Party__edit) := ⟨rfl, rfl, rfl, by decide +kernel, rfl, by decide +kernel, by decide +kernel⟩
theorem fn_Party__edit {f : Addr} {fd : FuncData} (F : Fun K "_edit" "Party._edit" s_Party__edit f fd) (B : Bn K mg C) (HM__ask_idle : HasM P w K mg base (fun D => D = C.Party) "_ask_idle" 3 ["self"] (fun _ => c_Party__ask_idle C)) (HM__do : HasM P w K mg base (fun D => D = C.Party) "_do" 6 ["self", "name", "value"] (fun _ => c_Party__do C)) : FnGX P w K mg base 7 f fd ["self", "name", "value"] (spDX K 3 (c_Party__edit C)) := by
  refine fndX (k := 6) (c_Party__edit C) F sc_Party__edit fun cdv A outer s H Eh hgd0 hr Y E ok tk => ?_
  have hu := hr.units
  have hu1 : (A.deeper (envOfC "Party._edit" (defScope s_Party__edit) s.heap.objs.size f cdv)).units + 65 < cLine := by have := hr.un; omega
  have hu0 : (A.deeper (envOfC "Party._edit" (defScope s_Party__edit) s.heap.objs.size f cdv)).units + 1 < cLine := by have := hr.un; omega
  have hgd : (A.deeper (envOfC "Party._edit" (defScope s_Party__edit) s.heap.objs.size f cdv)).guards = some [] := hgd0
  refine ⟨_, (dss_cons (ds_expr (we_meth0 (pl := _) tk ok HM__ask_idle hgd (hr.mono (by decide)) (we_var 0))) (dss_cons (ds_expr (we_meth (pl := _) tk ok HM__do hgd (hr.mono (by decide)) (we_var 0) (wa_cons (we_var 1) (wa_cons (we_var 2) wa_nil)))) (dss_one (ds_ret (we_callB call_len_seq ck_len (by rfl) B.len PySem.boot_len (wa_cons (we_fld (we_var 0)) wa_nil)))))), fun as n R hl hc => ?_⟩
  obtain ⟨a, p, nm, d, rfl, hob, hk, h4, hnr, hB, hD⟩ := hc
  refine ⟨_, rfl, a, _, rfl, hob, rfl, rfl, rfl, a, p, rfl, hob, fun q => ?_, hB⟩
  obtain ⟨hT, hL⟩ := hD q
  refine ⟨_, rfl, a, _, rfl, hob, rfl, rfl, _, rfl, _, rfl, rfl, a, p, nm, d, rfl, hob, hk, h4, hnr, hT, fun c => ?_⟩
  have hL := hL c
  cases e : aft nm d p.h with
  | inl b => rw [e] at hL; exact hL
  | inr h =>
    rw [e] at hL
    intro m f hm hf
    refine ⟨_, rfl, a, _, _, rfl, Wo.put_at, B.fl_Party__done, rfl, _, _, rfl, rfl, ?_⟩
    have hR := hL m f hm hf
    show R (.int ((p.done ++ [PyData.tuple [.str nm, d]]).length : Nat)) _
    rw [show (((p.done ++ [PyData.tuple [.str nm, d]]).length : Nat) : Int) = p.done.length + 1 by simp]
    exact hR
abbrev s_Party_take : Stmt := inCls (topS 63) 11
abbrev N_Party_take : List Str := ["self", "pair"]
theorem sc_Party_take : FnScope N_Party_take ["self", "pair"] (defScope s_Party_take) := ⟨rfl, rfl, rfl, by decide +kernel, rfl, by decide +kernel, by decide +kernel⟩
theorem fn_Party_take {f : Addr} {fd : FuncData} (F : Fun K "take" "Party.take" s_Party_take f fd) (B : Bn K mg C) (HM__edit : HasM P w K mg base (fun D => D = C.Party) "_edit" 7 ["self", "name", "value"] (fun _ => c_Party__edit C)) : FnGX P w K mg base 8 f fd ["self", "pair"] (spDX K 2 (c_Party_take C)) := by
  refine fndX (k := 7) (c_Party_take C) F sc_Party_take fun cdv A outer s H Eh hgd0 hr Y E ok tk => ?_
  have hu := hr.units
  have hu1 : (A.deeper (envOfC "Party.take" (defScope s_Party_take) s.heap.objs.size f cdv)).units + 65 < cLine := by have := hr.un; omega
  have hu0 : (A.deeper (envOfC "Party.take" (defScope s_Party_take) s.heap.objs.size f cdv)).units + 1 < cLine := by have := hr.un; omega
  have hgd : (A.deeper (envOfC "Party.take" (defScope s_Party_take) s.heap.objs.size f cdv)).guards = some [] := hgd0
  refine ⟨_, (dss_one (ds_ret (we_meth (pl := _) tk ok HM__edit hgd (hr.mono (by decide)) (we_var 0) (wa_cons we_str (wa_cons (we_var 1) wa_nil))))), fun as n R hl hc => ?_⟩
  obtain ⟨a, p, d, rfl, hob, hk, hnr, hE⟩ := hc
  exact ⟨_, rfl, a, _, rfl, hob, rfl, rfl, _, rfl, rfl, a, p, "take", d, rfl, hob, hk, .inr (.inr (.inr rfl)), hnr, hE⟩
abbrev s_Party_come : Stmt := inCls (topS 63) 8
abbrev N_Party_come : List Str := ["self", "foot"]
theorem sc_Party_come : FnScope N_Party_come ["self", "foot"] (defScope s_Party_come) := ⟨rfl, rfl, rfl, by decide +kernel, rfl, by decide +kernel, by decide +kernel⟩
theorem fn_Party_come {f : Addr} {fd : FuncData} (F : Fun K "come" "Party.come" s_Party_come f fd) (B : Bn K mg C) (HM__edit : HasM P w K mg base (fun D => D = C.Party) "_edit" 7 ["self", "name", "value"] (fun _ => c_Party__edit C)) : FnGX P w K mg base 8 f fd ["self", "foot"] (spDX K 2 (c_Party_come C)) := by
  refine fndX (k := 7) (c_Party_come C) F sc_Party_come fun cdv A outer s H Eh hgd0 hr Y E ok tk => ?_
  have hu := hr.units
  have hu1 : (A.deeper (envOfC "Party.come" (defScope s_Party_come) s.heap.objs.size f cdv)).units + 65 < cLine := by have := hr.un; omega
  have hu0 : (A.deeper (envOfC "Party.come" (defScope s_Party_come) s.heap.objs.size f cdv)).units + 1 < cLine := by have := hr.un; omega
  have hgd : (A.deeper (envOfC "Party.come" (defScope s_Party_come) s.heap.objs.size f cdv)).guards = some [] := hgd0
  refine ⟨_, (dss_one (ds_ret (we_meth (pl := _) tk ok HM__edit hgd (hr.mono (by decide)) (we_var 0) (wa_cons we_str (wa_cons (we_var 1) wa_nil))))), fun as n R hl hc => ?_⟩
  obtain ⟨a, p, d, rfl, hob, hk, hnr, hE⟩ := hc
  exact ⟨_, rfl, a, _, rfl, hob, rfl, rfl, _, rfl, rfl, a, p, "come", d, rfl, hob, hk, .inl rfl, hnr, hE⟩
abbrev s_Party_leave : Stmt := inCls (topS 63) 9
abbrev N_Party_leave : List Str := ["self", "guest"]
theorem sc_Party_leave : FnScope N_Party_leave ["self", "guest"] (defScope s_Party_leave) := ⟨rfl, rfl, rfl, by decide +kernel, rfl, by decide +kernel, by decide +kernel⟩
theorem fn_Party_leave {f : Addr} {fd : FuncData} (F : Fun K "leave" "Party.leave" s_Party_leave f fd) (B : Bn K mg C) (HM__edit : HasM P w K mg base (fun D => D = C.Party) "_edit" 7 ["self", "name", "value"] (fun _ => c_Party__edit C)) : FnGX P w K mg base 8 f fd ["self", "guest"] (spDX K 2 (c_Party_leave C)) := by
  refine fndX (k := 7) (c_Party_leave C) F sc_Party_leave fun cdv A outer s H Eh hgd0 hr Y E ok tk => ?_
  have hu := hr.units
  have hu1 : (A.deeper (envOfC "Party.leave" (defScope s_Party_leave) s.heap.objs.size f cdv)).units + 65 < cLine := by have := hr.un; omega
  have hu0 : (A.deeper (envOfC "Party.leave" (defScope s_Party_leave) s.heap.objs.size f cdv)).units + 1 < cLine := by have := hr.un; omega
  have hgd : (A.deeper (envOfC "Party.leave" (defScope s_Party_leave) s.heap.objs.size f cdv)).guards = some [] := hgd0
  refine ⟨_, (dss_one (ds_ret (we_meth (pl := _) tk ok HM__edit hgd (hr.mono (by decide)) (we_var 0) (wa_cons we_str (wa_cons (we_var 1) wa_nil))))), fun as n R hl hc => ?_⟩
  obtain ⟨a, p, d, rfl, hob, hk, hnr, hE⟩ := hc
  exact ⟨_, rfl, a, _, rfl, hob, rfl, rfl, _, rfl, rfl, a, p, "leave", d, rfl, hob, hk, .inr (.inl rfl), hnr, hE⟩
abbrev s_Party_put : Stmt := inCls (topS 63) 10
abbrev N_Party_put : List Str := ["self", "size"]
theorem sc_Party_put : FnScope N_Party_put ["self", "size"] (defScope s_Party_put) := ⟨rfl, rfl, rfl, by decide +kernel, rfl, by decide +kernel, by decide +kernel⟩
theorem fn_Party_put {f : Addr} {fd : FuncData} (F : Fun K "put" "Party.put" s_Party_put f fd) (B : Bn K mg C) (HM__edit : HasM P w K mg base (fun D => D = C.Party) "_edit" 7 ["self", "name", "value"] (fun _ => c_Party__edit C)) : FnGX P w K mg base 8 f fd ["self", "size"] (spDX K 2 (c_Party_put C)) := by
  refine fndX (k := 7) (c_Party_put C) F sc_Party_put fun cdv A outer s H Eh hgd0 hr Y E ok tk => ?_
  have hu := hr.units
  have hu1 : (A.deeper (envOfC "Party.put" (defScope s_Party_put) s.heap.objs.size f cdv)).units + 65 < cLine := by have := hr.un; omega
  have hu0 : (A.deeper (envOfC "Party.put" (defScope s_Party_put) s.heap.objs.size f cdv)).units + 1 < cLine := by have := hr.un; omega
  have hgd : (A.deeper (envOfC "Party.put" (defScope s_Party_put) s.heap.objs.size f cdv)).guards = some [] := hgd0
  refine ⟨_, (dss_one (ds_ret (we_meth (pl := _) tk ok HM__edit hgd (hr.mono (by decide)) (we_var 0) (wa_cons we_str (wa_cons (we_var 1) wa_nil))))), fun as n R hl hc => ?_⟩
  obtain ⟨a, p, d, rfl, hob, hk, hnr, hE⟩ := hc
  exact ⟨_, rfl, a, _, rfl, hob, rfl, rfl, _, rfl, rfl, a, p, "put", d, rfl, hob, hk, .inr (.inr (.inl rfl)), hnr, hE⟩
abbrev s__law_do : Stmt := topS 72
abbrev N__law_do : List Str := ["table", "edit"]
theorem sc__law_do : FnScope N__law_do ["table", "edit"] (defScope s__law_do) := ⟨rfl, rfl, rfl, by decide +kernel, rfl, by decide +kernel, by decide +kernel⟩
theorem fn__law_do {f : Addr} {fd : FuncData} (F : Fun K "_law_do" "_law_do" s__law_do f fd) (B : Bn K mg C) (HM_take : HasM P w K mg base (fun D => D = C.Party) "take" 8 ["self", "pair"] (fun _ => c_Party_take C)) (HM_come : HasM P w K mg base (fun D => D = C.Party) "come" 8 ["self", "foot"] (fun _ => c_Party_come C)) (HM_leave : HasM P w K mg base (fun D => D = C.Party) "leave" 8 ["self", "guest"] (fun _ => c_Party_leave C)) (HM_put : HasM P w K mg base (fun D => D = C.Party) "put" 8 ["self", "size"] (fun _ => c_Party_put C)) : FnG P w K mg base 9 f fd ["table", "edit"] (spD K 2 (c__law_do C)) := by
  refine fnd (k := 8) (c__law_do C) F sc__law_do fun cdv A outer s H hgd0 hr Y => ?_
  have hu := hr.units
  have hu1 : (A.deeper (envOfC "_law_do" (defScope s__law_do) s.heap.objs.size f cdv)).units + 65 < cLine := by have := hr.un; omega
  have hu0 : (A.deeper (envOfC "_law_do" (defScope s__law_do) s.heap.objs.size f cdv)).units + 1 < cLine := by have := hr.un; omega
  have hgd : (A.deeper (envOfC "_law_do" (defScope s__law_do) s.heap.objs.size f cdv)).guards = some [] := hgd0
  refine ⟨_, (dss_cons (ds_if (wt_cmp (or_eqA hu) bi_eqA (we_ix (we_var 1) we_int (fun _ _ => rfl)) we_str (nomark _)) (dss_one (ds_ret (we_meth (pl := _) takes0 wok0 HM_come hgd (hr.mono (by decide)) (we_var 0) (wa_cons (we_ix (we_var 1) we_int (fun _ _ => rfl)) wa_nil)))) dss_nil) (dss_cons (ds_if (wt_cmp (or_eqA hu) bi_eqA (we_ix (we_var 1) we_int (fun _ _ => rfl)) we_str (nomark _)) (dss_one (ds_ret (we_meth (pl := _) takes0 wok0 HM_leave hgd (hr.mono (by decide)) (we_var 0) (wa_cons (we_ix (we_var 1) we_int (fun _ _ => rfl)) wa_nil)))) dss_nil) (dss_cons (ds_if (wt_cmp (or_eqA hu) bi_eqA (we_ix (we_var 1) we_int (fun _ _ => rfl)) we_str (nomark _)) (dss_one (ds_ret (we_meth (pl := _) takes0 wok0 HM_put hgd (hr.mono (by decide)) (we_var 0) (wa_cons (we_ix (we_var 1) we_int (fun _ _ => rfl)) wa_nil)))) dss_nil) (dss_one (ds_ret (we_meth (pl := _) takes0 wok0 HM_take hgd (hr.mono (by decide)) (we_var 0) (wa_cons (we_ix (we_var 1) we_int (fun _ _ => rfl)) wa_nil))))))), fun as n R hl hc => ?_⟩
  obtain ⟨a, p, nm, d, h, rfl, hob, hk, hb, hl, h4, hnr, e, hR⟩ := hc
  rcases h4 with rfl | rfl | rfl | rfl
  · refine ⟨_, rfl, 0, _, rfl, rfl, _, rfl, iteT ?_⟩
    exact ⟨_, rfl, a, _, rfl, hob, rfl, rfl, _, rfl, 1, _, rfl, rfl, rfl, a, p, d, rfl, hob, hk, hnr, fun q => absurd (hb.symm.trans q) (by decide), fun _ => ⟨fun c => absurd c (by omega), fun _ => by rw [e]; exact hR⟩⟩
  · refine ⟨_, rfl, 0, _, rfl, rfl, _, rfl, iteF ?_⟩
    refine ⟨_, rfl, 0, _, rfl, rfl, _, rfl, iteT ?_⟩
    exact ⟨_, rfl, a, _, rfl, hob, rfl, rfl, _, rfl, 1, _, rfl, rfl, rfl, a, p, d, rfl, hob, hk, hnr, fun q => absurd (hb.symm.trans q) (by decide), fun _ => ⟨fun c => absurd c (by omega), fun _ => by rw [e]; exact hR⟩⟩
  · refine ⟨_, rfl, 0, _, rfl, rfl, _, rfl, iteF ?_⟩
    refine ⟨_, rfl, 0, _, rfl, rfl, _, rfl, iteF ?_⟩
    refine ⟨_, rfl, 0, _, rfl, rfl, _, rfl, iteT ?_⟩
    exact ⟨_, rfl, a, _, rfl, hob, rfl, rfl, _, rfl, 1, _, rfl, rfl, rfl, a, p, d, rfl, hob, hk, hnr, fun q => absurd (hb.symm.trans q) (by decide), fun _ => ⟨fun c => absurd c (by omega), fun _ => by rw [e]; exact hR⟩⟩
  · refine ⟨_, rfl, 0, _, rfl, rfl, _, rfl, iteF ?_⟩
    refine ⟨_, rfl, 0, _, rfl, rfl, _, rfl, iteF ?_⟩
    refine ⟨_, rfl, 0, _, rfl, rfl, _, rfl, iteF ?_⟩
    exact ⟨_, rfl, a, _, rfl, hob, rfl, rfl, _, rfl, 1, _, rfl, rfl, rfl, a, p, d, rfl, hob, hk, hnr, fun q => absurd (hb.symm.trans q) (by decide), fun _ => ⟨fun c => absurd c (by omega), fun _ => by rw [e]; exact hR⟩⟩
abbrev s_Party__hall_at : Stmt := inCls (topS 63) 16
abbrev N_Party__hall_at : List Str := ["self", "version"]
theorem sc_Party__hall_at : FnScope N_Party__hall_at ["self", "version"] (defScope s_Party__hall_at) := ⟨rfl, rfl, rfl, by decide +kernel, rfl, by decide +kernel, by decide +kernel⟩
theorem fn_Party__hall_at {f : Addr} {fd : FuncData} (F : Fun K "_hall_at" "Party._hall_at" s_Party__hall_at f fd) (B : Bn K mg C) (HN_is_number_from : HasNG P w K mg base "is_number_from" 2 ["value", "low", "high"] c_is_number_from) (H_NoVersion : ErrL P w K mg base "NoVersion" C.NoVersion "value") : FnNX P w K mg base 3 f fd ["self", "version"] (spDX K 2 (c_Party__hall_at C)) := by
  refine fndN (k := 2) (c_Party__hall_at C) F sc_Party__hall_at fun cdv A outer s H Eh hr Y E ok tk => ?_
  have hu := hr.units
  have hu1 : (A.deeper (envOfC "Party._hall_at" (defScope s_Party__hall_at) s.heap.objs.size f cdv)).units + 65 < cLine := by have := hr.un; omega
  have hu0 : (A.deeper (envOfC "Party._hall_at" (defScope s_Party__hall_at) s.heap.objs.size f cdv)).units + 1 < cLine := by have := hr.un; omega
  refine ⟨_, (dss_cons (ds_if (wt_cmp op_isN bi_isN (we_var 1) we_non (nomark _)) (dss_one (ds_ret (we_fld (we_var 0)))) dss_nil) (dss_cons (ds_if (wt_not (wt_val (we_hasNG HN_is_number_from (hr.mono (by decide)) (by rfl) (wa_cons (we_var 1) (wa_cons we_int (wa_cons (we_callB call_len_seq ck_len (by rfl) B.len PySem.boot_len (wa_cons (we_fld (we_var 0)) wa_nil)) wa_nil)))))) (dss_one (ds_raiseL rfl tk ok H_NoVersion (hr.mono (by decide)) (by rfl) (we_var 1))) dss_nil) (dss_one (ds_ret (we_ix (we_fld (we_var 0)) (we_var 1) (fun _ _ => rfl)))))), fun as n R hl hc => ?_⟩
  obtain ⟨a, p, d, rfl, hob, hk, hnr, hN, hE, hI⟩ := hc
  refine ⟨_, rfl, rfl, rfl, _, rfl, ?_⟩
  show if isN d = true then _ else _
  by_cases hd : d = .none
  · subst hd
    exact iteT (B := False) ⟨_, rfl, a, _, _, rfl, hob, B.fl_Party_hall, rfl, hN rfl⟩
  · have e : isN d = false := by cases d <;> first | exact absurd rfl hd | rfl
    rw [e]
    refine iteF ⟨_, rfl, _, rfl, a, _, _, rfl, hob, B.fl_Party__done, rfl, _, _, rfl, rfl, rfl, d, 0, _, rfl, hnr, _, rfl, ?_⟩
    cases q : numIn d 0 p.done.length with
    | false => exact ifNF (b := false) rfl ⟨_, rfl, hE hd q⟩
    | true =>
      obtain ⟨z, rfl, z1, z2⟩ := numIn_true q
      obtain ⟨i, rfl⟩ := Int.eq_ofNat_of_zero_le z1
      have hl : i < p.hs.length := by have := hk.len; omega
      have ei := List.getElem?_eq_getElem hl
      exact ifN (b := true) rfl ⟨_, rfl, a, _, _, rfl, hob, B.fl_Party__halls, rfl, _, rfl, _, _, rfl, atI_nat (by rw [List.getElem?_map, ei]; rfl), hI i _ rfl ei⟩
abbrev s__fitting : Stmt := topS 41
abbrev N__fitting : List Str := ["hall", "guest", "left", "feet", "pairs", "pair"]
theorem sc__fitting : FnScope N__fitting ["hall", "guest", "left"] (defScope s__fitting) := ⟨rfl, rfl, rfl, by decide +kernel, rfl, by decide +kernel, by decide +kernel⟩
theorem fn__fitting {f : Addr} {fd : FuncData} (F : Fun K "_fitting" "_fitting" s__fitting f fd) (B : Bn K mg C) : FnNG P w K mg base 1 f fd ["hall", "guest", "left"] (spD K 3 c__fitting) := by
  refine fndNG (k := 0) c__fitting F sc__fitting fun cdv A outer s H hr Y => ?_
  have hu := hr.units
  have hu1 : (A.deeper (envOfC "_fitting" (defScope s__fitting) s.heap.objs.size f cdv)).units + 65 < cLine := by have := hr.un; omega
  have hu0 : (A.deeper (envOfC "_fitting" (defScope s__fitting) s.heap.objs.size f cdv)).units + 1 < cLine := by have := hr.un; omega
  refine ⟨_, (dss_cons (ds_asgG (we_var 0) ⟨(pg_tup rfl (pgs_cons (pg_name (i := 3) sc__fitting.nd rfl (Or.inr rfl)) (pgs_cons (pg_name (i := 4) sc__fitting.nd rfl (Or.inr rfl)) pgs_nil))), gok_two⟩) (dss_one (ds_ret (we_ofM (me_compV (own := [("pair", 5)]) rfl sc__fitting.nd (di_seqV (we_var 2)) (blkOk_by (N := N__fitting) (sc := defScope s__fitting) (by decide +kernel)) gok_name (fun _ _ _ _ _ => (pg_name (i := 5) sc__fitting.nd rfl (Or.inl rfl))) (fun _ _ _ _ _ => (wts_one (wt_cmp op_ge bi_B0 (we_ix (we_var 4) (we_var 5) (fun _ _ => rfl)) (we_ix (we_var 3) (we_var 1) (fun _ _ => rfl)) (nomark _)))) (fun _ _ _ _ _ => (we_var 5)) (by decide)))))), fun as n R hl hc => ?_⟩
  obtain ⟨feet, pairs, left, g, rfl, hg1, hg2, hl1, hl2, hR⟩ := hc
  refine ⟨_, rfl, _, _, rfl, _, rfl, _, rfl, compR_p left .int (fun j => decide (getI feet g ≤ getI pairs j)) .int (small1000 (by omega)) (fun x hx acc KK hK => ⟨_, rfl, _, rfl, _, _, rfl, atI_get (hl1 x hx).1 (hl1 x hx).2, _, rfl, _, rfl, _, _, rfl, atI_get hg1 hg2, _, rfl, ite_imp (fun h => ⟨_, rfl, h⟩) id hK⟩) hR⟩
abbrev s_run_by_liking : Stmt := topS 42
abbrev N_run_by_liking : List Str := ["hall", "order", "liking", "left", "run", "guest", "fitting"]
theorem sc_run_by_liking : FnScope N_run_by_liking ["hall", "order", "liking"] (defScope s_run_by_liking) := ⟨rfl, rfl, rfl, by decide +kernel, rfl, by decide +kernel, by decide +kernel⟩
theorem fn_run_by_liking {f : Addr} {fd : FuncData} (F : Fun K "run_by_liking" "run_by_liking" s_run_by_liking f fd) (B : Bn K mg C) (HN__fitting : HasNG P w K mg base "_fitting" 1 ["hall", "guest", "left"] c__fitting) : FnNG P w K mg base 2 f fd ["hall", "order", "liking"] (spD K 3 c_run_by_liking) := by
  refine fndNG (k := 1) c_run_by_liking F sc_run_by_liking fun cdv A outer s H hr Y => ?_
  have hu := hr.units
  have hu1 : (A.deeper (envOfC "run_by_liking" (defScope s_run_by_liking) s.heap.objs.size f cdv)).units + 65 < cLine := by have := hr.un; omega
  have hu0 : (A.deeper (envOfC "run_by_liking" (defScope s_run_by_liking) s.heap.objs.size f cdv)).units + 1 < cLine := by have := hr.un; omega
  refine ⟨_, (dss_cons (ds_set (i := 3) sc_run_by_liking.nd rfl (Or.inl rfl) (xe_m (me_callTy call_list_of ck_list (by rfl) B.list PyProof.Rows.boot_list (wa_cons (we_var 2) wa_nil)))) (dss_cons (ds_set (i := 4) sc_run_by_liking.nd rfl (Or.inl rfl) (xe_m (me_lst wa_nil))) (dss_cons (ds_for PassesOwn.never rfl (di_seq (we_var 1)) ⟨(pg_name (i := 5) sc_run_by_liking.nd rfl (Or.inl rfl)), gok_name⟩ (dss_cons (ds_set (i := 6) sc_run_by_liking.nd rfl (Or.inl rfl) (xe_d (we_hasNG HN__fitting (hr.mono (by decide)) (by rfl) (wa_cons (we_var 0) (wa_cons (we_var 5) (wa_cons (we_var 3) wa_nil)))))) (dss_one (ds_if (wt_tru (we_var 6)) (dss_cons (ds_append (pv 4) (we_tup (wa_cons (we_var 5) (wa_cons (we_ix (we_var 6) we_int (fun _ _ => rfl)) wa_nil)))) (dss_one (ds_remove (pv 3) (we_ix (we_var 6) we_int (fun _ _ => rfl))))) (dss_one (ds_append (pv 4) (we_tup (wa_cons (we_var 5) (wa_cons (we_gint (by rfl) B.NO_PAIR.choose_spec) wa_nil))))))))) (dss_one (ds_ret (we_callTy call_tuple_of ck_tuple (by rfl) B.tuple PyProof.Rows.boot_tuple (wa_cons (we_var 4) wa_nil))))))), fun as n R hl hc => ?_⟩
  obtain ⟨feet, pairs, order, liking, rfl, ho, hk, ho2, hk2, hR⟩ := hc
  refine ⟨_, rfl, _, _, rfl, rfl, Nat.zero_le _, _, rfl, _, rfl, ?_⟩
  refine forR_inv (fun k ρ n' => n' = n ∧ ∃ left run, (left, run) = (order.take k).foldl (stepF feet pairs) (liking, []) ∧ InR pairs.length left ∧ left.length ≤ 100 ∧ run.length ≤ k ∧ ∃ a5 a6, ρ = [some (.dat (hallD feet pairs)), some (.dat (.tuple (order.map .int))), some (.dat (.list (liking.map .int))), some (.mt (left.map .int)), some (.mt (run.map prD)), a5, a6])
    ⟨rfl, liking, [], rfl, hk, hk2, Nat.le_refl _, none, none, rfl⟩ ?_ ?_
  · rintro k x ρ n' hx ⟨rfl, left, run, he, hl1, hl2, hr2, a5, a6, rfl⟩
    obtain ⟨g, hg, rfl⟩ := map_get hx
    have hgo := ho g (List.mem_of_getElem? hg)
    have hk100 : k < 100 := Nat.lt_of_lt_of_le (List.getElem?_eq_some_iff.mp hg).1 ho2
    have hstep := fold_take (f := stepF feet pairs) (b := (liking, [])) hg
    rw [← he] at hstep
    refine ⟨_, rfl, _, rfl, _, rfl, rfl, feet, pairs, left, g, rfl, hgo.1, hgo.2, hl1, hl2, ?_⟩
    unfold stepF at hstep
    simp only at hstep
    have hsub : ∀ j ∈ left.filter (fun j => decide (getI feet g ≤ getI pairs j)), j ∈ left := fun j hj => (List.mem_filter.mp hj).1
    cases e : left.filter (fun j => decide (getI feet g ≤ getI pairs j)) with
    | nil =>
      rw [e] at hstep
      refine ⟨_, rfl, _, rfl, _, rfl, by show 2 ≤ sizeLine; decide, small1000 (by rw [List.length_map]; omega), rfl, left, run ++ [(g, -1)], hstep.symm, hl1, hl2, by rw [List.length_append]; exact Nat.succ_le_succ hr2, some (.dat (.int g)), some (.dat (.list [])), by rw [List.map_append]; rfl⟩
    | cons j js =>
      rw [e] at hstep hsub
      have hj := hsub j (by simp)
      refine ⟨_, rfl, _, rfl, _, rfl, _, rfl, 0, _, rfl, atI0 j js, by show 2 ≤ sizeLine; decide, small1000 (by rw [List.length_map]; omega), _, rfl, _, rfl, 0, _, rfl, atI0 j js, left, j, rfl, rfl, hj, rfl, left.erase j, run ++ [(g, j)], hstep.symm, fun i hi => hl1 i (List.mem_of_mem_erase hi), Nat.le_trans (List.erase_sublist.length_le) hl2, by rw [List.length_append]; exact Nat.succ_le_succ hr2, some (.dat (.int g)), some (.dat (.list ((j :: js).map .int))), by rw [List.map_append]; rfl⟩
  · rintro ρ n' ⟨rfl, left, run, he, hl1, hl2, hr2, a5, a6, rfl⟩
    rw [List.length_map, List.take_length] at he
    rw [← he] at hR
    exact ⟨_, rfl, _, _, rfl, rfl, hR⟩
abbrev s_large_run : Stmt := topS 44
abbrev N_large_run : List Str := ["hall", "order", "ranks", "pair", "size", "_"]
theorem sc_large_run : FnScope N_large_run ["hall", "order"] (defScope s_large_run) := ⟨rfl, rfl, rfl, by decide +kernel, rfl, by decide +kernel, by decide +kernel⟩
theorem fn_large_run {f : Addr} {fd : FuncData} (F : Fun K "large_run" "large_run" s_large_run f fd) (B : Bn K mg C) (H_run_by_liking : Has P w K mg base "run_by_liking" 2 ["hall", "order", "liking"] c_run_by_liking) : FnG P w K mg base 3 f fd ["hall", "order"] (spD K 2 c_large_run) := by
  refine fnd (k := 2) c_large_run F sc_large_run fun cdv A outer s H hgd0 hr Y => ?_
  have hu := hr.units
  have hu1 : (A.deeper (envOfC "large_run" (defScope s_large_run) s.heap.objs.size f cdv)).units + 65 < cLine := by have := hr.un; omega
  have hu0 : (A.deeper (envOfC "large_run" (defScope s_large_run) s.heap.objs.size f cdv)).units + 1 < cLine := by have := hr.un; omega
  have hgd : (A.deeper (envOfC "large_run" (defScope s_large_run) s.heap.objs.size f cdv)).guards = some [] := hgd0
  refine ⟨_, (dss_cons (ds_set (i := 2) sc_large_run.nd rfl (Or.inl rfl) (xe_d (we_ofM (me_callB cr_sortedPO ck_sortP (by rfl) B.sorted PyProof.Rows.boot_sorted (wa_cons (we_ofM (me_compV (own := [("pair", 3), ("size", 4)]) rfl sc_large_run.nd (div_of (di_enumA (by rfl) B.enumerate (wa_cons (we_ix (we_var 0) we_int (fun _ _ => rfl)) wa_nil))) (blkOk_by (N := N_large_run) (sc := defScope s_large_run) (by decide +kernel)) gok_two (fun _ _ _ _ _ => (pg_tup rfl (pgs_cons (pg_name (i := 3) sc_large_run.nd rfl (Or.inl rfl)) (pgs_cons (pg_name (i := 4) sc_large_run.nd rfl (Or.inl rfl)) pgs_nil)))) (fun _ _ _ _ _ => wts_nil) (fun _ _ _ _ _ => (we_tup (wa_cons (we_neg (we_var 4)) (wa_cons (we_var 3) wa_nil)))) (by decide))) wa_nil))))) (dss_one (ds_ret (we_has H_run_by_liking hgd (hr.mono (by decide)) (by rfl) (wa_cons (we_var 0) (wa_cons (we_var 1) (wa_cons (we_ofM (me_compV (own := [("_", 5), ("pair", 3)]) rfl sc_large_run.nd (di_seqV (we_var 2)) (blkOk_by (N := N_large_run) (sc := defScope s_large_run) (by decide +kernel)) gok_two (fun _ _ _ _ _ => (pg_tup rfl (pgs_cons (pg_name (i := 5) sc_large_run.nd rfl (Or.inl rfl)) (pgs_cons (pg_name (i := 3) sc_large_run.nd rfl (Or.inl rfl)) pgs_nil)))) (fun _ _ _ _ _ => wts_nil) (fun _ _ _ _ _ => (we_var 3)) (by decide))) wa_nil))))))), fun as n R hl hc => ?_⟩
  obtain ⟨feet, pairs, order, rfl, hh, ho, ho2, hR⟩ := hc
  have hp40 := hh.p2
  have hil : (intsN pairs.length).length = pairs.length := by simp [intsN]
  refine ⟨_, rfl, 1, _, rfl, rfl, _, _, rfl, rfl, ?_⟩
  rw [enum_ints]
  refine compR_m (intsN pairs.length) _ (fun j => prD ((fun j => -getI pairs j) j, j)) (small1000 (by omega)) (fun x hx acc KK ha hK => ⟨_, _, rfl, _, rfl, _, rfl, by show 2 ≤ sizeLine; decide, ha, hK⟩) ?_
  refine ⟨_, (intsN pairs.length).map fun j => ((fun j => -getI pairs j) j, j), rfl, by rw [List.map_map]; rfl, fun qs hp hs => ?_⟩
  have hql : qs.length = pairs.length := by rw [hp.length_eq, List.length_map, hil]
  refine ⟨_, rfl, _, rfl, _, rfl, _, rfl, compR_m qs prD (fun q => .int q.2) (small1000 (by omega)) (fun x hx acc KK ha hK => ⟨_, _, rfl, _, rfl, ha, hK⟩) ?_⟩
  have hp2 : (qs.map (·.2)).Perm (intsN pairs.length) := by
    have := hp.map (·.2)
    rw [List.map_map] at this
    rwa [show ((fun x : Int × Int => x.2) ∘ fun j => ((fun j => -getI pairs j) j, j)) = id from rfl, List.map_id] at this
  have hkey : ∀ q ∈ qs, q.1 = (fun j => -getI pairs j) q.2 := fun q hq => by
    obtain ⟨j, _, rfl⟩ := List.mem_map.mp (hp.mem_iff.mp hq)
    rfl
  refine ⟨rfl, feet, pairs, order, qs.map (·.2), by rw [List.map_map]; rfl, ho, fun j hj => mem_intsN (hp2.mem_iff.mp hj), ho2, by rw [List.length_map]; omega, ?_⟩
  rw [run_same (fun j => -getI pairs j) feet pairs order _ (intsN pairs.length) [] hp2 ?_ (intsN_lt _) fun x hx => (mem_intsN hx).1]
  · exact hR
  · rw [List.pairwise_map]
    refine hs.imp_of_mem fun {a b} ha hb h => ?_
    rw [hkey a ha, hkey b hb] at h
    exact h
abbrev s_order_by_feet : Stmt := topS 50
abbrev N_order_by_feet : List Str := ["hall", "ranks", "guest", "foot", "_"]
theorem sc_order_by_feet : FnScope N_order_by_feet ["hall"] (defScope s_order_by_feet) := ⟨rfl, rfl, rfl, by decide +kernel, rfl, by decide +kernel, by decide +kernel⟩
theorem fn_order_by_feet {f : Addr} {fd : FuncData} (F : Fun K "order_by_feet" "order_by_feet" s_order_by_feet f fd) (B : Bn K mg C) : FnG P w K mg base 1 f fd ["hall"] (spD K 1 c_order_by_feet) := by
  refine fnd (k := 0) c_order_by_feet F sc_order_by_feet fun cdv A outer s H hgd0 hr Y => ?_
  have hu := hr.units
  have hu1 : (A.deeper (envOfC "order_by_feet" (defScope s_order_by_feet) s.heap.objs.size f cdv)).units + 65 < cLine := by have := hr.un; omega
  have hu0 : (A.deeper (envOfC "order_by_feet" (defScope s_order_by_feet) s.heap.objs.size f cdv)).units + 1 < cLine := by have := hr.un; omega
  have hgd : (A.deeper (envOfC "order_by_feet" (defScope s_order_by_feet) s.heap.objs.size f cdv)).guards = some [] := hgd0
  refine ⟨_, (dss_cons (ds_set (i := 1) sc_order_by_feet.nd rfl (Or.inl rfl) (xe_d (we_ofM (me_callB cr_sortedPO ck_sortP (by rfl) B.sorted PyProof.Rows.boot_sorted (wa_cons (we_ofM (me_compV (own := [("guest", 2), ("foot", 3)]) rfl sc_order_by_feet.nd (div_of (di_enumA (by rfl) B.enumerate (wa_cons (we_ix (we_var 0) we_int (fun _ _ => rfl)) wa_nil))) (blkOk_by (N := N_order_by_feet) (sc := defScope s_order_by_feet) (by decide +kernel)) gok_two (fun _ _ _ _ _ => (pg_tup rfl (pgs_cons (pg_name (i := 2) sc_order_by_feet.nd rfl (Or.inl rfl)) (pgs_cons (pg_name (i := 3) sc_order_by_feet.nd rfl (Or.inl rfl)) pgs_nil)))) (fun _ _ _ _ _ => wts_nil) (fun _ _ _ _ _ => (we_tup (wa_cons (we_var 3) (wa_cons (we_var 2) wa_nil)))) (by decide))) wa_nil))))) (dss_one (ds_ret (we_callTy call_tuple_of ck_tuple (by rfl) B.tuple PyProof.Rows.boot_tuple (wa_cons (we_ofM (me_compV (own := [("_", 4), ("guest", 2)]) rfl sc_order_by_feet.nd (di_seqV (we_var 1)) (blkOk_by (N := N_order_by_feet) (sc := defScope s_order_by_feet) (by decide +kernel)) gok_two (fun _ _ _ _ _ => (pg_tup rfl (pgs_cons (pg_name (i := 4) sc_order_by_feet.nd rfl (Or.inl rfl)) (pgs_cons (pg_name (i := 2) sc_order_by_feet.nd rfl (Or.inl rfl)) pgs_nil)))) (fun _ _ _ _ _ => wts_nil) (fun _ _ _ _ _ => (we_var 2)) (by decide))) wa_nil))))), fun as n R hl hc => ?_⟩
  obtain ⟨feet, pairs, rfl, hf, hR⟩ := hc
  refine ⟨_, rfl, 0, _, rfl, rfl, _, _, rfl, rfl, ?_⟩
  rw [enum_ints]
  refine compR_m (intsN feet.length) _ (fun j => prD (getI feet j, j)) (small1000 (by rw [intsN_len]; omega)) (fun x hx acc KK ha hK => ⟨_, _, rfl, _, rfl, _, rfl, by show 2 ≤ sizeLine; decide, ha, hK⟩) ?_
  refine ⟨_, (intsN feet.length).map fun j => (getI feet j, j), rfl, by rw [List.map_map]; rfl, fun qs hp hs => ?_⟩
  have hql : qs.length = feet.length := by rw [hp.length_eq, List.length_map, intsN_len]
  refine ⟨_, rfl, _, rfl, compR_m qs prD (fun q => .int q.2) (small1000 (by omega)) (fun x hx acc KK ha hK => ⟨_, _, rfl, _, rfl, ha, hK⟩) ?_⟩
  refine ⟨_, _, rfl, rfl, ?_⟩
  have e : (qs.map fun q => PyData.int q.2) = (obf feet).map PyData.int := by
    unfold obf
    rw [← like_of hp hs, List.map_map]
    rfl
  rw [e]
  exact hR
abbrev s__word_at : Stmt := topS 51
abbrev N__word_at : List Str := ["hall", "number", "size", "feet", "_"]
theorem sc__word_at : FnScope N__word_at ["hall", "number", "size"] (defScope s__word_at) := ⟨rfl, rfl, rfl, by decide +kernel, rfl, by decide +kernel, by decide +kernel⟩
theorem fn__word_at {f : Addr} {fd : FuncData} (F : Fun K "_word_at" "_word_at" s__word_at f fd) (B : Bn K mg C) (H_counts_at : Has P w K mg base "counts_at" 1 ["hall", "size"] c_counts_at) : FnG P w K mg base 2 f fd ["hall", "number", "size"] (spD K 3 c__word_at) := by
  refine fnd (k := 1) c__word_at F sc__word_at fun cdv A outer s H hgd0 hr Y => ?_
  have hu := hr.units
  have hu1 : (A.deeper (envOfC "_word_at" (defScope s__word_at) s.heap.objs.size f cdv)).units + 65 < cLine := by have := hr.un; omega
  have hu0 : (A.deeper (envOfC "_word_at" (defScope s__word_at) s.heap.objs.size f cdv)).units + 1 < cLine := by have := hr.un; omega
  have hgd : (A.deeper (envOfC "_word_at" (defScope s__word_at) s.heap.objs.size f cdv)).guards = some [] := hgd0
  refine ⟨_, (dss_cons (ds_asgG (we_has H_counts_at hgd (hr.mono (by decide)) (by rfl) (wa_cons (we_var 0) (wa_cons (we_var 2) wa_nil))) ⟨(pg_tup rfl (pgs_cons (pg_name (i := 3) sc__word_at.nd rfl (Or.inl rfl)) (pgs_cons (pg_name (i := 4) sc__word_at.nd rfl (Or.inl rfl)) pgs_nil))), gok_two⟩) (dss_cons (ds_if (wt_cmp op_ge bi_B0 (we_var 3) (we_var 1) (nomark _)) (dss_one (ds_ret we_str)) dss_nil) (dss_one (ds_ret we_str)))), fun as n R hl hc => ?_⟩
  obtain ⟨feet, pairs, num, s, rfl, hf, hp, hR⟩ := hc
  refine ⟨_, rfl, _, rfl, rfl, feet, pairs, s, rfl, hf, hp, _, _, rfl, _, rfl, _, rfl, _, rfl, ite2 (fun h => ?_) fun h => ?_⟩
  · unfold wordAt at hR
    rw [if_pos (of_decide_eq_true h)] at hR
    exact hR
  · unfold wordAt at hR
    rw [if_neg fun q => h (decide_eq_true q)] at hR
    exact hR
abbrev s_sure_certificate : Stmt := topS 52
abbrev N_sure_certificate : List Str := ["hall", "number", "size"]
theorem sc_sure_certificate : FnScope N_sure_certificate ["hall", "number"] (defScope s_sure_certificate) := ⟨rfl, rfl, rfl, by decide +kernel, rfl, by decide +kernel, by decide +kernel⟩
theorem fn_sure_certificate {f : Addr} {fd : FuncData} (F : Fun K "sure_certificate" "sure_certificate" s_sure_certificate f fd) (B : Bn K mg C) (H_fewest_served : Has P w K mg base "fewest_served" 3 ["hall"] c_fewest_served) (H_large_run : Has P w K mg base "large_run" 3 ["hall", "order"] c_large_run) (H_order_by_feet : Has P w K mg base "order_by_feet" 1 ["hall"] c_order_by_feet) (H__word_at : Has P w K mg base "_word_at" 2 ["hall", "number", "size"] c__word_at) (H__foot_sizes : Has P w K mg base "_foot_sizes" 1 ["hall"] c__foot_sizes) : FnG P w K mg base 4 f fd ["hall", "number"] (spD K 2 c_sure_certificate) := by
  refine fnd (k := 3) c_sure_certificate F sc_sure_certificate fun cdv A outer s H hgd0 hr Y => ?_
  have hu := hr.units
  have hu1 : (A.deeper (envOfC "sure_certificate" (defScope s_sure_certificate) s.heap.objs.size f cdv)).units + 65 < cLine := by have := hr.un; omega
  have hu0 : (A.deeper (envOfC "sure_certificate" (defScope s_sure_certificate) s.heap.objs.size f cdv)).units + 1 < cLine := by have := hr.un; omega
  have hgd : (A.deeper (envOfC "sure_certificate" (defScope s_sure_certificate) s.heap.objs.size f cdv)).guards = some [] := hgd0
  refine ⟨_, (dss_cons (ds_if (wt_cmp op_gt bi_B0 (we_var 1) (we_has H_fewest_served hgd (hr.mono (by decide)) (by rfl) (wa_cons (we_var 0) wa_nil)) (nomark _)) (dss_one (ds_ret (we_tup (wa_cons we_str (wa_cons (we_has H_large_run hgd (hr.mono (by decide)) (by rfl) (wa_cons (we_var 0) (wa_cons (we_has H_order_by_feet hgd (hr.mono (by decide)) (by rfl) (wa_cons (we_var 0) wa_nil)) wa_nil))) wa_nil))))) dss_nil) (dss_one (ds_ret (we_tup (wa_cons we_str (wa_cons (we_callTy call_tuple_of ck_tuple (by rfl) B.tuple PyProof.Rows.boot_tuple (wa_cons (we_ofM (me_compV (own := [("size", 2)]) rfl sc_sure_certificate.nd (di_seqV (we_has H__foot_sizes hgd (hr.mono (by decide)) (by rfl) (wa_cons (we_var 0) wa_nil))) (blkOk_by (N := N_sure_certificate) (sc := defScope s_sure_certificate) (by decide +kernel)) gok_name (fun _ _ _ _ _ => (pg_name (i := 2) sc_sure_certificate.nd rfl (Or.inl rfl))) (fun _ _ _ _ _ => wts_nil) (fun _ _ _ _ _ => (we_has H__word_at hgd (hr.mono (by decide)) (by rfl) (wa_cons (we_var 0) (wa_cons (we_var 1) (wa_cons (we_var 2) wa_nil))))) (by decide))) wa_nil)) wa_nil)))))), fun as n R hl hc => ?_⟩
  obtain ⟨feet, pairs, num, rfl, hh, hR⟩ := hc
  have hf40 := hh.f2
  have hp40 := hh.p2
  refine ⟨_, rfl, _, rfl, rfl, feet, pairs, rfl, hh, fun m hm => ⟨_, rfl, ite2 (fun h => ?_) fun h => ?_⟩⟩
  · have hR := hR m hm
    unfold sureD at hR
    rw [if_pos (of_decide_eq_true h)] at hR
    exact ⟨_, rfl, _, rfl, rfl, feet, pairs, rfl, hf40, rfl, feet, pairs, obf feet, rfl, hh, fun j hj => mem_intsN ((obf_perm feet).mem_iff.mp hj), by rw [(obf_perm feet).length_eq, intsN_len]; omega, by show 2 ≤ sizeLine; decide, hR⟩
  · have hR := hR m hm
    unfold sureD at hR
    rw [if_neg fun q => h (decide_eq_true q)] at hR
    refine ⟨_, rfl, rfl, feet, pairs, rfl, hf40, fun ms hme hm' hml => ⟨_, rfl, compR_m ms .int (fun s => .str (wordAt feet num s)) (small1000 (by omega)) (fun x hx acc KK ha hK => ⟨_, rfl, _, rfl, _, rfl, rfl, feet, pairs, num, x, rfl, by omega, by omega, ha, hK⟩) ?_⟩⟩
    subst hme
    exact ⟨_, _, rfl, rfl, by show 2 ≤ sizeLine; decide, hR⟩
abbrev s_Party_certificate : Stmt := inCls (topS 63) 18
abbrev N_Party_certificate : List Str := ["self", "number", "version", "hall"]
theorem sc_Party_certificate : FnScope N_Party_certificate ["self", "number", "version"] (defScope s_Party_certificate) := ⟨rfl, rfl, rfl, by decide +kernel, rfl, by decide +kernel, by decide +kernel⟩
theorem fn_Party_certificate {f : Addr} {fd : FuncData} (F : Fun K "certificate" "Party.certificate" s_Party_certificate f fd) (B : Bn K mg C) (HM__hall_at : HasM P w K mg base (fun D => D = C.Party) "_hall_at" 3 ["self", "version"] (fun _ => c_Party__hall_at C)) (H_sure_certificate : Has P w K mg base "sure_certificate" 4 ["hall", "number"] c_sure_certificate) (H_is_number_from : Has P w K mg base "is_number_from" 2 ["value", "low", "high"] c_is_number_from) (H_BadNumber : ErrC P w K mg base "BadNumber" C.BadNumber "value") : FnGX P w K mg base 5 f fd ["self", "number", "version"] (spDX K 3 (c_Party_certificate C)) := by
  refine fndX (k := 4) (c_Party_certificate C) F sc_Party_certificate fun cdv A outer s H Eh hgd0 hr Y E ok tk => ?_
  have hu := hr.units
  have hu1 : (A.deeper (envOfC "Party.certificate" (defScope s_Party_certificate) s.heap.objs.size f cdv)).units + 65 < cLine := by have := hr.un; omega
  have hu0 : (A.deeper (envOfC "Party.certificate" (defScope s_Party_certificate) s.heap.objs.size f cdv)).units + 1 < cLine := by have := hr.un; omega
  have hgd : (A.deeper (envOfC "Party.certificate" (defScope s_Party_certificate) s.heap.objs.size f cdv)).guards = some [] := hgd0
  refine ⟨_, (dss_cons (ds_set (i := 3) sc_Party_certificate.nd rfl (Or.inl rfl) (xe_d (we_meth (pl := _) tk ok HM__hall_at hgd (hr.mono (by decide)) (we_var 0) (wa_cons (we_var 2) wa_nil)))) (dss_cons (ds_if (wt_not (wt_val (we_has H_is_number_from hgd (hr.mono (by decide)) (by rfl) (wa_cons (we_var 1) (wa_cons we_int (wa_cons (we_gint (by rfl) B.LIMIT.choose_spec) wa_nil)))))) (dss_one (ds_raise rfl tk ok H_BadNumber (hr.mono (by decide)) (by rfl) (we_var 1))) dss_nil) (dss_one (ds_ret (we_has H_sure_certificate hgd (hr.mono (by decide)) (by rfl) (wa_cons (we_var 3) (wa_cons (we_var 1) wa_nil))))))), fun as n R hl hc => ?_⟩
  obtain ⟨a, p, num, v, rfl, hob, hk, hnn, hnr, hE, hRR⟩ := hc
  have hat : ∀ (Q : PyData → Wo → Prop) (E' : Ex → Wo → Prop), (∀ h, HAt p v h → HlOk h → Q (halD h) n) → (v ≠ .none → numIn v 0 p.done.length = false → E' ⟨C.NoVersion, [("value", v)]⟩ n) → c_Party__hall_at C [.dat (refD a), .dat v] n Q E' := fun Q E' hq he => ⟨a, p, v, rfl, hob, hk, hnr, fun e => hq p.h (.inl ⟨e, rfl⟩) hk.hh, he, fun i h' e1 e2 => hq h' (.inr ⟨i, e1, e2⟩) (hk.all h' (List.mem_of_getElem? e2))⟩
  refine ⟨_, rfl, a, _, rfl, hob, rfl, rfl, _, rfl, rfl, hat _ _ (fun h hd hh => ?_) hE⟩
  obtain ⟨hB, hR⟩ := hRR h hd
  refine ⟨_, rfl, rfl, num, 0, 1000, rfl, hnn, _, rfl, ?_⟩
  cases hb : numIn num 0 1000 with
  | false =>
    exact ifNF rfl ⟨_, rfl, hB hb⟩
  | true =>
    obtain ⟨z, rfl, z0, z1⟩ := numIn_true hb
    exact ifN rfl ⟨_, rfl, _, rfl, rfl, h.1, h.2, z, rfl, hh.ok, hR z rfl z0 z1⟩
abbrev s_Party_state : Stmt := inCls (topS 63) 17
abbrev N_Party_state : List Str := ["self", "version"]
theorem sc_Party_state : FnScope N_Party_state ["self", "version"] (defScope s_Party_state) := ⟨rfl, rfl, rfl, by decide +kernel, rfl, by decide +kernel, by decide +kernel⟩
theorem fn_Party_state {f : Addr} {fd : FuncData} (F : Fun K "state" "Party.state" s_Party_state f fd) (B : Bn K mg C) (HM__hall_at : HasM P w K mg base (fun D => D = C.Party) "_hall_at" 3 ["self", "version"] (fun _ => c_Party__hall_at C)) : FnGX P w K mg base 4 f fd ["self", "version"] (spDX K 2 (c_Party_state C)) := by
  refine fndX (k := 3) (c_Party_state C) F sc_Party_state fun cdv A outer s H Eh hgd0 hr Y E ok tk => ?_
  have hu := hr.units
  have hu1 : (A.deeper (envOfC "Party.state" (defScope s_Party_state) s.heap.objs.size f cdv)).units + 65 < cLine := by have := hr.un; omega
  have hu0 : (A.deeper (envOfC "Party.state" (defScope s_Party_state) s.heap.objs.size f cdv)).units + 1 < cLine := by have := hr.un; omega
  have hgd : (A.deeper (envOfC "Party.state" (defScope s_Party_state) s.heap.objs.size f cdv)).guards = some [] := hgd0
  refine ⟨_, (dss_one (ds_ret (we_meth (pl := _) tk ok HM__hall_at hgd (hr.mono (by decide)) (we_var 0) (wa_cons (we_var 1) wa_nil)))), fun as n R hl hc => ?_⟩
  obtain ⟨a, p, d, rfl, hob, hk, hnr, hN, hE, hI⟩ := hc
  exact ⟨_, rfl, a, _, rfl, hob, rfl, rfl, _, rfl, rfl, a, p, d, rfl, hob, hk, hnr, hN, hE, hI⟩
abbrev s_small_run : Stmt := topS 43
abbrev N_small_run : List Str := ["hall", "order", "ranks", "pair", "size", "_"]
theorem sc_small_run : FnScope N_small_run ["hall", "order"] (defScope s_small_run) := ⟨rfl, rfl, rfl, by decide +kernel, rfl, by decide +kernel, by decide +kernel⟩
theorem fn_small_run {f : Addr} {fd : FuncData} (F : Fun K "small_run" "small_run" s_small_run f fd) (B : Bn K mg C) (HN_run_by_liking : HasNG P w K mg base "run_by_liking" 2 ["hall", "order", "liking"] c_run_by_liking) : FnNG P w K mg base 3 f fd ["hall", "order"] (spD K 2 c_small_run) := by
  refine fndNG (k := 2) c_small_run F sc_small_run fun cdv A outer s H hr Y => ?_
  have hu := hr.units
  have hu1 : (A.deeper (envOfC "small_run" (defScope s_small_run) s.heap.objs.size f cdv)).units + 65 < cLine := by have := hr.un; omega
  have hu0 : (A.deeper (envOfC "small_run" (defScope s_small_run) s.heap.objs.size f cdv)).units + 1 < cLine := by have := hr.un; omega
  refine ⟨_, (dss_cons (ds_set (i := 2) sc_small_run.nd rfl (Or.inl rfl) (xe_d (we_ofM (me_callB cr_sortedPO ck_sortP (by rfl) B.sorted PyProof.Rows.boot_sorted (wa_cons (we_ofM (me_compV (own := [("pair", 3), ("size", 4)]) rfl sc_small_run.nd (div_of (di_enumA (by rfl) B.enumerate (wa_cons (we_ix (we_var 0) we_int (fun _ _ => rfl)) wa_nil))) (blkOk_by (N := N_small_run) (sc := defScope s_small_run) (by decide +kernel)) gok_two (fun _ _ _ _ _ => (pg_tup rfl (pgs_cons (pg_name (i := 3) sc_small_run.nd rfl (Or.inl rfl)) (pgs_cons (pg_name (i := 4) sc_small_run.nd rfl (Or.inl rfl)) pgs_nil)))) (fun _ _ _ _ _ => wts_nil) (fun _ _ _ _ _ => (we_tup (wa_cons (we_var 4) (wa_cons (we_var 3) wa_nil)))) (by decide))) wa_nil))))) (dss_one (ds_ret (we_hasNG HN_run_by_liking (hr.mono (by decide)) (by rfl) (wa_cons (we_var 0) (wa_cons (we_var 1) (wa_cons (we_ofM (me_compV (own := [("_", 5), ("pair", 3)]) rfl sc_small_run.nd (di_seqV (we_var 2)) (blkOk_by (N := N_small_run) (sc := defScope s_small_run) (by decide +kernel)) gok_two (fun _ _ _ _ _ => (pg_tup rfl (pgs_cons (pg_name (i := 5) sc_small_run.nd rfl (Or.inl rfl)) (pgs_cons (pg_name (i := 3) sc_small_run.nd rfl (Or.inl rfl)) pgs_nil)))) (fun _ _ _ _ _ => wts_nil) (fun _ _ _ _ _ => (we_var 3)) (by decide))) wa_nil))))))), fun as n R hl hc => ?_⟩
  obtain ⟨feet, pairs, order, rfl, hh, ho, ho2, hR⟩ := hc
  have hp40 := hh.p2
  have hil : (intsN pairs.length).length = pairs.length := by simp [intsN]
  refine ⟨_, rfl, 1, _, rfl, rfl, _, _, rfl, rfl, ?_⟩
  rw [enum_ints]
  refine compR_m (intsN pairs.length) _ (fun j => prD ((getI pairs) j, j)) (small1000 (by omega)) (fun x hx acc KK ha hK => ⟨_, _, rfl, _, rfl, _, rfl, by show 2 ≤ sizeLine; decide, ha, hK⟩) ?_
  refine ⟨_, (intsN pairs.length).map fun j => ((getI pairs) j, j), rfl, by rw [List.map_map]; rfl, fun qs hp hs => ?_⟩
  have hql : qs.length = pairs.length := by rw [hp.length_eq, List.length_map, hil]
  refine ⟨_, rfl, _, rfl, _, rfl, _, rfl, compR_m qs prD (fun q => .int q.2) (small1000 (by omega)) (fun x hx acc KK ha hK => ⟨_, _, rfl, _, rfl, ha, hK⟩) ?_⟩
  have hp2 : (qs.map (·.2)).Perm (intsN pairs.length) := by
    have := hp.map (·.2)
    rw [List.map_map] at this
    rwa [show ((fun x : Int × Int => x.2) ∘ fun j => ((getI pairs) j, j)) = id from rfl, List.map_id] at this
  have hkey : ∀ q ∈ qs, q.1 = (getI pairs) q.2 := fun q hq => by
    obtain ⟨j, _, rfl⟩ := List.mem_map.mp (hp.mem_iff.mp hq)
    rfl
  refine ⟨rfl, feet, pairs, order, qs.map (·.2), by rw [List.map_map]; rfl, ho, fun j hj => mem_intsN (hp2.mem_iff.mp hj), ho2, by rw [List.length_map]; omega, ?_⟩
  rw [run_same (getI pairs) feet pairs order _ (intsN pairs.length) [] hp2 ?_ (intsN_lt _) fun x hx => (mem_intsN hx).1]
  · exact hR
  · rw [List.pairwise_map]
    refine hs.imp_of_mem fun {a b} ha hb h => ?_
    rw [hkey a ha, hkey b hb] at h
    exact h
abbrev s_Party_walk : Stmt := inCls (topS 63) 19
abbrev N_Party_walk : List Str := ["self", "version", "hall", "feet", "pairs", "left", "guest", "pair", "size", "other"]
theorem sc_Party_walk : GScope N_Party_walk ["self", "version"] (defScope s_Party_walk) := ⟨rfl, rfl, rfl, by decide +kernel, rfl, by decide +kernel, by decide +kernel⟩
theorem fn_Party_walk {f : Addr} {fd : FuncData} (F : Fun K "walk" "Party.walk" s_Party_walk f fd) (B : Bn K mg C) (HNM__hall_at : HasMN P w K mg base (fun D => D = C.Party) "_hall_at" 3 ["self", "version"] (fun _ => c_Party__hall_at C)) (HN_small_run : HasNG P w K mg base "small_run" 3 ["hall", "order"] c_small_run) : GFn P w K mg base 4 f fd ["self", "version"] (spDG K 2 (c_Party_walk C)) := by
  refine gfnD (k := 3) (c_Party_walk C) F sc_Party_walk fun cdv A outer s H Eh pn hr Y E ok tk => ?_
  have hu := hr.units
  have hu1 : (A.deeper (envOfC "Party.walk" (defScope s_Party_walk) s.heap.objs.size f cdv)).units + 65 < cLine := by have := hr.un; omega
  have hu0 : (A.deeper (envOfC "Party.walk" (defScope s_Party_walk) s.heap.objs.size f cdv)).units + 1 < cLine := by have := hr.un; omega
  refine ⟨_, (dgss_cons (dgs_plain (ds_set (i := 2) sc_Party_walk.nd rfl (Or.inl rfl) (xe_d (we_methN (pl := _) tk ok HNM__hall_at (hr.mono (by decide)) (we_var 0) (wa_cons (we_var 1) wa_nil))))) (dgss_cons (dgs_plain (ds_asgG (we_var 2) ⟨(pg_tup rfl (pgs_cons (pg_name (i := 3) sc_Party_walk.nd rfl (Or.inl rfl)) (pgs_cons (pg_name (i := 4) sc_Party_walk.nd rfl (Or.inr rfl)) pgs_nil))), gok_two⟩)) (dgss_cons (dgs_plain (ds_set (i := 5) sc_Party_walk.nd rfl (Or.inl rfl) (xe_m (me_listRg rfl (by rfl) B.list (wr_1 (by rfl) B.range (we_callB call_len_seq ck_len (by rfl) B.len PySem.boot_len (wa_cons (we_var 4) wa_nil))))))) (dgss_cons (dgs_for owns_gcx rfl (di_seq (we_hasNG HN_small_run (hr.mono (by decide)) (by rfl) (wa_cons (we_var 2) (wa_cons (we_tupRg rfl (by rfl) B.tuple (wr_1 (by rfl) B.range (we_callB call_len_seq ck_len (by rfl) B.len PySem.boot_len (wa_cons (we_var 3) wa_nil)))) wa_nil)))) ⟨(pg_tup rfl (pgs_cons (pg_name (i := 6) sc_Party_walk.nd rfl (Or.inl rfl)) (pgs_cons (pg_name (i := 7) sc_Party_walk.nd rfl (Or.inl rfl)) pgs_nil))), gok_two⟩ (dgss_cons (dgs_plain (ds_set (i := 8) sc_Party_walk.nd rfl (Or.inl rfl) (xe_d we_int))) (dgss_cut (dgs_plain (ds_if (wt_cmp (or_neA hu) bi_neA (we_var 7) (we_gint (by rfl) B.NO_PAIR.choose_spec) (nomark _)) (dss_cons (ds_set (i := 8) sc_Party_walk.nd rfl (Or.inl rfl) (xe_d (we_ix (we_var 4) (we_var 7) (fun _ _ => rfl)))) (dss_one (ds_remove (pv 5) (we_var 7)))) dss_nil)) (dgss_cons (dgs_yield (we_tup (wa_cons (we_var 6) (wa_cons (we_var 8) (wa_cons (we_callTy call_tuple_of ck_tuple (by rfl) B.tuple PyProof.Rows.boot_tuple (wa_cons (we_ofM (me_compV (own := [("other", 9)]) rfl sc_Party_walk.nd (di_seqV (we_var 5)) (blkOk_by (N := N_Party_walk) (sc := defScope s_Party_walk) (by decide +kernel)) gok_name (fun _ _ _ _ _ => (pg_name (i := 9) sc_Party_walk.nd rfl (Or.inl rfl))) (fun _ _ _ _ _ => wts_nil) (fun _ _ _ _ _ => (we_ix (we_var 4) (we_var 9) (fun _ _ => rfl))) (by decide))) wa_nil)) wa_nil))))) dgss_nil)))) dgss_nil)))), fun as n R hl hc => ?_⟩
  obtain ⟨a, p, d, rfl, hob, hk, hnr, hE, hRR⟩ := hc
  have hat : ∀ (Q : PyData → Wo → Prop) (E' : Ex → Wo → Prop), (∀ h, HAt p d h → HlOk h → Q (halD h) n) → (d ≠ .none → numIn d 0 p.done.length = false → E' ⟨C.NoVersion, [("value", d)]⟩ n) → c_Party__hall_at C [.dat (refD a), .dat d] n Q E' := fun Q E' hq he => ⟨a, p, d, rfl, hob, hk, hnr, fun e => hq p.h (.inl ⟨e, rfl⟩) hk.hh, he, fun i h' e1 e2 => hq h' (.inr ⟨i, e1, e2⟩) (hk.all h' (List.mem_of_getElem? e2))⟩
  refine ⟨_, rfl, a, _, rfl, hob, rfl, rfl, _, rfl, rfl, hat _ _ (fun h hd hh => ?_) hE⟩
  have hR := hRR h hd
  obtain ⟨F1, P1⟩ := h
  have l1 : F1.length ≤ 20 := hh.l1
  have l2 : P1.length ≤ 20 := hh.l2
  have eP : rngD 0 ((((P1.map PyData.int).length : Nat) : Int) - 0).toNat = (intsN P1.length).map PyData.int := by rw [Int.sub_zero, List.length_map]; exact rng_ints _
  have eF : rngD 0 ((((F1.map PyData.int).length : Nat) : Int) - 0).toNat = (intsN F1.length).map PyData.int := by rw [Int.sub_zero, List.length_map]; exact rng_ints _
  refine ⟨_, rfl, .tuple (F1.map .int), .tuple (P1.map .int), rfl, ?_⟩
  refine ⟨_, rfl, _, _, rfl, rfl, _, rfl, ⟨by decide, by decide, by omega, by rw [List.length_map]; omega⟩, ?_⟩
  rw [eP]
  refine ⟨_, rfl, _, rfl, _, _, rfl, rfl, _, rfl, ⟨by decide, by decide, by omega, by rw [List.length_map]; omega⟩, ?_⟩
  rw [eF]
  have rv := ruled_small F1 P1 (.refl (intsN F1.length))
  have rok := rv.ok
  refine ⟨rfl, F1, P1, intsN F1.length, rfl, hh.ok, fun j hj => mem_intsN hj, by rw [intsN_len]; omega, ?_⟩
  obtain ⟨run, hrun⟩ : ∃ run, run = ruled (getI P1) F1 P1 (intsN F1.length) := ⟨_, rfl⟩
  rw [← hrun] at rv rok ⊢
  refine ⟨run.map prD, rfl, ⟨fun k ds ρ n' => n' = n ∧ ds = (walkD P1 run).take k ∧ ∃ b6 b7 b8 b9, ρ = [some (.dat (refD a)), some (.dat d), some (.dat (halD (F1, P1))), some (.dat (.tuple (F1.map .int))), some (.dat (.tuple (P1.map .int))), some (.mt ((leftL P1.length (run.take k)).map .int)), b6, b7, b8, b9], ⟨rfl, rfl, none, none, none, none, ?_⟩, ?_, ?_⟩⟩
  · have e0 : leftL P1.length (run.take 0) = intsN P1.length := by unfold leftL; simp
    rw [e0]
    rfl
  · rintro k x ds ρ n' hx ⟨rfl, rfl, b6, b7, b8, b9, rfl⟩
    rw [List.getElem?_map] at hx
    obtain ⟨⟨g, j⟩, hq, rfl⟩ := Option.map_eq_some_iff.mp hx
    refine ⟨_, _, rfl, fun ds' ρ n2 => n2 = n' ∧ ds' = (walkD P1 run).take k ∧ ∃ b9, ρ = [some (.dat (refD a)), some (.dat d), some (.dat (halD (F1, P1))), some (.dat (.tuple (F1.map .int))), some (.dat (.tuple (P1.map .int))), some (.mt ((leftL P1.length (run.take (k + 1))).map .int)), some (.dat (.int g)), some (.dat (.int j)), some (.dat (.int (if j = -1 then 0 else getI P1 j))), b9], ?_, ?_⟩
    · refine ⟨_, rfl, rfl, rfl, sh_int _, sh_int _, _, rfl, ?_⟩
      have en := left_next (m := P1.length) hq
      by_cases c : j = -1
      · have hnm : j ∉ leftL P1.length (run.take k) := fun hm => by
          have := (mem_intsN (List.mem_filter.mp hm).1).1
          omega
        refine ifN ((eqv_int _ _).trans (decide_eq_true c)) ⟨rfl, rfl, b9, ?_⟩
        rw [en, if_pos c, List.erase_of_not_mem hnm]
        rfl
      · have hm := walk_mem rv hq c
        have hb := mem_intsN (List.mem_filter.mp hm).1
        refine ifNF ((eqv_int _ _).trans (decide_eq_false c)) ⟨_, rfl, _, rfl, _, _, rfl, atI_get hb.1 hb.2, _, rfl, _, rfl, _, j, rfl, rfl, hm, rfl, rfl, b9, ?_⟩
        rw [en, if_neg c]
        rfl
    · rintro ds' ρ n2 ⟨rfl, rfl, b9, rfl⟩
      have hkl := (List.getElem?_eq_some_iff.mp hq).1
      have hrl : run.length = F1.length := rv.len
      have hll := left_le P1.length (run.take (k + 1))
      refine ⟨?_, _, rfl, _, rfl, _, rfl, _, rfl, compR_m (leftL P1.length (run.take (k + 1))) .int (fun j => .int (getI P1 j)) (small1000 (by omega)) (fun x hx acc KK ha hK => ?_) ?_⟩
      · rw [List.length_take, sizeLine_eq]; omega
      · have hb := mem_intsN (List.mem_filter.mp hx).1
        exact ⟨_, rfl, _, rfl, _, _, rfl, atI_get hb.1 hb.2, ha, hK⟩
      exact ⟨_, _, rfl, rfl, by show 3 ≤ sizeLine; decide, rfl, (walk_take hq).symm, _, _, _, _, rfl⟩
  · rintro ds ρ n' ⟨rfl, rfl, b6, b7, b8, b9, rfl⟩
    have e2 : List.take (List.map prD run).length (walkD P1 run) = walkD P1 run := List.take_of_length_le (by rw [List.length_map, walk_len]; exact Nat.le_refl _)
    show R (List.take (List.map prD run).length (walkD P1 run)) _
    rw [e2, hrun]
    exact hR
abbrev s__law_queried : Stmt := topS 75
abbrev N__law_queried : List Str := ["table", "way", "number", "past"]
theorem sc__law_queried : FnScope N__law_queried ["table", "way", "number", "past"] (defScope s__law_queried) := ⟨rfl, rfl, rfl, by decide +kernel, rfl, by decide +kernel, by decide +kernel⟩
theorem fn__law_queried {f : Addr} {fd : FuncData} (F : Fun K "_law_queried" "_law_queried" s__law_queried f fd) (B : Bn K mg C) (HMK_certificate : HasMK P w K mg base (fun D => D = C.Party) "certificate" "version" 5 ["self", "number", "version"] (fun _ => c_Party_certificate C)) (HMK_state : HasMK P w K mg base (fun D => D = C.Party) "state" "version" 4 ["self", "version"] (fun _ => c_Party_state C)) (HMGK_walk : HasMGK P w K mg base (fun D => D = C.Party) "walk" "version" 4 ["self", "version"] (fun _ => c_Party_walk C)) : FnGX P w K mg base 8 f fd ["table", "way", "number", "past"] (spDX K 4 (c__law_queried C)) := by
  refine fndX (k := 7) (c__law_queried C) F sc__law_queried fun cdv A outer s H Eh hgd0 hr Y E ok tk => ?_
  have hu := hr.units
  have hu1 : (A.deeper (envOfC "_law_queried" (defScope s__law_queried) s.heap.objs.size f cdv)).units + 65 < cLine := by have := hr.un; omega
  have hu0 : (A.deeper (envOfC "_law_queried" (defScope s__law_queried) s.heap.objs.size f cdv)).units + 1 < cLine := by have := hr.un; omega
  have hgd : (A.deeper (envOfC "_law_queried" (defScope s__law_queried) s.heap.objs.size f cdv)).guards = some [] := hgd0
  refine ⟨_, (dss_cons (ds_if (wt_cmp (or_eqA hu) bi_eqA (we_var 1) we_int (nomark _)) (dss_one (ds_ret (we_methK0 (pl := _) tk ok HMK_state hgd (hr.mono (by decide)) (we_var 0) (we_var 3)))) dss_nil) (dss_cons (ds_if (wt_cmp (or_eqA hu) bi_eqA (we_var 1) we_int (nomark _)) (dss_one (ds_ret (we_ofM (me_listGx tk B.s_NoVersion_StopIteration (ge_methKx0 (pl := _) ok HMGK_walk (hr.mono (by decide)) (we_var 0) (we_var 3)) (hr.mono (by decide)) (by rfl) B.list)))) dss_nil) (dss_one (ds_ret (we_methK (pl := _) tk ok HMK_certificate hgd (hr.mono (by decide)) (we_var 0) (wa_cons (we_var 2) wa_nil) (we_var 3)))))), fun as n R hl hc => ?_⟩
  obtain ⟨a, p, w', num, v, rfl, hob, hk, hnn, hnr, hE, hRR⟩ := hc
  refine ⟨_, rfl, rfl, rfl, sh_int _, sh_int _, _, rfl, ?_⟩
  have hst : ∀ (Q : PyData → Wo → Prop) (E' : Ex → Wo → Prop), (∀ h, HAt p v h → Q (halD h) n) → (v ≠ .none → numIn v 0 p.done.length = false → E' ⟨C.NoVersion, [("value", v)]⟩ n) → c_Party_state C [.dat (refD a), .dat v] n Q E' := fun Q E' hq he => ⟨a, p, v, rfl, hob, hk, hnr, fun e => hq p.h (.inl ⟨e, rfl⟩), he, fun i h' e1 e2 => hq h' (.inr ⟨i, e1, e2⟩)⟩
  by_cases w0 : w' = 0
  · refine ifT ((eqv_int _ _).trans (decide_eq_true w0)) ?_
    exact ⟨_, rfl, a, _, rfl, hob, rfl, rfl, _, rfl, rfl, hst _ _ (fun h hd => (hRR h hd).1 w0) hE⟩
  refine ifF ((eqv_int _ _).trans (decide_eq_false w0)) ?_
  refine ⟨_, rfl, rfl, rfl, sh_int _, sh_int _, _, rfl, ?_⟩
  by_cases w1 : w' = 1
  · refine ifT ((eqv_int _ _).trans (decide_eq_true w1)) ?_
    exact ⟨_, rfl, a, _, rfl, hob, rfl, rfl, _, rfl, rfl, a, p, v, rfl, hob, hk, hnr, fun e1 e2 => ⟨hE e1 e2, rfl⟩, fun h hd => (hRR h hd).2.1 w1⟩
  refine ifF ((eqv_int _ _).trans (decide_eq_false w1)) ?_
  exact ⟨_, rfl, a, _, rfl, hob, rfl, rfl, _, rfl, _, rfl, rfl, a, p, num, v, rfl, hob, hk, hnn, hnr, hE, fun h hd => (hRR h hd).2.2 w0 w1⟩
abbrev s__law_told : Stmt := topS 76
abbrev N__law_told : List Str := ["table", "way", "number", "past", "e"]
theorem sc__law_told : FnScope N__law_told ["table", "way", "number", "past"] (defScope s__law_told) := ⟨rfl, rfl, rfl, by decide +kernel, rfl, by decide +kernel, by decide +kernel⟩
theorem fn__law_told {f : Addr} {fd : FuncData} (F : Fun K "_law_told" "_law_told" s__law_told f fd) (B : Bn K mg C) (H__law_queried : HasX P w K mg base "_law_queried" 8 ["table", "way", "number", "past"] (c__law_queried C)) : FnG P w K mg base 9 f fd ["table", "way", "number", "past"] (spD K 4 (c__law_told C)) := by
  refine fnd (k := 8) (c__law_told C) F sc__law_told fun cdv A outer s H hgd0 hr Y => ?_
  have hu := hr.units
  have hu1 : (A.deeper (envOfC "_law_told" (defScope s__law_told) s.heap.objs.size f cdv)).units + 65 < cLine := by have := hr.un; omega
  have hu0 : (A.deeper (envOfC "_law_told" (defScope s__law_told) s.heap.objs.size f cdv)).units + 1 < cLine := by have := hr.un; omega
  have hgd : (A.deeper (envOfC "_law_told" (defScope s__law_told) s.heap.objs.size f cdv)).guards = some [] := hgd0
  refine ⟨_, (dss_cons (ds_try_g takes0 wok0 rfl rfl (fun Y1 W1 pn xe dw1 tk1 ok1 => (dss_one (ds_ret (we_ofM (me_lst (wa_cons we_str (wa_cons (we_callB (call_reprE hgd hu) ck_reprE (by rfl) B.repr PyProof.Rows.boot_repr (wa_cons (we_hasX tk1 ok1 H__law_queried hgd (hr.mono (by decide)) (by rfl) (wa_cons (we_var 0) (wa_cons (we_var 1) (wa_cons (we_var 2) (wa_cons (we_var 3) wa_nil))))) wa_nil)) wa_nil))))))) (.as (i := 4) (.one (names_own (by rfl) B.g_NoVersion)) sc__law_told.nd rfl rfl (fun a oe cls d pn hz hf => (dss_one (ds_ret (we_if (wt_val (we_isXT hz hf (by rfl) B.isinstance (we_var 4) (pa_k (pe_bltn (v := .ty "ValueError") (by rfl) B.ValueError (by decide +kernel) rfl) (pa_k (pe_glob (v := .ref C.NoGuest) (by rfl) B.g_NoGuest rfl) (pa_k (pe_glob (v := .ref C.NoPair) (by rfl) B.g_NoPair rfl) (pa_k (pe_glob (v := .ref C.NoPlace) (by rfl) B.g_NoPlace rfl) pa_k0)))) (.cons (.ty _) (.cons (.own _) (.cons (.own _) (.cons (.own _) .nil)))) (show 4 ≤ sizeLine by decide))) (we_ofM (me_lst (wa_cons we_str wa_nil))) (we_ofM (me_lst (wa_cons we_str (wa_cons (we_callB (call_reprE hgd hu) ck_reprE (by rfl) B.repr PyProof.Rows.boot_repr (wa_cons (we_xf hz hf (we_var 4)) wa_nil)) wa_nil)))))))) (.as (i := 4) (.one (names_own (by rfl) B.g_PartyError)) sc__law_told.nd rfl rfl (fun a oe cls d pn hz hf => (dss_one (ds_if (wt_w (ww_and (wt_val (we_isX hz hf (by rfl) B.isinstance (we_var 4) (pe_glob (v := .ref C.BadNumber) (by rfl) B.g_BadNumber rfl) (.own _))) (ww_and (wt_val (we_isX hz hf (by rfl) B.isinstance (we_var 4) (pe_bltn (v := .ty "ValueError") (by rfl) B.ValueError (by decide +kernel) rfl) (.ty _))) (ww_and1 (wt_not (wt_val (we_isXT hz hf (by rfl) B.isinstance (we_var 4) (pa_k (pe_glob (v := .ref C.BadEdits) (by rfl) B.g_BadEdits rfl) (pa_k (pe_glob (v := .ref C.TooFewServed) (by rfl) B.g_TooFewServed rfl) pa_k0)) (.cons (.own _) (.cons (.own _) .nil)) (show 2 ≤ sizeLine by decide)))))))) (dss_one (ds_ret (we_ofM (me_lst (wa_cons we_str (wa_cons (we_callB (call_reprE hgd hu) ck_reprE (by rfl) B.repr PyProof.Rows.boot_repr (wa_cons (we_xf hz hf (we_var 4)) wa_nil)) wa_nil)))))) dss_nil))) .nil))) (dss_one (ds_ret (we_ofM (me_lst (wa_cons we_str wa_nil)))))), fun as n R hl hc => ?_⟩
  obtain ⟨a, p, w', num, v, rfl, hob, hk, gn, gv, hR⟩ := hc
  have tn : TameE 1000000 60 num := gn.tm.mono (by decide) (by decide)
  have tv : TameE 1000000 60 v := gv.tm.mono (by decide) (by decide)
  refine ⟨_, rfl, _, rfl, _, rfl, _, rfl, rfl, a, p, w', num, v, rfl, hob, hk, gn.nr.nr, gv.nr.nr, fun e1 e2 => ?_, fun h hd => ⟨fun e => ?_, fun e => ?_, fun e0 e1 => ⟨fun hb => ?_, fun z e z0 z1 m hm => ?_⟩⟩⟩
  · have hR := fun n' hs => hR n' hs
    rw [duD_no (vOk_no e1 e2)] at hR
    refine ⟨true, B.m_NoVersion_NoVersion, fun _ b dd => ?_, fun q => Bool.noConfusion q⟩
    refine ⟨_, rfl, rfl, C.NoVersion, _, false, rfl, caught_at, B.is_NoVersion, kitAny_no fun c hc => ?_, _, rfl, iteF (A := False) ?_⟩
    · simp only [List.mem_cons, List.not_mem_nil, or_false] at hc
      rcases hc with rfl | rfl | rfl | rfl
      · exact B.k_NoVersion_ValueError
      · exact B.k_NoVersion_NoGuest
      · exact B.k_NoVersion_NoPair
      · exact B.k_NoVersion_NoPlace
    exact ⟨_, rfl, rfl, C.NoVersion, _, _, rfl, caught_at, B.xf_NoVersion, rfl, _, rfl, rfl, tv, show (2 : Nat) ≤ sizeLine by decide, hR _ Sim.caught⟩
  · have hR := hR n Sim.rfl'
    rw [duD_at hk hd, e, ansW_0] at hR
    exact ⟨_, rfl, rfl, (tame_hl (hd.ok hk)).mono (by decide) (by decide), show (2 : Nat) ≤ sizeLine by decide, hR⟩
  · have hR := hR n Sim.rfl'
    rw [duD_at hk hd, e, ansW_1] at hR
    exact ⟨_, rfl, rfl, (tame_wk (hd.ok hk)).mono (by decide) (by decide), show (2 : Nat) ≤ sizeLine by decide, hR⟩
  · rw [duD_at hk hd, ansW_no e0 e1 hb] at hR
    refine ⟨false, B.m_BadNumber_NoVersion, fun q => Bool.noConfusion q, fun _ => ⟨true, B.m_BadNumber_PartyError, fun _ b dd => ?_, fun q => Bool.noConfusion q⟩⟩
    refine ⟨_, rfl, rfl, C.BadNumber, _, true, rfl, caught_at, B.is_BadNumber, B.k_BadNumber_BadNumber, _, rfl, iteT (B := False) ?_⟩
    refine ⟨_, rfl, rfl, C.BadNumber, _, true, rfl, caught_at, B.is_BadNumber, B.k_BadNumber_ValueError, _, rfl, iteT (B := False) ?_⟩
    refine ⟨_, rfl, rfl, C.BadNumber, _, false, rfl, caught_at, B.is_BadNumber, kitAny_no fun c hc => ?_, _, rfl, ?_⟩
    · simp only [List.mem_cons, List.not_mem_nil, or_false] at hc
      rcases hc with rfl | rfl
      · exact B.k_BadNumber_BadEdits
      · exact B.k_BadNumber_TooFewServed
    refine iteT (B := False) ?_
    exact ⟨_, rfl, rfl, C.BadNumber, _, _, rfl, caught_at, B.xf_BadNumber, rfl, _, rfl, rfl, tn, show (2 : Nat) ≤ sizeLine by decide, hR _ Sim.caught⟩
  · have hR := hR n Sim.rfl'
    subst e
    rw [duD_at hk hd, ansW_yes e0 e1 z0 z1 hm] at hR
    exact ⟨_, rfl, rfl, (tame_sure (hd.ok hk) hm z).mono (by decide) (by decide), show (2 : Nat) ≤ sizeLine by decide, hR⟩
abbrev s__law_is_within : Stmt := topS 73
abbrev N__law_is_within : List Str := ["value", "low", "high"]
theorem sc__law_is_within : FnScope N__law_is_within ["value", "low", "high"] (defScope s__law_is_within) := ⟨rfl, rfl, rfl, by decide +kernel, rfl, by decide +kernel, by decide +kernel⟩
theorem fn__law_is_within {f : Addr} {fd : FuncData} (F : Fun K "_law_is_within" "_law_is_within" s__law_is_within f fd) (B : Bn K mg C) : FnG P w K mg base 1 f fd ["value", "low", "high"] (spD K 3 c__law_is_within) := by
  refine fnd (k := 0) c__law_is_within F sc__law_is_within fun cdv A outer s H hgd0 hr Y => ?_
  have hu := hr.units
  have hu1 : (A.deeper (envOfC "_law_is_within" (defScope s__law_is_within) s.heap.objs.size f cdv)).units + 65 < cLine := by have := hr.un; omega
  have hu0 : (A.deeper (envOfC "_law_is_within" (defScope s__law_is_within) s.heap.objs.size f cdv)).units + 1 < cLine := by have := hr.un; omega
  have hgd : (A.deeper (envOfC "_law_is_within" (defScope s__law_is_within) s.heap.objs.size f cdv)).guards = some [] := hgd0
  refine ⟨_, (dss_one (ds_ret (we_and (we_isi (.inl rfl) (by rfl) B.isinstance (we_var 0) (by rfl) B.int PyProof.Rows.boot_int) (we_and (we_not (we_isi (.inr (.inl rfl)) (by rfl) B.isinstance (we_var 0) (by rfl) B.bool PyProof.Rows.boot_bool)) (we_one (we_chain op_le op_le bi_B0 bi_B0 (we_var 1) (we_var 0) (we_var 2))))))), fun as n R hl hc => ?_⟩
  obtain ⟨d, a, b, rfl, hnr, hR⟩ := hc
  cases d with
  | int z =>
    have hR : R (.bool (decide (a ≤ z) && decide (z ≤ b))) n := hR
    refine ⟨_, rfl, rfl, asB_T (isi_ii z) (iteT ⟨_, rfl, rfl, asB_F (isi_ib z) (asB_T (c := !false) rfl (iteT ⟨_, rfl, _, rfl, _, rfl, ?_⟩))⟩)⟩
    by_cases h : a ≤ z
    · rw [decide_eq_true h, Bool.true_and] at hR
      exact iteD h ⟨_, rfl, hR⟩
    · rw [decide_eq_false h, Bool.false_and] at hR
      exact ifF (decide_eq_false h) hR
  | bool b => exact ⟨_, rfl, rfl, asB_T (isi_bi b) (iteT ⟨_, rfl, rfl, asB_T (isi_bb b) hR⟩)⟩
  | none => exact ⟨_, rfl, rfl, asB_F (show isiB "NoneType" "int" = false by decide +kernel) hR⟩
  | str s => exact ⟨_, rfl, rfl, asB_F (show isiB "str" "int" = false by decide +kernel) hR⟩
  | list ds => exact ⟨_, rfl, rfl, asB_F (show isiB "list" "int" = false by decide +kernel) hR⟩
  | tuple ds => exact ⟨_, rfl, rfl, asB_F (show isiB "tuple" "int" = false by decide +kernel) hR⟩
  | dict kvs => exact ⟨_, rfl, isDR_dat hnr, asB_F (show isiB "dict" "int" = false by decide +kernel) hR⟩
abbrev s__law_walked : Stmt := topS 74
abbrev N__law_walked : List Str := ["hall", "feet", "pairs", "there", "found", "guest", "foot", "some", "size", "index", "one"]
theorem sc__law_walked : FnScope N__law_walked ["hall"] (defScope s__law_walked) := ⟨rfl, rfl, rfl, by decide +kernel, rfl, by decide +kernel, by decide +kernel⟩
theorem fn__law_walked {f : Addr} {fd : FuncData} (F : Fun K "_law_walked" "_law_walked" s__law_walked f fd) (B : Bn K mg C) : FnG P w K mg base 1 f fd ["hall"] (spD K 1 c__law_walked) := by
  refine fnd (k := 0) c__law_walked F sc__law_walked fun cdv A outer s H hgd0 hr Y => ?_
  have hu := hr.units
  have hu1 : (A.deeper (envOfC "_law_walked" (defScope s__law_walked) s.heap.objs.size f cdv)).units + 65 < cLine := by have := hr.un; omega
  have hu0 : (A.deeper (envOfC "_law_walked" (defScope s__law_walked) s.heap.objs.size f cdv)).units + 1 < cLine := by have := hr.un; omega
  have hgd : (A.deeper (envOfC "_law_walked" (defScope s__law_walked) s.heap.objs.size f cdv)).guards = some [] := hgd0
  refine ⟨_, (dss_cons (ds_asgG (we_var 0) ⟨(pg_tup rfl (pgs_cons (pg_name (i := 1) sc__law_walked.nd rfl (Or.inl rfl)) (pgs_cons (pg_name (i := 2) sc__law_walked.nd rfl (Or.inl rfl)) pgs_nil))), gok_two⟩) (dss_cons (ds_par (i := 3) (j := 4) rfl sc__law_walked.nd rfl rfl (by decide) rfl rfl (xe_d (we_ofM (me_lstEn rfl (by rfl) B.list (by rfl) B.enumerate (wa_cons (we_var 2) wa_nil)))) (xe_m (me_lst wa_nil)) (by rfl)) (dss_cons (ds_for PassesOwn.never rfl (di_enumA (by rfl) B.enumerate (wa_cons (we_var 1) wa_nil)) ⟨(pg_tup rfl (pgs_cons (pg_name (i := 5) sc__law_walked.nd rfl (Or.inl rfl)) (pgs_cons (pg_name (i := 6) sc__law_walked.nd rfl (Or.inr rfl)) pgs_nil))), gok_two⟩ (dss_cons (ds_set (i := 7) sc__law_walked.nd rfl (Or.inr rfl) (xe_d (we_ofM (me_callB cr_sortedPO ck_sortP (by rfl) B.sorted PyProof.Rows.boot_sorted (wa_cons (we_ofM (me_compV (own := [("index", 9), ("size", 8)]) rfl sc__law_walked.nd (di_seqV (we_var 3)) (blkOk_by (N := N__law_walked) (sc := defScope s__law_walked) (by decide +kernel)) gok_two (fun _ _ _ _ _ => (pg_tup rfl (pgs_cons (pg_name (i := 9) sc__law_walked.nd rfl (Or.inl rfl)) (pgs_cons (pg_name (i := 8) sc__law_walked.nd rfl (Or.inl rfl)) pgs_nil)))) (fun _ _ _ _ _ => (wts_one (wt_cmp op_ge bi_B0 (we_var 8) (we_var 6) (nomark _)))) (fun _ _ _ _ _ => (we_tup (wa_cons (we_var 8) (wa_cons (we_var 9) wa_nil)))) (by decide))) wa_nil))))) (dss_cons (ds_set (i := 8) sc__law_walked.nd rfl (Or.inl rfl) (xe_d we_int)) (dss_cut (ds_if (wt_cmp (or_neNil hu) bi_neNil (we_var 7) (we_ofM (me_lst wa_nil)) (nomark _)) (dss_cons (ds_set (i := 8) sc__law_walked.nd rfl (Or.inl rfl) (xe_d (we_ix (we_ix (we_var 7) we_int (fun _ _ => rfl)) we_int (fun _ _ => rfl)))) (dss_one (ds_setLcV (i := 3) (u := xD (dOfM _)) (hyl := rfl) (hy := rfl) (hsw := sw_true rfl rfl rfl (by decide +kernel)) (hu := lc_dat) (own := [("one", 10)]) (hc := rfl) (hN := sc__law_walked.nd) (hi := (di_seqV (we_var 3))) (ok := (blkOk_by (N := N__law_walked) (sc := defScope s__law_walked) (by decide +kernel))) (hk := gok_name) (hg := fun _ _ _ _ _ => (pg_name (i := 10) sc__law_walked.nd rfl (Or.inl rfl))) (ht := fun _ _ _ _ _ => (wts_one (wt_cmp (or_neA hu) bi_neA (we_ix (we_var 10) we_int (fun _ _ => rfl)) (we_ix (we_ix (we_var 7) we_int (fun _ _ => rfl)) we_int (fun _ _ => rfl)) (nomark _)))) (he := fun _ _ _ _ _ => (we_var 10)) (hv := by decide)))) dss_nil) (dss_one (ds_append (pv 4) (we_tup (wa_cons (we_var 5) (wa_cons (we_var 8) (wa_cons (we_callTy call_tuple_of ck_tuple (by rfl) B.tuple PyProof.Rows.boot_tuple (wa_cons (we_ofM (me_compV (own := [("one", 10)]) rfl sc__law_walked.nd (di_seqV (we_var 3)) (blkOk_by (N := N__law_walked) (sc := defScope s__law_walked) (by decide +kernel)) gok_name (fun _ _ _ _ _ => (pg_name (i := 10) sc__law_walked.nd rfl (Or.inl rfl))) (fun _ _ _ _ _ => wts_nil) (fun _ _ _ _ _ => (we_ix (we_var 10) we_int (fun _ _ => rfl))) (by decide))) wa_nil)) wa_nil)))))))))) (dss_one (ds_retM (pv 4)))))), fun as n R hl hc => ?_⟩
  obtain ⟨h, rfl, hh, hR⟩ := hc
  obtain ⟨F1, P1⟩ := h
  have l1 : F1.length ≤ 20 := hh.l1
  have l2 : P1.length ≤ 20 := hh.l2
  have rv : RunV (Lx (getI P1)) F1 P1 (smallR F1 P1) := ruled_runV (getI P1) F1 P1 (.refl _)
  have rfs : (smallR F1 P1).map (·.1) = intsN F1.length := (ruled_ok (getI P1) F1 P1 (intsN F1.length)).2
  have hR : R (.list (walkD P1 (smallR F1 P1))) n := hR
  generalize smallR F1 P1 = run at rv rfs hR
  have rl : run.length = F1.length := by have := congrArg List.length rfs; rwa [List.length_map, intsN_len] at this
  refine ⟨_, rfl, .tuple (F1.map .int), .tuple (P1.map .int), rfl, ?_⟩
  refine ⟨_, rfl, _, rfl, Nat.zero_le _, _, rfl, _, _, rfl, rfl, ?_⟩
  refine forR_inv (fun k ρ n' => n' = n ∧ ∃ b5 b6 b7 b8 b9 b10, ρ = [some (.dat (halD (F1, P1))), some (.dat (.tuple (F1.map .int))), some (.dat (.tuple (P1.map .int))), some (.dat (.list ((leftL P1.length (run.take k)).map fun j => .tuple [.int j, .int (getI P1 j)]))), some (.mt ((walkD P1 run).take k)), b5, b6, b7, b8, b9, b10]) ⟨rfl, none, none, none, none, none, none, ?_⟩ ?_ ?_
  · rw [enum_ints]
    have e0 : leftL P1.length (run.take 0) = intsN P1.length := by unfold leftL; simp
    rw [e0]
    rfl
  · rintro k y ρ n' hy ⟨rfl, b5, b6, b7, b8, b9, b10, rfl⟩
    obtain ⟨d, q1, rfl⟩ := enumD_get hy
    rw [List.getElem?_map] at q1
    obtain ⟨f, hf, rfl⟩ := Option.map_eq_some_iff.mp q1
    have hk : k < F1.length := (List.getElem?_eq_some_iff.mp hf).1
    obtain ⟨⟨g, j⟩, hq⟩ : ∃ q, run[k]? = some q := ⟨_, List.getElem?_eq_getElem (by omega)⟩
    have hg : g = (k : Int) := by
      have h1 : (run.map (·.1))[k]? = some g := by rw [List.getElem?_map, hq]; rfl
      rw [rfs] at h1
      have h2 : (intsN F1.length)[k]? = some (k : Int) := by unfold intsN; rw [List.getElem?_map, List.getElem?_range hk]; rfl
      exact Option.some.inj (h1.symm.trans h2)
    have hfg : getI F1 g = f := by unfold getI; rw [hg, Int.toNat_natCast, hf]; rfl
    have hll := left_le P1.length (run.take k)
    refine ⟨_, _, rfl, ?_⟩
    refine ⟨_, rfl, _, rfl, compR_p (leftL P1.length (run.take k)) (fun j => .tuple [.int j, .int (getI P1 j)]) (fun j => decide (f ≤ getI P1 j)) (fun j => prD (getI P1 j, j)) (small1000 (by omega)) (fun x hx acc KK hK => ⟨_, _, rfl, _, rfl, _, rfl, _, rfl, ite_imp (fun h => ⟨_, rfl, _, rfl, by show 2 ≤ sizeLine; decide, h⟩) id hK⟩) ?_⟩
    refine ⟨_, ((leftL P1.length (run.take k)).filter fun i => decide (f ≤ getI P1 i)).map fun i => (getI P1 i, i), rfl, by rw [List.map_map]; rfl, fun qs hp hs => ?_⟩
    have hst := walk_step rv hq (by rw [hfg]; exact hp) hs
    refine ⟨fun ρ n2 => n2 = n' ∧ ∃ b9 b10, ρ = [some (.dat (halD (F1, P1))), some (.dat (.tuple (F1.map .int))), some (.dat (.tuple (P1.map .int))), some (.dat (.list ((leftL P1.length (run.take (k + 1))).map fun j => .tuple [.int j, .int (getI P1 j)]))), some (.mt ((walkD P1 run).take k)), some (.dat (.int (k : Nat))), some (.dat (.int f)), some (.dat (.list (qs.map prD))), some (.dat (.int (if j = -1 then 0 else getI P1 j))), b9, b10], ?_, ?_⟩
    · rcases hst with ⟨rfl, rfl⟩ | ⟨rest, rfl, hj⟩
      · refine ⟨_, rfl, Nat.zero_le _, _, rfl, rfl, rfl, _, rfl, ?_⟩
        refine ifF rfl ⟨rfl, b9, b10, ?_⟩
        have hnm : (-1 : Int) ∉ leftL P1.length (run.take k) := fun hm => by
          have := (mem_intsN (List.mem_filter.mp hm).1).1
          omega
        rw [left_next hq, List.erase_of_not_mem hnm]
        rfl
      · refine ⟨_, rfl, Nat.zero_le _, _, rfl, rfl, rfl, _, rfl, ?_⟩
        have a0 : atI (((getI P1 j, j) :: rest).map prD) 0 = some (.tuple [.int (getI P1 j), .int j]) := atI_head
        refine ifT rfl ⟨_, rfl, 0, _, rfl, a0, 0, _, rfl, rfl, ?_⟩
        refine ⟨_, rfl, _, rfl, compR_p (leftL P1.length (run.take k)) (fun j => .tuple [.int j, .int (getI P1 j)]) (fun o => decide (o ≠ j)) (fun j => .tuple [.int j, .int (getI P1 j)]) (small1000 (by omega)) (fun x hx acc KK hK => ⟨_, rfl, 0, _, rfl, rfl, _, rfl, 0, _, rfl, a0, 1, _, rfl, rfl, rfl, rfl, sh_int _, sh_int _, _, rfl, ?_⟩) ?_⟩
        · by_cases c : x = j
          · rw [if_neg (by simp [c])] at hK
            exact ifN (b := PyData.eqv (.int x) (.int j)) ((eqv_int _ _).trans (decide_eq_true c)) hK
          · rw [if_pos (decide_eq_true c)] at hK
            exact ifNF (b := PyData.eqv (.int x) (.int j)) ((eqv_int _ _).trans (decide_eq_false c)) ⟨_, rfl, hK⟩
        rw [left_filter hq]
        refine ⟨rfl, b9, b10, ?_⟩
        rw [if_neg hj]
        rfl
    · rintro ρ n2 ⟨rfl, b9, b10, rfl⟩
      have hl2 := left_le P1.length (run.take (k + 1))
      refine ⟨_, rfl, _, rfl, _, rfl, _, rfl, _, rfl, compR_m (leftL P1.length (run.take (k + 1))) (fun j => .tuple [.int j, .int (getI P1 j)]) (fun j => .int (getI P1 j)) (small1000 (by omega)) (fun x hx acc KK ha hK => ?_) ?_⟩
      · exact ⟨_, rfl, 1, _, rfl, rfl, ha, hK⟩
      refine ⟨_, _, rfl, rfl, by show 3 ≤ sizeLine; decide, ?_⟩
      have hkl := (List.getElem?_eq_some_iff.mp hq).1
      refine ⟨by rw [List.length_take, walk_len, sizeLine_eq]; omega, rfl, some (.dat (.int (k : Nat))), some (.dat (.int f)), some (.dat (.list (qs.map prD))), some (.dat (.int (if j = -1 then 0 else getI P1 j))), b9, b10, ?_⟩
      rw [walk_take hq, ← hg]
      rfl
  · rintro ρ n' ⟨rfl, b5, b6, b7, b8, b9, b10, rfl⟩
    have e1 : (walkD P1 run).take (enumD (F1.map PyData.int)).length = walkD P1 run := List.take_of_length_le (by rw [enumD_length, List.length_map, walk_len, rl]; exact Nat.le_refl _)
    rw [e1]
    exact ⟨_, rfl, hR⟩
abbrev s__law_expected : Stmt := topS 77
abbrev N__law_expected : List Str := ["halls", "way", "number", "past", "hall"]
theorem sc__law_expected : FnScope N__law_expected ["halls", "way", "number", "past"] (defScope s__law_expected) := ⟨rfl, rfl, rfl, by decide +kernel, rfl, by decide +kernel, by decide +kernel⟩
theorem fn__law_expected {f : Addr} {fd : FuncData} (F : Fun K "_law_expected" "_law_expected" s__law_expected f fd) (B : Bn K mg C) (H__law_is_within : Has P w K mg base "_law_is_within" 1 ["value", "low", "high"] c__law_is_within) (H_sure_certificate : Has P w K mg base "sure_certificate" 4 ["hall", "number"] c_sure_certificate) (H__law_walked : Has P w K mg base "_law_walked" 1 ["hall"] c__law_walked) : FnG P w K mg base 5 f fd ["halls", "way", "number", "past"] (spD K 4 c__law_expected) := by
  refine fnd (k := 4) c__law_expected F sc__law_expected fun cdv A outer s H hgd0 hr Y => ?_
  have hu := hr.units
  have hu1 : (A.deeper (envOfC "_law_expected" (defScope s__law_expected) s.heap.objs.size f cdv)).units + 65 < cLine := by have := hr.un; omega
  have hu0 : (A.deeper (envOfC "_law_expected" (defScope s__law_expected) s.heap.objs.size f cdv)).units + 1 < cLine := by have := hr.un; omega
  have hgd : (A.deeper (envOfC "_law_expected" (defScope s__law_expected) s.heap.objs.size f cdv)).guards = some [] := hgd0
  refine ⟨_, (dss_cons (ds_if (wt_w (ww_and (wt_cmp op_notN bi_notN (we_var 3) we_non (nomark _)) (ww_and1 (wt_not (wt_val (we_has H__law_is_within hgd (hr.mono (by decide)) (by rfl) (wa_cons (we_var 3) (wa_cons we_int (wa_cons (we_bin op_sub bi_I0 (we_callB call_len_seq ck_len (by rfl) B.len PySem.boot_len (wa_cons (we_var 0) wa_nil)) we_int) wa_nil))))))))) (dss_one (ds_ret (we_ofM (me_lst (wa_cons we_str (wa_cons (we_callB (call_reprE hgd hu) ck_reprE (by rfl) B.repr PyProof.Rows.boot_repr (wa_cons (we_var 3) wa_nil)) wa_nil)))))) dss_nil) (dss_cons (ds_set (i := 4) sc__law_expected.nd rfl (Or.inl rfl) (xe_d (we_ix (we_var 0) (we_if (wt_cmp op_isN bi_isN (we_var 3) we_non (nomark _)) (we_neg we_int) (we_var 3)) (fun _ _ => rfl)))) (dss_cons (ds_if (wt_cmp (or_eqA hu) bi_eqA (we_var 1) we_int (nomark _)) (dss_one (ds_ret (we_ofM (me_lst (wa_cons we_str (wa_cons (we_callB (call_reprE hgd hu) ck_reprE (by rfl) B.repr PyProof.Rows.boot_repr (wa_cons (we_var 4) wa_nil)) wa_nil)))))) dss_nil) (dss_cons (ds_if (wt_cmp (or_eqA hu) bi_eqA (we_var 1) we_int (nomark _)) (dss_one (ds_ret (we_ofM (me_lst (wa_cons we_str (wa_cons (we_callB (call_reprE hgd hu) ck_reprE (by rfl) B.repr PyProof.Rows.boot_repr (wa_cons (we_has H__law_walked hgd (hr.mono (by decide)) (by rfl) (wa_cons (we_var 4) wa_nil)) wa_nil)) wa_nil)))))) dss_nil) (dss_cons (ds_if (wt_not (wt_val (we_has H__law_is_within hgd (hr.mono (by decide)) (by rfl) (wa_cons (we_var 2) (wa_cons we_int (wa_cons we_int wa_nil)))))) (dss_one (ds_ret (we_ofM (me_lst (wa_cons we_str (wa_cons (we_callB (call_reprE hgd hu) ck_reprE (by rfl) B.repr PyProof.Rows.boot_repr (wa_cons (we_var 2) wa_nil)) wa_nil)))))) dss_nil) (dss_one (ds_ret (we_ofM (me_lst (wa_cons we_str (wa_cons (we_callB (call_reprE hgd hu) ck_reprE (by rfl) B.repr PyProof.Rows.boot_repr (wa_cons (we_has H_sure_certificate hgd (hr.mono (by decide)) (by rfl) (wa_cons (we_var 4) (wa_cons (we_var 2) wa_nil))) wa_nil)) wa_nil))))))))))), fun as n R hl hc => ?_⟩
  obtain ⟨p, w', num, v, rfl, hk, gn, gv, hR⟩ := hc
  have tn : TameE 1000000 60 num := gn.tm.mono (by decide) (by decide)
  have tv : TameE 1000000 60 v := gv.tm.mono (by decide) (by decide)
  have hlen := hk.len
  have el : ((p.hs.map halD).length : Nat) = p.hs.length := List.length_map ..
  have ez : (((p.hs.map halD).length : Nat) : Int) - 1 = (p.done.length : Nat) := by rw [el, hlen]; omega
  refine ⟨_, rfl, rfl, rfl, _, rfl, ?_⟩
  rcases at_or hk v with ⟨e1, e2⟩ | ⟨h, hd⟩
  · show if (!isN v) = true then _ else _
    rw [isN_no e1]
    rw [duD_no (vOk_no e1 e2)] at hR
    refine iteT ⟨_, rfl, _, rfl, _, _, rfl, rfl, rfl, v, 0, p.done.length, ?_, gv.nr.nr, _, rfl, ?_⟩
    · show [Dv.dat v, Dv.dat (PyData.int 0), Dv.dat (.int (((p.hs.map halD).length : Nat) - 1))] = _
      rw [ez]
    show if (!numIn v 0 p.done.length) = true then _ else _
    rw [e2]
    exact iteT ⟨_, rfl, _, rfl, rfl, tv, by show 2 ≤ sizeLine; decide, hR⟩
  · rw [duD_at hk hd] at hR
    have hlk := hd.look hk
    refine iteB (b := !isN v) _ ?_ (fun hb x => ?_) (fun hb x => ifF rfl x)
    rotate_left
    · refine ⟨_, rfl, _, rfl, _, _, rfl, rfl, rfl, v, 0, p.done.length, ?_, gv.nr.nr, _, rfl, ?_⟩
      · show [Dv.dat v, Dv.dat (PyData.int 0), Dv.dat (.int (((p.hs.map halD).length : Nat) - 1))] = _
        rw [ez]
      show if (!numIn v 0 p.done.length) = true then _ else _
      rw [hd.within hk (by simpa using hb)]
      exact iteF (A := _) x
    refine ⟨_, rfl, _, rfl, rfl, rfl, _, rfl, ?_⟩
    show if isN v = true then _ else _
    refine iteB (b := isN v) _ ?_ (fun hb x => ⟨-1, halD h, rfl, hlk.1 hb, x⟩) (fun hb x => let ⟨i, e, q⟩ := hlk.2 hb; ⟨_, rfl, i, _, by rw [e], q, x⟩)
    have hh := hd.ok hk
    refine ⟨_, rfl, rfl, rfl, sh_int _, sh_int _, _, rfl, ?_⟩
    by_cases w0 : w' = 0
    · rw [w0, ansW_0] at hR
      exact ifT ((eqv_int _ _).trans (decide_eq_true w0)) ⟨_, rfl, _, rfl, rfl, (tame_hl hh).mono (by decide) (by decide), by show 2 ≤ sizeLine; decide, hR⟩
    refine ifF ((eqv_int _ _).trans (decide_eq_false w0)) ?_
    refine ⟨_, rfl, rfl, rfl, sh_int _, sh_int _, _, rfl, ?_⟩
    by_cases w1 : w' = 1
    · rw [w1, ansW_1] at hR
      exact ifT ((eqv_int _ _).trans (decide_eq_true w1)) ⟨_, rfl, rfl, h, rfl, hh, _, rfl, rfl, (tame_wk hh).mono (by decide) (by decide), by show 2 ≤ sizeLine; decide, hR⟩
    refine ifF ((eqv_int _ _).trans (decide_eq_false w1)) ?_
    refine ⟨_, rfl, rfl, num, 0, 1000, rfl, gn.nr.nr, _, rfl, ?_⟩
    show if (!numIn num 0 1000) = true then _ else _
    cases hb : numIn num 0 1000 with
    | false =>
      rw [ansW_no w0 w1 hb] at hR
      exact iteT ⟨_, rfl, _, rfl, rfl, tn, by show 2 ≤ sizeLine; decide, hR⟩
    | true =>
      obtain ⟨z, rfl, z0, z1⟩ := numIn_true hb
      refine iteF (A := _) ?_
      refine ⟨_, rfl, _, rfl, rfl, h.1, h.2, z, rfl, hh.ok, fun m hm => ?_⟩
      rw [ansW_yes w0 w1 z0 z1 hm] at hR
      exact ⟨_, rfl, rfl, (tame_sure hh hm z).mono (by decide) (by decide), by show 2 ≤ sizeLine; decide, hR⟩
abbrev s_Party_undo : Stmt := inCls (topS 63) 12
abbrev N_Party_undo : List Str := ["self"]
theorem sc_Party_undo : FnScope N_Party_undo ["self"] (defScope s_Party_undo) := ⟨rfl, rfl, rfl, by decide +kernel, rfl, by decide +kernel, by decide +kernel⟩
theorem fn_Party_undo {f : Addr} {fd : FuncData} (F : Fun K "undo" "Party.undo" s_Party_undo f fd) (B : Bn K mg C) (HM__ask_idle : HasM P w K mg base (fun D => D = C.Party) "_ask_idle" 3 ["self"] (fun _ => c_Party__ask_idle C)) (HM__stand : HasM P w K mg base (fun D => D = C.Party) "_stand" 4 ["self", "halls", "done"] (fun _ => c_Party__stand C)) : FnGX P w K mg base 5 f fd ["self"] (spDX K 1 (c_Party_undo C)) := by
  refine fndX (k := 4) (c_Party_undo C) F sc_Party_undo fun cdv A outer s H Eh hgd0 hr Y E ok tk => ?_
  have hu := hr.units
  have hu1 : (A.deeper (envOfC "Party.undo" (defScope s_Party_undo) s.heap.objs.size f cdv)).units + 65 < cLine := by have := hr.un; omega
  have hu0 : (A.deeper (envOfC "Party.undo" (defScope s_Party_undo) s.heap.objs.size f cdv)).units + 1 < cLine := by have := hr.un; omega
  have hgd : (A.deeper (envOfC "Party.undo" (defScope s_Party_undo) s.heap.objs.size f cdv)).guards = some [] := hgd0
  refine ⟨_, (dss_cons (ds_expr (we_meth0 (pl := _) tk ok HM__ask_idle hgd (hr.mono (by decide)) (we_var 0))) (dss_cons (ds_if (wt_not (wt_tru (we_fld (we_var 0)))) (dss_one (ds_raise0 rfl tk ok B.e_NothingToUndo (by rfl))) dss_nil) (dss_cons (ds_expr (we_meth (pl := _) tk ok HM__stand hgd (hr.mono (by decide)) (we_var 0) (wa_cons (we_slice (we_fld (we_var 0)) wo_none (wo_some (we_neg we_int))) (wa_cons (we_slice (we_fld (we_var 0)) wo_none (wo_some (we_neg we_int))) wa_nil)))) (dss_one (ds_ret (we_callB call_len_seq ck_len (by rfl) B.len PySem.boot_len (wa_cons (we_fld (we_var 0)) wa_nil))))))), fun as n R hl hc => ?_⟩
  obtain ⟨a, p, rfl, hob, hk, hB, hI⟩ := hc
  refine ⟨_, rfl, a, _, rfl, hob, rfl, rfl, rfl, a, p, rfl, hob, fun q => ?_, hB⟩
  obtain ⟨hE, hR⟩ := hI q
  refine ⟨_, rfl, a, _, _, rfl, hob, B.fl_Party__done, rfl, ?_⟩
  cases e : p.done with
  | nil => exact iteT (B := False) (hE e)
  | cons d ds =>
    have hne : p.done ≠ [] := by rw [e]; nofun
    refine iteF (A := False) ?_
    obtain ⟨h', hl, hh⟩ := back_last hk hne
    refine ⟨_, rfl, a, _, rfl, hob, rfl, rfl, _, rfl, a, _, _, rfl, hob, B.fl_Party__halls, rfl, -1, rfl, ?_⟩
    refine ⟨_, rfl, a, _, _, rfl, hob, B.fl_Party__done, rfl, -1, rfl, ?_⟩
    refine ⟨rfl, a, p.busy, h', p.hs.dropLast, p.done.dropLast, _, ?_, hob, .inr ⟨p, rfl, rfl⟩, hl, hh, fun m f hm hf => ?_⟩
    · show [_, Dv.dat (.tuple (cutG (p.hs.map halD) none (some (-1)))), Dv.dat (.tuple (cutG p.done none (some (-1))))] = _
      rw [cut_init, cut_init, List.map_dropLast]
    · refine ⟨_, rfl, a, _, _, rfl, Wo.put_at, B.fl_Party__done, rfl, _, _, rfl, rfl, ?_⟩
      have hR := hR hne h' m f hl hm hf
      show R (.int (p.done.dropLast.length : Nat)) _
      have l1 := List.length_pos_iff.mpr hne
      rw [List.length_dropLast, show (((p.done.length - 1 : Nat)) : Int) = p.done.length - 1 by omega]
      exact hR
abbrev s__law_ends : Stmt := topS 69
abbrev N__law_ends : List Str := ["hall", "feet", "pairs", "small", "great", "fewest", "sums", "size", "place", "foot", "pair"]
theorem sc__law_ends : FnScope N__law_ends ["hall"] (defScope s__law_ends) := ⟨rfl, rfl, rfl, by decide +kernel, rfl, by decide +kernel, by decide +kernel⟩
theorem fn__law_ends {f : Addr} {fd : FuncData} (F : Fun K "_law_ends" "_law_ends" s__law_ends f fd) (B : Bn K mg C) : FnG P w K mg base 1 f fd ["hall"] (spD K 1 c__law_ends) := by
  refine fnd (k := 0) c__law_ends F sc__law_ends fun cdv A outer s H hgd0 hr Y => ?_
  have hu := hr.units
  have hu1 : (A.deeper (envOfC "_law_ends" (defScope s__law_ends) s.heap.objs.size f cdv)).units + 65 < cLine := by have := hr.un; omega
  have hu0 : (A.deeper (envOfC "_law_ends" (defScope s__law_ends) s.heap.objs.size f cdv)).units + 1 < cLine := by have := hr.un; omega
  have hgd : (A.deeper (envOfC "_law_ends" (defScope s__law_ends) s.heap.objs.size f cdv)).guards = some [] := hgd0
  refine ⟨_, (dss_cons (ds_asgG (we_var 0) ⟨(pg_tup rfl (pgs_cons (pg_name (i := 1) sc__law_ends.nd rfl (Or.inl rfl)) (pgs_cons (pg_name (i := 2) sc__law_ends.nd rfl (Or.inl rfl)) pgs_nil))), gok_two⟩) (dss_cons (ds_par (i := 3) (j := 4) rfl sc__law_ends.nd rfl rfl (by decide) rfl rfl (xe_d (we_ofM (me_callB cr_sortIT ck_sortIT (by rfl) B.sorted PyProof.Rows.boot_sorted (wa_cons (we_var 1) wa_nil)))) (xe_d (we_revL (we_ofM (me_callB cr_sortIT ck_sortIT (by rfl) B.sorted PyProof.Rows.boot_sorted (wa_cons (we_var 2) wa_nil))))) (by rfl)) (dss_cons (ds_set (i := 5) sc__law_ends.nd rfl (Or.inl rfl) (xe_d (we_callB call_len_seq ck_len (by rfl) B.len PySem.boot_len (wa_cons (we_ofM (me_compV (own := [("foot", 9), ("pair", 10)]) rfl sc__law_ends.nd (div_of (di_zip (by rfl) B.zip (wa_cons (we_var 3) (wa_cons (we_var 4) wa_nil)))) (blkOk_by (N := N__law_ends) (sc := defScope s__law_ends) (by decide +kernel)) gok_two (fun _ _ _ _ _ => (pg_tup rfl (pgs_cons (pg_name (i := 9) sc__law_ends.nd rfl (Or.inl rfl)) (pgs_cons (pg_name (i := 10) sc__law_ends.nd rfl (Or.inl rfl)) pgs_nil)))) (fun _ _ _ _ _ => (wts_one (wt_cmp op_ge bi_B0 (we_var 10) (we_var 9) (nomark _)))) (fun _ _ _ _ _ => we_int) (by decide))) wa_nil)))) (dss_cons (ds_set (i := 6) sc__law_ends.nd rfl (Or.inl rfl) (xe_m (me_lst (wa_cons (we_callB call_len_seq ck_len (by rfl) B.len PySem.boot_len (wa_cons (we_var 1) wa_nil)) wa_nil)))) (dss_cons (ds_for PassesOwn.never rfl (di_seq (we_bin or_addA bi_add (we_var 1) (we_var 2))) ⟨(pg_name (i := 7) sc__law_ends.nd rfl (Or.inl rfl)), gok_name⟩ (dss_one (ds_for PassesOwn.never rfl (di_seq (we_tup (wa_cons (we_var 7) (wa_cons (we_bin or_addA bi_add (we_var 7) we_int) wa_nil)))) ⟨(pg_name (i := 8) sc__law_ends.nd rfl (Or.inr rfl)), gok_name⟩ (dss_one (ds_append (pv 6) (we_bin or_addA bi_add (we_callB call_len_seq ck_len (by rfl) B.len PySem.boot_len (wa_cons (we_ofM (me_compV (own := [("foot", 9)]) rfl sc__law_ends.nd (di_seqV (we_var 1)) (blkOk_by (N := N__law_ends) (sc := defScope s__law_ends) (by decide +kernel)) gok_name (fun _ _ _ _ _ => (pg_name (i := 9) sc__law_ends.nd rfl (Or.inl rfl))) (fun _ _ _ _ _ => (wts_one (wt_cmp op_lt bi_B0 (we_var 9) (we_var 8) (nomark _)))) (fun _ _ _ _ _ => we_int) (by decide))) wa_nil)) (we_callB call_len_seq ck_len (by rfl) B.len PySem.boot_len (wa_cons (we_ofM (me_compV (own := [("pair", 10)]) rfl sc__law_ends.nd (di_seqV (we_var 2)) (blkOk_by (N := N__law_ends) (sc := defScope s__law_ends) (by decide +kernel)) gok_name (fun _ _ _ _ _ => (pg_name (i := 10) sc__law_ends.nd rfl (Or.inl rfl))) (fun _ _ _ _ _ => (wts_one (wt_cmp op_ge bi_B0 (we_var 10) (we_var 8) (nomark _)))) (fun _ _ _ _ _ => we_int) (by decide))) wa_nil)))))))) (dss_one (ds_ret (we_ofM (me_lst (wa_cons (we_var 5) (wa_cons (we_callB (call_minA rfl) ck_min (by rfl) B.min PyProof.Rows.boot_min (wa_cons (we_var 6) wa_nil)) wa_nil))))))))))), fun as n R hl hc => ?_⟩
  obtain ⟨⟨feet, pairs⟩, rfl, hk, hR⟩ := hc
  have ok := hk.ok
  have hf40 : feet.length ≤ 40 := ok.f2
  have hp40 : pairs.length ≤ 40 := ok.p2
  refine ⟨_, rfl, _, _, rfl, ?_⟩
  refine ⟨_, rfl, _, feet, rfl, rfl, fun G hG hGs => ⟨_, rfl, _, pairs, rfl, rfl, fun Q hQ hQs => ⟨_, rfl, ?_⟩⟩⟩
  have hl : (G.zip Q.reverse).length ≤ 40 := by rw [List.length_zip, hG.length_eq]; omega
  refine ⟨_, rfl, _, rfl, _, _, rfl, ?_⟩
  rw [← List.map_reverse, zip_enc]
  refine compR_p (G.zip Q.reverse) _ (fun q => decide (q.1 ≤ q.2)) (fun _ => .int 1) (line1000 (by omega)) (fun x hx acc KK hK => ⟨_, _, rfl, _, rfl, _, rfl, _, rfl, hK⟩) ?_
  refine ⟨_, _, rfl, rfl, ?_⟩
  have e1 : (((G.zip Q.reverse).filter fun q => decide (q.1 ≤ q.2)).map fun _ => PyData.int 1).length = cz G Q.reverse := by
    rw [List.length_map, ← cz_count, List.count_eq_length_filter, List.filter_map, List.length_map]
    congr 1
    exact List.filter_congr fun q _ => by simp
  have hfew := (few_of_cz (top := 1000001) hG ((List.reverse_perm Q).trans hQ) hGs (rev_desc hQs) fun x hx => by have := ok.pi x hx; omega).1
  rw [e1]
  refine ⟨_, rfl, _, _, rfl, rfl, by show 1 ≤ sizeLine; decide, ?_⟩
  refine ⟨_, rfl, _, rfl, line1000 (by rw [List.length_map, List.length_map]; show feet.length + pairs.length ≤ 1000; omega), _, rfl, ?_⟩
  rw [← List.map_append]
  refine forR_inv (fun k ρ n' => n' = n ∧ ∃ sums : List Int, SumsOk feet pairs ((feet ++ pairs).take k) sums (1 + 2 * k) ∧ ∃ a7 a8 a9 a10, ρ = [some (.dat (halD (feet, pairs))), some (.dat (sizesD feet)), some (.dat (sizesD pairs)), some (.dat (.list (G.map .int))), some (.dat (.list (Q.reverse.map .int))), some (.dat (.int (cz G Q.reverse : Nat))), some (.mt (sums.map .int)), a7, a8, a9, a10])
    ⟨rfl, [(feet.length : Int)], .start ok.fi ok.pi, none, none, none, none, by rw [List.map_cons, List.map_nil]; rw [show ((feet.map PyData.int).length) = feet.length from List.length_map ..]; rfl⟩ ?_ ?_
  · rintro k x ρ n' hx ⟨rfl, sums, hs, a7, a8, a9, a10, rfl⟩
    obtain ⟨z, hz, rfl⟩ := map_get hx
    have hkl := (List.getElem?_eq_some_iff.mp hz).1
    rw [List.length_append] at hkl
    have hkl : k < feet.length + pairs.length := hkl
    refine ⟨_, rfl, _, rfl, by show 2 ≤ sizeLine; decide, _, rfl, ?_⟩
    refine forR_inv (fun k2 ρ n2 => n2 = n' ∧ ∃ sums : List Int, SumsOk feet pairs ((feet ++ pairs).take k) sums (1 + 2 * k + k2) ∧ (1 ≤ k2 → ((cF feet z : Int) + cP pairs z) ∈ sums) ∧ ∃ a8 a9 a10, ρ = [some (.dat (halD (feet, pairs))), some (.dat (sizesD feet)), some (.dat (sizesD pairs)), some (.dat (.list (G.map .int))), some (.dat (.list (Q.reverse.map .int))), some (.dat (.int (cz G Q.reverse : Nat))), some (.mt (sums.map .int)), some (.dat (.int z)), a8, a9, a10])
      ⟨rfl, sums, hs, fun h => absurd h (by decide), a8, a9, a10, rfl⟩ ?_ ?_
    · rintro k2 x ρ n2 hx2 ⟨rfl, sums, hs, hin, a8, a9, a10, rfl⟩
      obtain ⟨v, rfl, hv, hk2⟩ : ∃ v : Int, x = .int v ∧ (k2 = 0 → v = z) ∧ k2 < 2 := by
        rcases k2 with _ | _ | k2
        · exact ⟨z, (Option.some.inj hx2).symm, fun _ => rfl, by decide⟩
        · exact ⟨z + 1, (Option.some.inj hx2).symm, fun h => absurd h (by decide), by decide⟩
        · cases hx2
      refine ⟨_, rfl, _, rfl, _, rfl, compR_p feet .int (fun x => decide (x < v)) (fun _ => .int 1) (line1000 (by omega)) (fun x hx acc KK hK => ⟨_, rfl, _, rfl, _, rfl, hK⟩) ?_⟩
      refine ⟨_, _, rfl, rfl, _, rfl, _, rfl, compR_p pairs .int (fun x => decide (v ≤ x)) (fun _ => .int 1) (line1000 (by omega)) (fun x hx acc KK hK => ⟨_, rfl, _, rfl, _, rfl, hK⟩) ?_⟩
      refine ⟨_, _, rfl, rfl, ?_⟩
      have hsl := hs.len
      refine ⟨small1000 (by rw [List.length_map]; omega), rfl, sums ++ [(cF feet v : Int) + cP pairs v], hs.add v, fun _ => ?_, some (.dat (.int v)), a9, a10, ?_⟩
      · by_cases q : k2 = 0
        · rw [hv q]; exact List.mem_append_right _ (List.mem_singleton.mpr rfl)
        · exact List.mem_append_left _ (hin (by omega))
      · rw [List.map_append, List.length_map, List.length_map]
        rfl
    · rintro ρ n2 ⟨rfl, sums, hs, hin, a8, a9, a10, rfl⟩
      refine ⟨rfl, sums, ⟨hs.top, hs.all, fun s hs2 => ?_, by have := hs.len; show _ ≤ 1 + 2 * (k + 1); have e : ([PyData.int z, PyData.int (z + 1)] : List PyData).length = 2 := rfl; omega⟩, _, _, _, _, rfl⟩
      rw [List.take_add_one, hz] at hs2
      rcases List.mem_append.mp hs2 with q | q
      · exact hs.has s q
      · rw [show s = z by simpa using q]
        exact hin (by show 1 ≤ 2; decide)
  · rintro ρ n' ⟨rfl, sums, hs, a7, a8, a9, a10, rfl⟩
    rw [List.length_map, List.take_length] at hs
    refine ⟨_, rfl, _, rfl, sums, rfl, List.length_pos_of_mem hs.top, fun m hm hle => ?_⟩
    exact ⟨by show 2 ≤ sizeLine; decide, hR m _ (hs.most ok.fi ok.pi hm hle) hfew⟩
/-- a def of the module with any promise -/
def HasS (P : Program) (w : World) (K : PySem.W.Frag) (mg : Str → Option Value) (base : Heap) (x : Str) (k : Nat) (ps : List Str) (sp : Sp) : Prop :=
  ∃ f fd, mg x = some (.ref f) ∧ PySem.W.keepIn K (.ref f) = true ∧ Binds K fd ps [] ∧ FnG P w K mg base k f fd ps sp
theorem pe_hasS {X : Cx} {k : Nat} {ps : List Str} {sp : Sp} {x : Str} {p pos : Pos} {e : Expr} {es : List Expr} {t : TA} (h : HasS X.prog X.w X.K X.mg X.base x k ps sp) (hgd : X.A.guards = some []) (hr : Room k X.A) (hg : Gl X x)
    (ha : PA X (e :: es) t) (hdb : (x == ("__debug__" : Str)) = false := by decide) (he : starEach (e :: es) X.env = (false, eval e X.env) :: starEach es X.env := by rfl) (hpl : (backTo pos (starEach es X.env)).any (·.1) = false := by rfl) :
    PE X (.Call (.Name x p) (e :: es) [] pos) (fun σ H Q => t σ H fun vs H1 => sp vs H1 Q E0) := by
  obtain ⟨f, fd, h1, h2, h3, h4⟩ := h
  exact pe_callg h4 hgd hr hg h1 h2 h3 ha hdb he hpl
theorem spDeckA_ok {K : PySem.W.Frag} (a : Addr) (ns : List Int) (H : Hp) (Q : VK) (hS : SqL K H a (ns.map V.int)) (hl : ns.length ≤ 63)
    (k : ∀ (H' : Hp) (δ : DkS) (p : Addr), Same H H' → IsDk false δ p → δ.at0 H' 0 → (∀ b, b ∈ δ.own → H' b ≠ none) → Q (.ref p) H') : spDeckA K [.ref a] H Q E0 :=
  ⟨a, ns, rfl, hS, hl, fun H' p q s _ _ hat => k H' (dkA p q) p s ⟨q, rfl⟩ hat fun b hb => by
    obtain ⟨cells, h1, h2, _⟩ := hat
    simp only [dkA, List.mem_cons, List.not_mem_nil, or_false] at hb
    rcases hb with rfl | rfl
    · rw [h1]; nofun
    · rw [h2]; nofun⟩
abbrev s_law : Stmt := topS 78
abbrev N_law : List Str := ["script", "deck", "halls", "table", "turn", "edit", "odd", "rows", "way", "past", "number"]
theorem sc_law : FnScope N_law ["script"] (defScope s_law) := ⟨rfl, rfl, rfl, by decide +kernel, rfl, by decide +kernel, by decide +kernel⟩
theorem fn_law {f : Addr} {fd : FuncData} (F : Fun K "law" "law" s_law f fd) (B : Bn K mg C) (HD : HasS P w K mg base "_law_deck" 1 ["script"] (spDeckA K)) (H_Party___init__ : HasC P w K mg base "Party" C.Party 6 ["self", "hall"] (c_Party___init__ C)) (H__law_hall : Has P w K mg base "_law_hall" 3 ["deck", "most"] c__law_hall) (H__law_draw : Has P w K mg base "_law_draw" 1 ["deck", "many"] c__law_draw) (H__law_edit : Has P w K mg base "_law_edit" 2 ["deck", "hall"] c__law_edit) (H__law_after : Has P w K mg base "_law_after" 1 ["hall", "edit"] c__law_after) (H__law_do : Has P w K mg base "_law_do" 9 ["table", "edit"] (c__law_do C)) (H__law_told : Has P w K mg base "_law_told" 9 ["table", "way", "number", "past"] (c__law_told C)) (H__law_expected : Has P w K mg base "_law_expected" 5 ["halls", "way", "number", "past"] c__law_expected) (HM_undo : HasM P w K mg base (fun D => D = C.Party) "undo" 5 ["self"] (fun _ => c_Party_undo C)) (H__law_ends : Has P w K mg base "_law_ends" 1 ["hall"] c__law_ends) : FnG P w K mg base 10 f fd ["script"] (spLaw K) := by
  refine law_start (N := N_law) (k := 9) (m := 9) (kd := false) (spD0 := spDeckA) F sc_law rfl rfl spDeckA_ok fun cdv A outer s H hgd0 hr => ?_
  have hu := hr.units
  have hu1 : (A.deeper (envOfC "law" (defScope s_law) s.heap.objs.size f cdv)).units + 65 < cLine := by have := hr.un; omega
  have hu0 : (A.deeper (envOfC "law" (defScope s_law) s.heap.objs.size f cdv)).units + 1 < cLine := by have := hr.un; omega
  have hgd : (A.deeper (envOfC "law" (defScope s_law) s.heap.objs.size f cdv)).guards = some [] := hgd0
  refine ⟨ps_set (i := 1) sc_law.nd rfl (Or.inl rfl) (pe_hasS HD hgd (hr.mono (by decide)) (by rfl) (pa_cons (pv 0) pa_nil)), fun Y => ⟨_, (dss_cons (ds_set (i := 2) sc_law.nd rfl (Or.inl rfl) (xe_m (me_lst (wa_cons (we_has H__law_hall hgd (hr.mono (by decide)) (by rfl) (wa_cons (we_var 1) (wa_cons we_int wa_nil))) wa_nil)))) (dss_cons (ds_set (i := 3) sc_law.nd rfl (Or.inl rfl) (xe_d (we_hasC takes0 wok0 H_Party___init__ hgd (hr.mono (by decide)) (by rfl) (wa_cons (we_ix (we_var 2) we_int (fun _ _ => rfl)) wa_nil)))) (dss_cons (ds_for PassesOwn.never rfl (di_range1 (by rfl) B.range (wa_cons (we_has H__law_draw hgd (hr.mono (by decide)) (by rfl) (wa_cons (we_var 1) (wa_cons we_int wa_nil))) wa_nil)) ⟨(pg_name (i := 4) sc_law.nd rfl (Or.inl rfl)), gok_name⟩ (dss_cons (ds_set (i := 5) sc_law.nd rfl (Or.inl rfl) (xe_d (we_has H__law_edit hgd (hr.mono (by decide)) (by rfl) (wa_cons (we_var 1) (wa_cons (we_ix (we_var 2) (we_neg we_int) (fun _ _ => rfl)) wa_nil))))) (dss_cons (ds_append (pv 2) (we_has H__law_after hgd (hr.mono (by decide)) (by rfl) (wa_cons (we_ix (we_var 2) (we_neg we_int) (fun _ _ => rfl)) (wa_cons (we_var 5) wa_nil)))) (dss_cons (ds_if (wt_cmp (or_neA hu) bi_neA (we_has H__law_do hgd (hr.mono (by decide)) (by rfl) (wa_cons (we_var 3) (wa_cons (we_var 5) wa_nil))) (we_bin op_sub bi_I0 (we_callB call_len_seq ck_len (by rfl) B.len PySem.boot_len (wa_cons (we_var 2) wa_nil)) we_int) (nomark _)) (dss_one (ds_ret we_bl)) dss_nil) (dss_one (ds_if (wt_cmp (or_eqA hu) bi_eqA (we_has H__law_draw hgd (hr.mono (by decide)) (by rfl) (wa_cons (we_var 1) (wa_cons we_int wa_nil))) we_int (nomark _)) (dss_cons (ds_pop (pv 2)) (dss_one (ds_if (wt_cmp (or_neA hu) bi_neA (we_meth0 (pl := _) takes0 wok0 HM_undo hgd (hr.mono (by decide)) (we_var 3)) (we_bin op_sub bi_I0 (we_callB call_len_seq ck_len (by rfl) B.len PySem.boot_len (wa_cons (we_var 2) wa_nil)) we_int) (nomark _)) (dss_one (ds_ret we_bl)) dss_nil))) dss_nil)))))) (dss_cons (ds_set (i := 6) sc_law.nd rfl (Or.inl rfl) (xe_d (we_ofM (me_lst (wa_cons we_non (wa_cons we_bl (wa_cons we_bl (wa_cons (we_neg we_int) (wa_cons we_int (wa_cons (we_bin op_pow bi_I we_int we_int) (wa_cons we_str (wa_cons we_str (wa_cons (we_tup wa_nil) (wa_cons (we_ofM (me_lst wa_nil)) (wa_cons we_dict0 (wa_cons (we_tup (wa_cons we_int wa_nil)) (wa_cons (we_callB call_len_seq ck_len (by rfl) B.len PySem.boot_len (wa_cons (we_var 2) wa_nil)) (wa_cons (we_bin op_pow bi_I we_int we_int) wa_nil)))))))))))))))))) (dss_cons (ds_set (i := 7) sc_law.nd rfl (Or.inl rfl) (xe_m (me_lst wa_nil))) (dss_cons (ds_for PassesOwn.never rfl (di_range1 (by rfl) B.range (wa_cons we_int wa_nil)) ⟨(pg_name (i := 8) sc_law.nd rfl (Or.inr rfl)), gok_name⟩ (dss_one (ds_set (i := 7) sc_law.nd rfl (Or.inl rfl) (xe_m (me_cat (we_var 7) (we_ofM (me_compV (own := [("past", 9)]) rfl sc_law.nd (di_seqV (we_ofM (me_lst (wa_cons we_int (wa_cons we_bl (wa_cons we_int (wa_cons we_bl (wa_cons we_int wa_nil)))))))) (blkOk_by (N := N_law) (sc := defScope s_law) (by decide +kernel)) gok_name (fun _ _ _ _ _ => (pg_name (i := 9) sc_law.nd rfl (Or.inl rfl))) (fun _ _ _ _ _ => wts_nil) (fun _ _ _ _ _ => (we_tup (wa_cons (we_var 8) (wa_cons we_int (wa_cons (we_var 9) wa_nil))))) (by decide)))))))) (dss_cons (ds_set (i := 7) sc_law.nd rfl (Or.inl rfl) (xe_m (me_cat (we_var 7) (we_ofM (me_compV (own := [("number", 10)]) rfl sc_law.nd (di_seqV (we_ofM (me_lst (wa_cons we_int (wa_cons we_bl (wa_cons we_int (wa_cons we_int (wa_cons we_bl (wa_cons we_int wa_nil))))))))) (blkOk_by (N := N_law) (sc := defScope s_law) (by decide +kernel)) gok_name (fun _ _ _ _ _ => (pg_name (i := 10) sc_law.nd rfl (Or.inl rfl))) (fun _ _ _ _ _ => wts_nil) (fun _ _ _ _ _ => (we_tup (wa_cons we_int (wa_cons (we_var 10) (wa_cons we_non wa_nil))))) (by decide)))))) (dss_cons (ds_for PassesOwn.never rfl (di_range1 (by rfl) B.range (wa_cons we_int wa_nil)) ⟨(pg_name (i := 4) sc_law.nd rfl (Or.inl rfl)), gok_name⟩ (dss_cons (ds_set (i := 9) sc_law.nd rfl (Or.inl rfl) (xe_d (we_ix (we_ofM (me_lst (wa_cons we_non (wa_cons (we_has H__law_draw hgd (hr.mono (by decide)) (by rfl) (wa_cons (we_var 1) (wa_cons (we_callB call_len_seq ck_len (by rfl) B.len PySem.boot_len (wa_cons (we_var 2) wa_nil)) wa_nil))) wa_nil)))) (we_has H__law_draw hgd (hr.mono (by decide)) (by rfl) (wa_cons (we_var 1) (wa_cons we_int wa_nil))) (fun _ _ => rfl)))) (dss_cons (ds_set (i := 10) sc_law.nd rfl (Or.inl rfl) (xe_d (we_callB (call_maxA rfl) ck_max (by rfl) B.max PyProof.Rows.boot_max (wa_cons we_int (wa_cons (we_bin or_addA bi_add (we_ix (we_has H__law_ends hgd (hr.mono (by decide)) (by rfl) (wa_cons (we_ix (we_var 2) (we_if (wt_cmp op_isN bi_isN (we_var 9) we_non (nomark _)) (we_neg we_int) (we_var 9)) (fun _ _ => rfl)) wa_nil)) we_int (fun _ _ => rfl)) (we_ix (we_ofM (me_lst (wa_cons we_int (wa_cons we_int (wa_cons we_int (wa_cons (we_neg we_int) wa_nil)))))) (we_has H__law_draw hgd (hr.mono (by decide)) (by rfl) (wa_cons (we_var 1) (wa_cons we_int wa_nil))) (fun _ _ => rfl))) wa_nil))))) (dss_cut (ds_if (wt_cmp (or_eqA hu) bi_eqA (we_has H__law_draw hgd (hr.mono (by decide)) (by rfl) (wa_cons (we_var 1) (wa_cons we_int wa_nil))) we_int (nomark _)) (dss_one (ds_set (i := 10) sc_law.nd rfl (Or.inl rfl) (xe_d (we_ix (we_var 6) (we_has H__law_draw hgd (hr.mono (by decide)) (by rfl) (wa_cons (we_var 1) (wa_cons we_int wa_nil))) (fun _ _ => rfl))))) dss_nil) (dss_cut (ds_if (wt_cmp (or_eqA hu) bi_eqA (we_has H__law_draw hgd (hr.mono (by decide)) (by rfl) (wa_cons (we_var 1) (wa_cons we_int wa_nil))) we_int (nomark _)) (dss_one (ds_set (i := 9) sc_law.nd rfl (Or.inl rfl) (xe_d (we_ix (we_var 6) (we_has H__law_draw hgd (hr.mono (by decide)) (by rfl) (wa_cons (we_var 1) (wa_cons we_int wa_nil))) (fun _ _ => rfl))))) dss_nil) (dss_one (ds_append (pv 7) (we_tup (wa_cons (we_has H__law_draw hgd (hr.mono (by decide)) (by rfl) (wa_cons (we_var 1) (wa_cons we_int wa_nil))) (wa_cons (we_var 10) (wa_cons (we_var 9) wa_nil))))))))))) (dss_thaw (i := 7) (dss_cons (ds_for PassesOwn.never rfl (di_seq (we_var 7)) ⟨(pg_tup rfl (pgs_cons (pg_name (i := 8) sc_law.nd rfl (Or.inr rfl)) (pgs_cons (pg_name (i := 10) sc_law.nd rfl (Or.inl rfl)) (pgs_cons (pg_name (i := 9) sc_law.nd rfl (Or.inl rfl)) pgs_nil)))), gok_three⟩ (dss_one (ds_if (wt_cmp (or_neA hu) bi_neA (we_has H__law_told hgd (hr.mono (by decide)) (by rfl) (wa_cons (we_var 3) (wa_cons (we_var 8) (wa_cons (we_var 10) (wa_cons (we_var 9) wa_nil))))) (we_has H__law_expected hgd (hr.mono (by decide)) (by rfl) (wa_cons (we_var 2) (wa_cons (we_var 8) (wa_cons (we_var 10) (wa_cons (we_var 9) wa_nil))))) (nomark _)) (dss_one (ds_ret we_bl)) dss_nil))) (dss_one (ds_ret we_bl)))))))))))), ?_⟩⟩
  refine ⟨_, rfl, rfl, 10, rfl, by decide, by decide, by decide, fun h n1 hh q1 q2 hn1 => ⟨by show 1 ≤ sizeLine; decide, ?_⟩⟩
  have hn1' : n1.n ≤ 0 + 100 := hn1.1
  refine ⟨_, rfl, 0, _, rfl, rfl, fun x hx => ⟨x, h, rfl, hh, Wo.put_at, fun m f hm hf => ⟨rfl, ?_⟩⟩⟩
  rw [Wo.put_put]
  have hob : (n1.put x ⟨C.Party, (Pt.mk false h m f [h] []).fs⟩).ob x = some ⟨C.Party, (Pt.mk false h m f [h] []).fs⟩ := Wo.put_at
  have hN : (n1.put x ⟨C.Party, (Pt.mk false h m f [h] []).fs⟩).n ≤ 100 := by show n1.n ≤ _; omega
  generalize n1.put x ⟨C.Party, (Pt.mk false h m f [h] []).fs⟩ = n2 at hob hN ⊢
  refine ⟨_, rfl, rfl, 11, rfl, by decide, by decide, by omega, fun s s0 s1 => ⟨s, rfl, by omega, by omega, ?_⟩⟩
  have hrl : (rngD 0 s.toNat).length ≤ 10 := by rw [rngD_length]; omega
  refine forR_inv (fun j ρ n3 => n3.n ≤ 101 + j * 11 ∧ ∃ p : Pt, p.Ok ∧ p.busy = false ∧ p.done.length ≤ j ∧ n3.ob x = some ⟨C.Party, p.fs⟩ ∧ ∃ b4 b5 b6 b7 b8 b9 b10, ρ = [none, some (.deck false), some (.mt (p.hs.map halD)), some (.dat (refD x)), b4, b5, b6, b7, b8, b9, b10])
    ⟨by show n2.n + 1 ≤ _; omega, ⟨false, h, m, f, [h], []⟩, ⟨hh, hm, hf, rfl, fun y hy => by rw [List.mem_singleton.mp hy]; exact hh, rfl, Nat.zero_le _⟩, rfl, Nat.zero_le _, hob, _, _, _, _, _, _, _, rfl⟩ ?_ ?_
  · rintro j y ρ n3 hy ⟨hn3, p, pk, hb, hj, hob3, b4, b5, b6, b7, b8, b9, b10, rfl⟩
    have hj10 : j < 10 := Nat.lt_of_lt_of_le (List.getElem?_eq_some_iff.mp hy).1 hrl
    have hlen := pk.len
    have hfew := pk.few
    refine ⟨_, rfl, _, rfl, -1, _, rfl, last_at pk.last, rfl, p.h, rfl, pk.hh, by omega, fun nm d h' n4 h4 ha hz hn4 => ?_⟩
    obtain ⟨z, rfl, z0, z1⟩ := hz
    have hn4' : n4.n ≤ n3.n + 10 := hn4.1
    have hob4 : n4.ob x = some ⟨C.Party, p.fs⟩ := (Wo.oeq hn4 x).trans hob3
    refine ⟨_, rfl, _, rfl, -1, _, rfl, last_at pk.last, _, rfl, rfl, p.h, h', nm, .int z, rfl, pk.hh, h4, ha, small1000 (by rw [List.length_map]; omega), ?_⟩
    refine ⟨_, rfl, _, rfl, rfl, x, p, nm, .int z, h', rfl, hob4, pk, hb, by omega, h4, rfl, ha, fun m' f' hm' hf' => ?_⟩
    have pk' : (p.next h' m' f' (.tuple [.str nm, .int z])).Ok := pk.next (aft_ok pk.hh ha) hm' hf' (by omega)
    have ehs : p.hs.map halD ++ [halD h'] = (p.next h' m' f' (.tuple [.str nm, .int z])).hs.map halD := by show _ = (p.hs ++ [h']).map halD; rw [List.map_append]; rfl
    have hd1 : (p.next h' m' f' (.tuple [.str nm, .int z])).done.length = p.done.length + 1 := by show (p.done ++ [_]).length = _; rw [List.length_append]; rfl
    have hob5 : (n4.put x ⟨C.Party, (p.next h' m' f' (.tuple [.str nm, .int z])).fs⟩).ob x = some ⟨C.Party, (p.next h' m' f' (.tuple [.str nm, .int z])).fs⟩ := Wo.put_at
    have hb2 : (p.next h' m' f' (.tuple [.str nm, .int z])).busy = false := hb
    have hN5 : (n4.put x ⟨C.Party, (p.next h' m' f' (.tuple [.str nm, .int z])).fs⟩).n ≤ 101 + j * 11 + 10 := by show n4.n ≤ _; omega
    have hne1 : (p.next h' m' f' (.tuple [.str nm, .int z])).done ≠ [] := fun e => by rw [e] at hd1; simp at hd1
    rw [ehs]
    generalize p.next h' m' f' (.tuple [.str nm, .int z]) = q at pk' hd1 hob5 hb2 hN5 hne1 ⊢
    have ql : q.hs.length = p.done.length + 2 := by rw [pk'.len, hd1]
    have elq : ((q.hs.map halD).length : Nat) = q.hs.length := List.length_map ..
    refine ⟨_, rfl, _, _, rfl, rfl, rfl, rfl, sh_int _, sh_int _, _, rfl, ifN ((eqv_int _ _).trans (decide_eq_true (by rw [elq, ql]; omega))) ?_⟩
    refine ⟨_, rfl, rfl, 4, rfl, by decide, by decide, by omega, fun r r0 r1 => ⟨rfl, rfl, sh_int _, sh_int _, _, rfl, ?_⟩⟩
    generalize n4.put x ⟨C.Party, q.fs⟩ = n5 at hob5 hN5 ⊢
    have hob6 : (n5 + 1).ob x = some ⟨C.Party, q.fs⟩ := hob5
    have hN6 : (n5 + 1).n ≤ 101 + j * 11 + 11 := by show n5.n + 1 ≤ _; omega
    generalize n5 + 1 = n6 at hob6 hN6 ⊢
    by_cases c : r = 0
    · refine ifT ((eqv_int _ _).trans (decide_eq_true c)) ?_
      obtain ⟨d2, h2⟩ : ∃ d, (q.hs.map halD)[(q.hs.map halD).length - 1]? = some d := ⟨_, List.getElem?_eq_getElem (by rw [List.length_map]; omega)⟩
      refine ⟨_, d2, rfl, h2, ?_⟩
      refine ⟨_, rfl, x, _, rfl, hob6, rfl, rfl, rfl, x, q, rfl, hob6, pk', fun c => absurd (hb2.symm.trans c) (by decide), fun _ => ⟨fun c => absurd c hne1, fun hne h3 m3 f3 e3 hm3 hf3 => ?_⟩⟩
      have hh3 : HlOk h3 := pk'.all _ (List.dropLast_subset _ (List.mem_of_getLast? e3))
      have qk := pk'.back hne1 e3 hh3 hm3 hf3
      have ehd : (q.hs.map halD).dropLast = (q.back h3 m3 f3).hs.map halD := by show _ = q.hs.dropLast.map halD; rw [List.map_dropLast]
      have ell : (((q.hs.map halD).dropLast).length : Nat) = p.done.length + 1 := by rw [List.length_dropLast, elq, ql]; omega
      refine ⟨_, rfl, _, _, rfl, rfl, rfl, rfl, sh_int _, sh_int _, _, rfl, ifN ((eqv_int _ _).trans (decide_eq_true (by rw [ell]; omega))) ?_⟩
      refine ⟨by show n6.n ≤ _; omega, q.back h3 m3 f3, qk, hb2, ?_, Wo.put_at, _, _, _, _, _, _, _, by rw [← ehd]; rfl⟩
      show q.done.dropLast.length ≤ j + 1
      rw [List.length_dropLast]
      omega
    · refine ifF ((eqv_int _ _).trans (decide_eq_false c)) ?_
      exact ⟨by omega, q, pk', hb2, by omega, hob6, _, _, _, _, _, _, _, rfl⟩
  · rintro ρ n3 ⟨hn3, p, pk, hb, hj, hob3, b4, b5, b6, b7, b8, b9, b10, rfl⟩
    have hlen := pk.len
    have hdl : p.done.length ≤ 10 := Nat.le_trans hj hrl
    have hn3 : n3.n ≤ 300 := by have := hrl; omega
    have elp : ((p.hs.map halD).length : Nat) = p.hs.length := List.length_map ..
    refine ⟨⟨by decide, by decide, by decide⟩, Nat.zero_le _, Nat.zero_le _, by show 1 ≤ sizeLine; decide, _, rfl, _, _, rfl, rfl, ⟨by decide, by decide, by decide⟩, by show 14 ≤ sizeLine; decide, Nat.zero_le _, ?_⟩
    have hod : ∀ d ∈ [PyData.none, .bool true, .bool false, .int (-1), .int 1001, .int ((10 : Int) ^ (20 : Int).toNat), .str "1", .str "", .tuple [], .list [], .dict [], .tuple [.int 1], .int ((p.hs.map halD).length : Nat), .int ((10 : Int) ^ (39 : Int).toNat)], PVal d := fun d hd => pv_odd (L := ((p.hs.map halD).length : Nat)) (by omega) (by omega) hd
    refine ⟨3, rfl, by decide, by decide, forR_inv (fun k ρ n => n = n3 ∧ ∃ (O Rs : List PyData), ∃ b4 b5 b8 b9 b10, (∀ d ∈ O, PVal d) ∧ O.length = 14 ∧ (∀ d ∈ Rs, RowP d) ∧ Rs.length ≤ 5 * k ∧ ρ = [none, some (.deck false), some (.mt (p.hs.map halD)), some (.dat (refD x)), b4, b5, some (.dat (.list O)), some (.mt Rs), b8, b9, b10])
      ⟨rfl, _, [], _, _, _, _, _, hod, rfl, fun d hd => (nomatch hd), Nat.zero_le _, rfl⟩ ?_ ?_⟩
    · rintro k y ρ n4 hy ⟨rfl, O, Rs, c4, c5, c8, c9, c10, hO, lO, hRs, lRs, rfl⟩
      obtain ⟨rfl, hk⟩ := rngD_mem hy
      have hk : k < 3 := hk
      refine ⟨_, rfl, by show 5 ≤ sizeLine; decide, _, rfl, ?_⟩
      refine compR_m [PyData.int 0, .bool false, .int 1, .bool true, .int 0] id (fun d => .tuple [.int (0 + (k : Int)), .int 0, d]) (small1000 (by decide)) (fun d hd acc KK ha hK => ⟨_, rfl, _, rfl, by show 3 ≤ sizeLine; decide, ha, hK⟩) ?_
      refine ⟨_, _, rfl, rfl, ?_, rfl, O, _, _, _, _, _, _, hO, lO, fun d hd => ?_, by rw [List.length_append]; exact (show Rs.length + 5 ≤ 5 * (k + 1) by omega), rfl⟩
      · exact line1000 (n := Rs.length + 5) (by omega)
      rcases List.mem_append.mp hd with q | q
      · exact hRs d q
      · obtain ⟨v, hv, rfl⟩ := List.mem_map.mp q
        refine ⟨_, _, _, rfl, pv_int (by decide) (by decide), pv_cs ?_⟩
        simp only [List.mem_cons, List.not_mem_nil, or_false] at hv ⊢
        rcases hv with rfl | rfl | rfl | rfl | rfl <;> simp only [true_or, or_true]
    rintro ρ n4 ⟨rfl, O, Rs, c4, c5, c8, c9, c10, hO, lO, hRs, lRs, rfl⟩
    have lRs : Rs.length ≤ 15 := lRs
    refine ⟨_, rfl, by show 6 ≤ sizeLine; decide, _, rfl, ?_⟩
    refine compR_m [PyData.int 1, .bool true, .int 1, .int 0, .bool false, .int 1000] id (fun d => .tuple [.int 2, d, .none]) (small1000 (by decide)) (fun d hd acc KK ha hK => ⟨_, rfl, by show 3 ≤ sizeLine; decide, ha, hK⟩) ?_
    refine ⟨_, _, rfl, rfl, line1000 (n := Rs.length + 6) (by omega), ?_⟩
    have hRs2 : ∀ d ∈ Rs ++ [PyData.int 1, .bool true, .int 1, .int 0, .bool false, .int 1000].map (fun d => PyData.tuple [.int 2, d, .none]), RowP d := fun d hd => by
      rcases List.mem_append.mp hd with q | q
      · exact hRs d q
      · obtain ⟨v, hv, rfl⟩ := List.mem_map.mp q
        refine ⟨_, _, _, rfl, pv_cs ?_, pv_cs (by simp)⟩
        simp only [List.mem_cons, List.not_mem_nil, or_false] at hv ⊢
        rcases hv with rfl | rfl | rfl | rfl | rfl | rfl <;> simp only [true_or, or_true]
    have lRs2 : (Rs ++ [PyData.int 1, .bool true, .int 1, .int 0, .bool false, .int 1000].map (fun d => PyData.tuple [.int 2, d, .none])).length ≤ 21 := by rw [List.length_append]; exact (show Rs.length + 6 ≤ 21 by omega)
    generalize Rs ++ [PyData.int 1, .bool true, .int 1, .int 0, .bool false, .int 1000].map (fun d => PyData.tuple [.int 2, d, .none]) = Rs2 at hRs2 lRs2 ⊢
    refine ⟨14, rfl, by decide, by decide, forR_inv (fun k ρ n => n ≤ n4 + 8 * k ∧ ∃ (Rs : List PyData), ∃ b4 b8 b9 b10, (∀ d ∈ Rs, RowP d) ∧ Rs.length ≤ 21 + k ∧ ρ = [none, some (.deck false), some (.mt (p.hs.map halD)), some (.dat (refD x)), b4, c5, some (.dat (.list O)), some (.mt Rs), b8, b9, b10])
      ⟨⟨Nat.le_refl _, rfl, rfl⟩, Rs2, _, _, _, _, hRs2, lRs2, rfl⟩ ?_ ?_⟩
    · rintro k y ρ n5 hy ⟨hn5, Rs, d4, d8, d9, d10, hRs, lRs, rfl⟩
      obtain ⟨rfl, hk⟩ := rngD_mem hy
      have hk : k < 14 := hk
      have hn5' : n5.n ≤ n4.n + 8 * k := hn5.1
      have hl1 : 1 ≤ p.hs.length := by omega
      refine ⟨_, rfl, _, rfl, _, _, rfl, rfl, rfl, (p.hs.length : Nat), ?_, by omega, by omega, by omega, fun r r0 r1 => ?_⟩
      · rw [elp]
      refine ⟨by show 2 ≤ sizeLine; decide, _, rfl, rfl, 2, rfl, by decide, by decide, by show n5.n + 1 ≤ _; omega, fun b b0 b1 => ?_⟩
      obtain ⟨v, hv, hv2⟩ := pick2 (a := .none) (b := .int r) b0 b1
      obtain ⟨h2, hd2⟩ : ∃ h2, HAt p v h2 := by
        rcases hv2 with rfl | rfl
        · exact ⟨_, .inl ⟨rfl, rfl⟩⟩
        · obtain ⟨i, rfl⟩ := Int.eq_ofNat_of_zero_le r0
          exact ⟨_, .inr ⟨i, rfl, List.getElem?_eq_getElem (by omega)⟩⟩
      have pv : PVal v := by
        rcases hv2 with rfl | rfl
        · exact pv_cs (by simp)
        · exact pv_int (by omega) (by omega)
      have hnv : isRefD v = false := pv.1.nr.nr
      have hlk := hd2.look pk
      refine ⟨_, _, rfl, hv, ?_⟩
      refine ⟨_, rfl, _, rfl, rfl, rfl, _, rfl, ?_⟩
      show if isN v = true then _ else _
      refine iteB (b := isN v) _ ?_ (fun hb x => ⟨-1, halD h2, rfl, hlk.1 hb, x⟩) (fun hb x => let ⟨i, e, q⟩ := hlk.2 hb; ⟨_, rfl, i, _, by rw [e], q, x⟩)
      have hh2 := hd2.ok pk
      refine ⟨rfl, h2, rfl, hh2, fun m2 f2 hm2 hf2 => ?_⟩
      have hfb := few_nn2 hf2 hh2.ok.f2 hh2.ok.p2
      refine ⟨0, _, rfl, rfl, by show 4 ≤ sizeLine; decide, _, rfl, rfl, 4, rfl, by decide, by decide, by show n5.n + 1 + 1 ≤ _; omega, fun e e0 e1 => ?_⟩
      obtain ⟨du, hu, hum⟩ := atI_mem (xs := [PyData.int 0, .int 1, .int 2, .int (-1)]) e0 (by simpa using e1)
      obtain ⟨u, rfl, u0, u1⟩ : ∃ u : Int, du = .int u ∧ -1 ≤ u ∧ u ≤ 2 := by
        simp only [List.mem_cons, List.not_mem_nil, or_false] at hum
        rcases hum with rfl | rfl | rfl | rfl
        · exact ⟨_, rfl, by decide, by decide⟩
        · exact ⟨_, rfl, by decide, by decide⟩
        · exact ⟨_, rfl, by decide, by decide⟩
        · exact ⟨_, rfl, by decide, by decide⟩
      refine ⟨_, _, rfl, hu, ?_⟩
      have pnum : PVal (.int (if f2 + u > 0 then f2 + u else 0)) := by split <;> exact pv_int (by omega) (by omega)
      have hN3 : n5 + 1 + 1 + 1 ≤ n4 + (8 * k + 3) := Wo.le' (Wo.tr (Wo.tr (Wo.tr hn5 Wo.one) Wo.one) Wo.one) (by omega)
      have hN3' : (n5 + 1 + 1 + 1).n ≤ n4.n + (8 * k + 3) := hN3.1
      generalize n5 + 1 + 1 + 1 = n6 at hN3 hN3' ⊢
      refine ⟨fun ρ n => n ≤ n4 + (8 * k + 5) ∧ ∃ num, PVal num ∧ ρ = [none, some (.deck false), some (.mt (p.hs.map halD)), some (.dat (refD x)), some (.dat (.int (0 + (k : Int)))), c5, some (.dat (.list O)), some (.mt Rs), d8, some (.dat v), some (.dat num)], ?_, ?_⟩
      · refine ⟨_, rfl, rfl, 3, rfl, by decide, by decide, by omega, fun t t0 t1 => ⟨rfl, rfl, sh_int _, sh_int _, _, rfl, ?_⟩⟩
        by_cases c : t = 0
        · refine ifT ((eqv_int _ _).trans (decide_eq_true c)) ?_
          refine ⟨_, rfl, _, rfl, rfl, 14, rfl, by decide, by decide, by show n6.n + 1 ≤ _; omega, fun g g0 g1 => ?_⟩
          obtain ⟨dO, hdO, hm⟩ := atI_mem (xs := O) g0 (by omega)
          exact ⟨_, _, rfl, hdO, Wo.le' (Wo.tr (Wo.tr hN3 Wo.one) Wo.one) (by omega), _, hO _ hm, rfl⟩
        · refine ifF ((eqv_int _ _).trans (decide_eq_false c)) ?_
          exact ⟨Wo.le' (Wo.tr hN3 Wo.one) (by omega), _, pnum, rfl⟩
      rintro ρ n7 ⟨hn7, num, hnum, rfl⟩
      have hn7' : n7.n ≤ n4.n + (8 * k + 5) := hn7.1
      refine ⟨fun ρ n => n ≤ n4 + (8 * k + 7) ∧ ∃ w, PVal w ∧ ρ = [none, some (.deck false), some (.mt (p.hs.map halD)), some (.dat (refD x)), some (.dat (.int (0 + (k : Int)))), c5, some (.dat (.list O)), some (.mt Rs), d8, some (.dat w), some (.dat num)], ?_, ?_⟩
      · refine ⟨_, rfl, rfl, 3, rfl, by decide, by decide, by omega, fun t t0 t1 => ⟨rfl, rfl, sh_int _, sh_int _, _, rfl, ?_⟩⟩
        by_cases c : t = 0
        · refine ifT ((eqv_int _ _).trans (decide_eq_true c)) ?_
          refine ⟨_, rfl, _, rfl, rfl, 14, rfl, by decide, by decide, by show n7.n + 1 ≤ _; omega, fun g g0 g1 => ?_⟩
          obtain ⟨dO, hdO, hm⟩ := atI_mem (xs := O) g0 (by omega)
          exact ⟨_, _, rfl, hdO, Wo.le' (Wo.tr (Wo.tr hn7 Wo.one) Wo.one) (by omega), _, hO _ hm, rfl⟩
        · refine ifF ((eqv_int _ _).trans (decide_eq_false c)) ?_
          exact ⟨Wo.le' (Wo.tr hn7 Wo.one) (by omega), _, pv, rfl⟩
      rintro ρ n8 ⟨hn8, w, hw, rfl⟩
      have hn8' : n8.n ≤ n4.n + (8 * k + 7) := hn8.1
      refine ⟨_, rfl, _, rfl, rfl, 3, rfl, by decide, by decide, by omega, fun t t0 t1 => ?_⟩
      refine ⟨_, rfl, _, rfl, by show 3 ≤ sizeLine; decide, small1000 (by omega), Wo.le' (Wo.tr hn8 Wo.one) (by omega), Rs ++ [.tuple [.int t, num, w]], _, _, _, _, fun d hd => ?_, by rw [List.length_append]; show Rs.length + 1 ≤ _; omega, rfl⟩
      rcases List.mem_append.mp hd with q | q
      · exact hRs d q
      · rw [List.mem_singleton.mp q]; exact ⟨_, _, _, rfl, hnum, hw⟩
    rintro ρ n5 ⟨hn5, Rs, d4, d8, d9, d10, hRs, lRs, rfl⟩
    have hob5 : n5.ob x = some ⟨C.Party, p.fs⟩ := (Wo.oeq hn5 x).trans hob3
    have lR : Rs.length ≤ 35 := lRs
    have hn5' : n5.n ≤ n4.n + 8 * 14 := hn5.1
    refine ⟨_, rfl, _, rfl, _, rfl, ?_⟩
    refine forR_inv (fun k ρ n => Sim n5 n ∧ ∃ b8 b9 b10, ρ = [none, some (.deck false), some (.mt (p.hs.map halD)), some (.dat (refD x)), d4, c5, some (.dat (.list O)), some (.dat (.list Rs)), b8, b9, b10]) ⟨Sim.rfl', _, _, _, rfl⟩ ?_ ?_
    · rintro k y ρ n6 hy ⟨h6, e8, e9, e10, rfl⟩
      obtain ⟨w, num, v, rfl, pn, pv⟩ := hRs y (List.mem_of_getElem? hy)
      have hob6 : n6.ob x = some ⟨C.Party, p.fs⟩ := by rw [h6.ob]; exact hob5
      obtain ⟨a, b, e, ha, hb2⟩ := duD_form (p := p) (w := w) pn.2 pv.2
      refine ⟨_, _, _, rfl, ?_⟩
      refine ⟨_, rfl, _, rfl, _, rfl, _, rfl, rfl, x, p, w, num, v, rfl, hob6, pk, pn.1, pv.1, fun n7 h7 => ?_⟩
      refine ⟨_, rfl, _, rfl, _, rfl, _, rfl, rfl, p, w, num, v, rfl, pk, pn.1, pv.1, ?_⟩
      rw [e]
      refine ⟨rfl, rfl, two35_sh ha hb2, two35_sh ha hb2, _, rfl, ifN (two35_eq a b) ⟨h6.trans h7, _, _, _, rfl⟩⟩
    rintro ρ n6 ⟨h6, e8, e9, e10, rfl⟩
    exact rfl
end
theorem all_mk {l : PySem.W.OpenLaw} {w : World} {K : PySem.W.Frag} {h : Heap} {mg : Str → Option Value} {fa : Addr} {C : CA} (X : K.In h) (G : h.Ns mainGlobals mg) (hfa : mg "law" = some (.ref fa))
    {f0 : Addr} {od0 an0 : Option Addr} {sl0 : Array (Option Value)} {oc0 kV0 dc0 pm0 cd0 ct0 : Value}
    (a0 : PySem.W.nsIn K mainGlobals "_law_deck" = some (some (.ref f0)))
    (l0 : K.lookup f0 = some ⟨oc0, od0, .func (PySem.W.fnOf "_law_deck" "_law_deck" (defArgs s__law_deck) (defBody s__law_deck) (defScope s__law_deck) .none kV0 dc0 pm0 an0 cd0 ct0), sl0⟩) (c0 : PySem.W.codeIn K cd0 "_law_deck" = true) (k0 : PySem.W.keepIn K (.ref f0) = true)
    {f1 : Addr} {od1 an1 : Option Addr} {sl1 : Array (Option Value)} {oc1 kV1 dc1 pm1 cd1 ct1 : Value}
    (a1 : PySem.W.nsIn K mainGlobals "is_number" = some (some (.ref f1)))
    (l1 : K.lookup f1 = some ⟨oc1, od1, .func (PySem.W.fnOf "is_number" "is_number" (defArgs s_is_number) (defBody s_is_number) (defScope s_is_number) .none kV1 dc1 pm1 an1 cd1 ct1), sl1⟩) (c1 : PySem.W.codeIn K cd1 "is_number" = true) (k1 : PySem.W.keepIn K (.ref f1) = true)
    {f2 : Addr} {od2 an2 : Option Addr} {sl2 : Array (Option Value)} {oc2 kV2 dc2 pm2 cd2 ct2 : Value}
    (a2 : PySem.W.nsIn K mainGlobals "is_number_from" = some (some (.ref f2)))
    (l2 : K.lookup f2 = some ⟨oc2, od2, .func (PySem.W.fnOf "is_number_from" "is_number_from" (defArgs s_is_number_from) (defBody s_is_number_from) (defScope s_is_number_from) .none kV2 dc2 pm2 an2 cd2 ct2), sl2⟩) (c2 : PySem.W.codeIn K cd2 "is_number_from" = true) (k2 : PySem.W.keepIn K (.ref f2) = true)
    {f3 : Addr} {od3 an3 : Option Addr} {sl3 : Array (Option Value)} {oc3 kV3 dc3 pm3 cd3 ct3 : Value}
    (a3 : PySem.W.nsIn K mainGlobals "is_size" = some (some (.ref f3)))
    (l3 : K.lookup f3 = some ⟨oc3, od3, .func (PySem.W.fnOf "is_size" "is_size" (defArgs s_is_size) (defBody s_is_size) (defScope s_is_size) .none kV3 dc3 pm3 an3 cd3 ct3), sl3⟩) (c3 : PySem.W.codeIn K cd3 "is_size" = true) (k3 : PySem.W.keepIn K (.ref f3) = true)
    {f4 : Addr} {od4 an4 : Option Addr} {sl4 : Array (Option Value)} {oc4 kV4 dc4 pm4 cd4 ct4 : Value}
    (a4 : PySem.W.nsIn K mainGlobals "_first_wrong" = some (some (.ref f4)))
    (l4 : K.lookup f4 = some ⟨oc4, od4, .func (PySem.W.fnOf "_first_wrong" "_first_wrong" (defArgs s__first_wrong) (defBody s__first_wrong) (defScope s__first_wrong) .none kV4 dc4 pm4 an4 cd4 ct4), sl4⟩) (c4 : PySem.W.codeIn K cd4 "_first_wrong" = true) (k4 : PySem.W.keepIn K (.ref f4) = true)
    {f5 : Addr} {od5 an5 : Option Addr} {sl5 : Array (Option Value)} {oc5 kV5 dc5 pm5 cd5 ct5 : Value}
    (a5 : PySem.W.nsIn K mainGlobals "is_tuple" = some (some (.ref f5)))
    (l5 : K.lookup f5 = some ⟨oc5, od5, .func (PySem.W.fnOf "is_tuple" "is_tuple" (defArgs s_is_tuple) (defBody s_is_tuple) (defScope s_is_tuple) .none kV5 dc5 pm5 an5 cd5 ct5), sl5⟩) (c5 : PySem.W.codeIn K cd5 "is_tuple" = true) (k5 : PySem.W.keepIn K (.ref f5) = true)
    {f6 : Addr} {od6 an6 : Option Addr} {sl6 : Array (Option Value)} {oc6 kV6 dc6 pm6 cd6 ct6 : Value}
    (a6 : PySem.W.nsIn K mainGlobals "hall_error" = some (some (.ref f6)))
    (l6 : K.lookup f6 = some ⟨oc6, od6, .func (PySem.W.fnOf "hall_error" "hall_error" (defArgs s_hall_error) (defBody s_hall_error) (defScope s_hall_error) .none kV6 dc6 pm6 an6 cd6 ct6), sl6⟩) (c6 : PySem.W.codeIn K cd6 "hall_error" = true) (k6 : PySem.W.keepIn K (.ref f6) = true)
    {f7 : Addr} {od7 an7 : Option Addr} {sl7 : Array (Option Value)} {oc7 kV7 dc7 pm7 cd7 ct7 : Value}
    (a7 : PySem.W.nsIn K mainGlobals "counts_at" = some (some (.ref f7)))
    (l7 : K.lookup f7 = some ⟨oc7, od7, .func (PySem.W.fnOf "counts_at" "counts_at" (defArgs s_counts_at) (defBody s_counts_at) (defScope s_counts_at) .none kV7 dc7 pm7 an7 cd7 ct7), sl7⟩) (c7 : PySem.W.codeIn K cd7 "counts_at" = true) (k7 : PySem.W.keepIn K (.ref f7) = true)
    {f8 : Addr} {od8 an8 : Option Addr} {sl8 : Array (Option Value)} {oc8 kV8 dc8 pm8 cd8 ct8 : Value}
    (a8 : PySem.W.nsIn K mainGlobals "_foot_sizes" = some (some (.ref f8)))
    (l8 : K.lookup f8 = some ⟨oc8, od8, .func (PySem.W.fnOf "_foot_sizes" "_foot_sizes" (defArgs s__foot_sizes) (defBody s__foot_sizes) (defScope s__foot_sizes) .none kV8 dc8 pm8 an8 cd8 ct8), sl8⟩) (c8 : PySem.W.codeIn K cd8 "_foot_sizes" = true) (k8 : PySem.W.keepIn K (.ref f8) = true)
    {f9 : Addr} {od9 an9 : Option Addr} {sl9 : Array (Option Value)} {oc9 kV9 dc9 pm9 cd9 ct9 : Value}
    (a9 : PySem.W.nsIn K mainGlobals "_deciding_sizes" = some (some (.ref f9)))
    (l9 : K.lookup f9 = some ⟨oc9, od9, .func (PySem.W.fnOf "_deciding_sizes" "_deciding_sizes" (defArgs s__deciding_sizes) (defBody s__deciding_sizes) (defScope s__deciding_sizes) .none kV9 dc9 pm9 an9 cd9 ct9), sl9⟩) (c9 : PySem.W.codeIn K cd9 "_deciding_sizes" = true) (k9 : PySem.W.keepIn K (.ref f9) = true)
    {f10 : Addr} {od10 an10 : Option Addr} {sl10 : Array (Option Value)} {oc10 kV10 dc10 pm10 cd10 ct10 : Value}
    (a10 : PySem.W.nsIn K mainGlobals "most_served" = some (some (.ref f10)))
    (l10 : K.lookup f10 = some ⟨oc10, od10, .func (PySem.W.fnOf "most_served" "most_served" (defArgs s_most_served) (defBody s_most_served) (defScope s_most_served) .none kV10 dc10 pm10 an10 cd10 ct10), sl10⟩) (c10 : PySem.W.codeIn K cd10 "most_served" = true) (k10 : PySem.W.keepIn K (.ref f10) = true)
    {f11 : Addr} {od11 an11 : Option Addr} {sl11 : Array (Option Value)} {oc11 kV11 dc11 pm11 cd11 ct11 : Value}
    (a11 : PySem.W.nsIn K mainGlobals "fewest_served" = some (some (.ref f11)))
    (l11 : K.lookup f11 = some ⟨oc11, od11, .func (PySem.W.fnOf "fewest_served" "fewest_served" (defArgs s_fewest_served) (defBody s_fewest_served) (defScope s_fewest_served) .none kV11 dc11 pm11 an11 cd11 ct11), sl11⟩) (c11 : PySem.W.codeIn K cd11 "fewest_served" = true) (k11 : PySem.W.keepIn K (.ref f11) = true)
    {f12 : Addr} {od12 an12 : Option Addr} {sl12 : Array (Option Value)} {oc12 kV12 dc12 pm12 cd12 ct12 : Value}
    (a12 : PySem.W.nsIn K mainGlobals "_law_draw" = some (some (.ref f12)))
    (l12 : K.lookup f12 = some ⟨oc12, od12, .func (PySem.W.fnOf "_law_draw" "_law_draw" (defArgs s__law_draw) (defBody s__law_draw) (defScope s__law_draw) .none kV12 dc12 pm12 an12 cd12 ct12), sl12⟩) (c12 : PySem.W.codeIn K cd12 "_law_draw" = true) (k12 : PySem.W.keepIn K (.ref f12) = true)
    {f13 : Addr} {od13 an13 : Option Addr} {sl13 : Array (Option Value)} {oc13 kV13 dc13 pm13 cd13 ct13 : Value}
    (a13 : PySem.W.nsIn K mainGlobals "_law_sizes" = some (some (.ref f13)))
    (l13 : K.lookup f13 = some ⟨oc13, od13, .func (PySem.W.fnOf "_law_sizes" "_law_sizes" (defArgs s__law_sizes) (defBody s__law_sizes) (defScope s__law_sizes) .none kV13 dc13 pm13 an13 cd13 ct13), sl13⟩) (c13 : PySem.W.codeIn K cd13 "_law_sizes" = true) (k13 : PySem.W.keepIn K (.ref f13) = true)
    {f14 : Addr} {od14 an14 : Option Addr} {sl14 : Array (Option Value)} {oc14 kV14 dc14 pm14 cd14 ct14 : Value}
    (a14 : PySem.W.nsIn K mainGlobals "_law_hall" = some (some (.ref f14)))
    (l14 : K.lookup f14 = some ⟨oc14, od14, .func (PySem.W.fnOf "_law_hall" "_law_hall" (defArgs s__law_hall) (defBody s__law_hall) (defScope s__law_hall) .none kV14 dc14 pm14 an14 cd14 ct14), sl14⟩) (c14 : PySem.W.codeIn K cd14 "_law_hall" = true) (k14 : PySem.W.keepIn K (.ref f14) = true)
    {f15 : Addr} {od15 an15 : Option Addr} {sl15 : Array (Option Value)} {oc15 kV15 dc15 pm15 cd15 ct15 : Value}
    (a15 : PySem.W.nsIn K mainGlobals "_law_edit" = some (some (.ref f15)))
    (l15 : K.lookup f15 = some ⟨oc15, od15, .func (PySem.W.fnOf "_law_edit" "_law_edit" (defArgs s__law_edit) (defBody s__law_edit) (defScope s__law_edit) .none kV15 dc15 pm15 an15 cd15 ct15), sl15⟩) (c15 : PySem.W.codeIn K cd15 "_law_edit" = true) (k15 : PySem.W.keepIn K (.ref f15) = true)
    {f16 : Addr} {od16 an16 : Option Addr} {sl16 : Array (Option Value)} {oc16 kV16 dc16 pm16 cd16 ct16 : Value}
    (a16 : PySem.W.nsIn K mainGlobals "_law_after" = some (some (.ref f16)))
    (l16 : K.lookup f16 = some ⟨oc16, od16, .func (PySem.W.fnOf "_law_after" "_law_after" (defArgs s__law_after) (defBody s__law_after) (defScope s__law_after) .none kV16 dc16 pm16 an16 cd16 ct16), sl16⟩) (c16 : PySem.W.codeIn K cd16 "_law_after" = true) (k16 : PySem.W.keepIn K (.ref f16) = true)
    {f17 : Addr} {od17 an17 : Option Addr} {sl17 : Array (Option Value)} {oc17 kV17 dc17 pm17 cd17 ct17 : Value}
    (a17 : PySem.W.nsIn K mainGlobals "_with_guest" = some (some (.ref f17)))
    (l17 : K.lookup f17 = some ⟨oc17, od17, .func (PySem.W.fnOf "_with_guest" "_with_guest" (defArgs s__with_guest) (defBody s__with_guest) (defScope s__with_guest) .none kV17 dc17 pm17 an17 cd17 ct17), sl17⟩) (c17 : PySem.W.codeIn K cd17 "_with_guest" = true) (k17 : PySem.W.keepIn K (.ref f17) = true)
    {f18 : Addr} {od18 an18 : Option Addr} {sl18 : Array (Option Value)} {oc18 kV18 dc18 pm18 cd18 ct18 : Value}
    (a18 : PySem.W.nsIn K mainGlobals "_without_guest" = some (some (.ref f18)))
    (l18 : K.lookup f18 = some ⟨oc18, od18, .func (PySem.W.fnOf "_without_guest" "_without_guest" (defArgs s__without_guest) (defBody s__without_guest) (defScope s__without_guest) .none kV18 dc18 pm18 an18 cd18 ct18), sl18⟩) (c18 : PySem.W.codeIn K cd18 "_without_guest" = true) (k18 : PySem.W.keepIn K (.ref f18) = true)
    {f19 : Addr} {od19 an19 : Option Addr} {sl19 : Array (Option Value)} {oc19 kV19 dc19 pm19 cd19 ct19 : Value}
    (a19 : PySem.W.nsIn K mainGlobals "_with_pair" = some (some (.ref f19)))
    (l19 : K.lookup f19 = some ⟨oc19, od19, .func (PySem.W.fnOf "_with_pair" "_with_pair" (defArgs s__with_pair) (defBody s__with_pair) (defScope s__with_pair) .none kV19 dc19 pm19 an19 cd19 ct19), sl19⟩) (c19 : PySem.W.codeIn K cd19 "_with_pair" = true) (k19 : PySem.W.keepIn K (.ref f19) = true)
    {f20 : Addr} {od20 an20 : Option Addr} {sl20 : Array (Option Value)} {oc20 kV20 dc20 pm20 cd20 ct20 : Value}
    (a20 : PySem.W.nsIn K mainGlobals "_without_pair" = some (some (.ref f20)))
    (l20 : K.lookup f20 = some ⟨oc20, od20, .func (PySem.W.fnOf "_without_pair" "_without_pair" (defArgs s__without_pair) (defBody s__without_pair) (defScope s__without_pair) .none kV20 dc20 pm20 an20 cd20 ct20), sl20⟩) (c20 : PySem.W.codeIn K cd20 "_without_pair" = true) (k20 : PySem.W.keepIn K (.ref f20) = true)
    {f21 : Addr} {od21 an21 : Option Addr} {sl21 : Array (Option Value)} {oc21 kV21 dc21 pm21 cd21 ct21 : Value}
    (a21 : PySem.W.nsIn K mainGlobals "hall_after" = some (some (.ref f21)))
    (l21 : K.lookup f21 = some ⟨oc21, od21, .func (PySem.W.fnOf "hall_after" "hall_after" (defArgs s_hall_after) (defBody s_hall_after) (defScope s_hall_after) .none kV21 dc21 pm21 an21 cd21 ct21), sl21⟩) (c21 : PySem.W.codeIn K cd21 "hall_after" = true) (k21 : PySem.W.keepIn K (.ref f21) = true)
    {f22 : Addr} {od22 an22 : Option Addr} {sl22 : Array (Option Value)} {oc22 kV22 dc22 pm22 cd22 ct22 : Value}
    (a22 : PySem.W.nsIn K mainGlobals "_law_do" = some (some (.ref f22)))
    (l22 : K.lookup f22 = some ⟨oc22, od22, .func (PySem.W.fnOf "_law_do" "_law_do" (defArgs s__law_do) (defBody s__law_do) (defScope s__law_do) .none kV22 dc22 pm22 an22 cd22 ct22), sl22⟩) (c22 : PySem.W.codeIn K cd22 "_law_do" = true) (k22 : PySem.W.keepIn K (.ref f22) = true)
    {f23 : Addr} {od23 an23 : Option Addr} {sl23 : Array (Option Value)} {oc23 kV23 dc23 pm23 cd23 ct23 : Value}
    (a23 : PySem.W.nsIn K mainGlobals "_fitting" = some (some (.ref f23)))
    (l23 : K.lookup f23 = some ⟨oc23, od23, .func (PySem.W.fnOf "_fitting" "_fitting" (defArgs s__fitting) (defBody s__fitting) (defScope s__fitting) .none kV23 dc23 pm23 an23 cd23 ct23), sl23⟩) (c23 : PySem.W.codeIn K cd23 "_fitting" = true) (k23 : PySem.W.keepIn K (.ref f23) = true)
    {f24 : Addr} {od24 an24 : Option Addr} {sl24 : Array (Option Value)} {oc24 kV24 dc24 pm24 cd24 ct24 : Value}
    (a24 : PySem.W.nsIn K mainGlobals "run_by_liking" = some (some (.ref f24)))
    (l24 : K.lookup f24 = some ⟨oc24, od24, .func (PySem.W.fnOf "run_by_liking" "run_by_liking" (defArgs s_run_by_liking) (defBody s_run_by_liking) (defScope s_run_by_liking) .none kV24 dc24 pm24 an24 cd24 ct24), sl24⟩) (c24 : PySem.W.codeIn K cd24 "run_by_liking" = true) (k24 : PySem.W.keepIn K (.ref f24) = true)
    {f25 : Addr} {od25 an25 : Option Addr} {sl25 : Array (Option Value)} {oc25 kV25 dc25 pm25 cd25 ct25 : Value}
    (a25 : PySem.W.nsIn K mainGlobals "large_run" = some (some (.ref f25)))
    (l25 : K.lookup f25 = some ⟨oc25, od25, .func (PySem.W.fnOf "large_run" "large_run" (defArgs s_large_run) (defBody s_large_run) (defScope s_large_run) .none kV25 dc25 pm25 an25 cd25 ct25), sl25⟩) (c25 : PySem.W.codeIn K cd25 "large_run" = true) (k25 : PySem.W.keepIn K (.ref f25) = true)
    {f26 : Addr} {od26 an26 : Option Addr} {sl26 : Array (Option Value)} {oc26 kV26 dc26 pm26 cd26 ct26 : Value}
    (a26 : PySem.W.nsIn K mainGlobals "order_by_feet" = some (some (.ref f26)))
    (l26 : K.lookup f26 = some ⟨oc26, od26, .func (PySem.W.fnOf "order_by_feet" "order_by_feet" (defArgs s_order_by_feet) (defBody s_order_by_feet) (defScope s_order_by_feet) .none kV26 dc26 pm26 an26 cd26 ct26), sl26⟩) (c26 : PySem.W.codeIn K cd26 "order_by_feet" = true) (k26 : PySem.W.keepIn K (.ref f26) = true)
    {f27 : Addr} {od27 an27 : Option Addr} {sl27 : Array (Option Value)} {oc27 kV27 dc27 pm27 cd27 ct27 : Value}
    (a27 : PySem.W.nsIn K mainGlobals "_word_at" = some (some (.ref f27)))
    (l27 : K.lookup f27 = some ⟨oc27, od27, .func (PySem.W.fnOf "_word_at" "_word_at" (defArgs s__word_at) (defBody s__word_at) (defScope s__word_at) .none kV27 dc27 pm27 an27 cd27 ct27), sl27⟩) (c27 : PySem.W.codeIn K cd27 "_word_at" = true) (k27 : PySem.W.keepIn K (.ref f27) = true)
    {f28 : Addr} {od28 an28 : Option Addr} {sl28 : Array (Option Value)} {oc28 kV28 dc28 pm28 cd28 ct28 : Value}
    (a28 : PySem.W.nsIn K mainGlobals "sure_certificate" = some (some (.ref f28)))
    (l28 : K.lookup f28 = some ⟨oc28, od28, .func (PySem.W.fnOf "sure_certificate" "sure_certificate" (defArgs s_sure_certificate) (defBody s_sure_certificate) (defScope s_sure_certificate) .none kV28 dc28 pm28 an28 cd28 ct28), sl28⟩) (c28 : PySem.W.codeIn K cd28 "sure_certificate" = true) (k28 : PySem.W.keepIn K (.ref f28) = true)
    {f29 : Addr} {od29 an29 : Option Addr} {sl29 : Array (Option Value)} {oc29 kV29 dc29 pm29 cd29 ct29 : Value}
    (a29 : PySem.W.nsIn K mainGlobals "small_run" = some (some (.ref f29)))
    (l29 : K.lookup f29 = some ⟨oc29, od29, .func (PySem.W.fnOf "small_run" "small_run" (defArgs s_small_run) (defBody s_small_run) (defScope s_small_run) .none kV29 dc29 pm29 an29 cd29 ct29), sl29⟩) (c29 : PySem.W.codeIn K cd29 "small_run" = true) (k29 : PySem.W.keepIn K (.ref f29) = true)
    {f30 : Addr} {od30 an30 : Option Addr} {sl30 : Array (Option Value)} {oc30 kV30 dc30 pm30 cd30 ct30 : Value}
    (a30 : PySem.W.nsIn K mainGlobals "_law_queried" = some (some (.ref f30)))
    (l30 : K.lookup f30 = some ⟨oc30, od30, .func (PySem.W.fnOf "_law_queried" "_law_queried" (defArgs s__law_queried) (defBody s__law_queried) (defScope s__law_queried) .none kV30 dc30 pm30 an30 cd30 ct30), sl30⟩) (c30 : PySem.W.codeIn K cd30 "_law_queried" = true) (k30 : PySem.W.keepIn K (.ref f30) = true)
    {f31 : Addr} {od31 an31 : Option Addr} {sl31 : Array (Option Value)} {oc31 kV31 dc31 pm31 cd31 ct31 : Value}
    (a31 : PySem.W.nsIn K mainGlobals "_law_told" = some (some (.ref f31)))
    (l31 : K.lookup f31 = some ⟨oc31, od31, .func (PySem.W.fnOf "_law_told" "_law_told" (defArgs s__law_told) (defBody s__law_told) (defScope s__law_told) .none kV31 dc31 pm31 an31 cd31 ct31), sl31⟩) (c31 : PySem.W.codeIn K cd31 "_law_told" = true) (k31 : PySem.W.keepIn K (.ref f31) = true)
    {f32 : Addr} {od32 an32 : Option Addr} {sl32 : Array (Option Value)} {oc32 kV32 dc32 pm32 cd32 ct32 : Value}
    (a32 : PySem.W.nsIn K mainGlobals "_law_is_within" = some (some (.ref f32)))
    (l32 : K.lookup f32 = some ⟨oc32, od32, .func (PySem.W.fnOf "_law_is_within" "_law_is_within" (defArgs s__law_is_within) (defBody s__law_is_within) (defScope s__law_is_within) .none kV32 dc32 pm32 an32 cd32 ct32), sl32⟩) (c32 : PySem.W.codeIn K cd32 "_law_is_within" = true) (k32 : PySem.W.keepIn K (.ref f32) = true)
    {f33 : Addr} {od33 an33 : Option Addr} {sl33 : Array (Option Value)} {oc33 kV33 dc33 pm33 cd33 ct33 : Value}
    (a33 : PySem.W.nsIn K mainGlobals "_law_walked" = some (some (.ref f33)))
    (l33 : K.lookup f33 = some ⟨oc33, od33, .func (PySem.W.fnOf "_law_walked" "_law_walked" (defArgs s__law_walked) (defBody s__law_walked) (defScope s__law_walked) .none kV33 dc33 pm33 an33 cd33 ct33), sl33⟩) (c33 : PySem.W.codeIn K cd33 "_law_walked" = true) (k33 : PySem.W.keepIn K (.ref f33) = true)
    {f34 : Addr} {od34 an34 : Option Addr} {sl34 : Array (Option Value)} {oc34 kV34 dc34 pm34 cd34 ct34 : Value}
    (a34 : PySem.W.nsIn K mainGlobals "_law_expected" = some (some (.ref f34)))
    (l34 : K.lookup f34 = some ⟨oc34, od34, .func (PySem.W.fnOf "_law_expected" "_law_expected" (defArgs s__law_expected) (defBody s__law_expected) (defScope s__law_expected) .none kV34 dc34 pm34 an34 cd34 ct34), sl34⟩) (c34 : PySem.W.codeIn K cd34 "_law_expected" = true) (k34 : PySem.W.keepIn K (.ref f34) = true)
    {f35 : Addr} {od35 an35 : Option Addr} {sl35 : Array (Option Value)} {oc35 kV35 dc35 pm35 cd35 ct35 : Value}
    (a35 : PySem.W.nsIn K mainGlobals "_law_ends" = some (some (.ref f35)))
    (l35 : K.lookup f35 = some ⟨oc35, od35, .func (PySem.W.fnOf "_law_ends" "_law_ends" (defArgs s__law_ends) (defBody s__law_ends) (defScope s__law_ends) .none kV35 dc35 pm35 an35 cd35 ct35), sl35⟩) (c35 : PySem.W.codeIn K cd35 "_law_ends" = true) (k35 : PySem.W.keepIn K (.ref f35) = true)
    {f36 : Addr} {od36 an36 : Option Addr} {sl36 : Array (Option Value)} {oc36 kV36 dc36 pm36 cd36 ct36 : Value}
    (a36 : PySem.W.nsIn K mainGlobals "law" = some (some (.ref f36)))
    (l36 : K.lookup f36 = some ⟨oc36, od36, .func (PySem.W.fnOf "law" "law" (defArgs s_law) (defBody s_law) (defScope s_law) .none kV36 dc36 pm36 an36 cd36 ct36), sl36⟩) (c36 : PySem.W.codeIn K cd36 "law" = true) (k36 : PySem.W.keepIn K (.ref f36) = true)
    {f37 : Addr} {od37 an37 : Option Addr} {sl37 : Array (Option Value)} {oc37 kV37 dc37 pm37 cd37 ct37 : Value}
    (a37 : PySem.W.findIn K (.ref C.Party) "_stand" = some (some (.ref f37))) (fn37 : PySem.W.isFn K (.ref f37) = true)
    (l37 : K.lookup f37 = some ⟨oc37, od37, .func (PySem.W.fnOf "_stand" "Party._stand" (defArgs s_Party__stand) (defBody s_Party__stand) (defScope s_Party__stand) .none kV37 dc37 pm37 an37 cd37 ct37), sl37⟩) (c37 : PySem.W.codeIn K cd37 "Party._stand" = true) (k37 : PySem.W.keepIn K (.ref f37) = true)
    {f38 : Addr} {od38 an38 : Option Addr} {sl38 : Array (Option Value)} {oc38 kV38 dc38 pm38 cd38 ct38 : Value}
    (a38 : PySem.W.findIn K (.ref C.Party) "__init__" = some (some (.ref f38))) (fn38 : PySem.W.isFn K (.ref f38) = true)
    (l38 : K.lookup f38 = some ⟨oc38, od38, .func (PySem.W.fnOf "__init__" "Party.__init__" (defArgs s_Party___init__) (defBody s_Party___init__) (defScope s_Party___init__) .none kV38 dc38 pm38 an38 cd38 ct38), sl38⟩) (c38 : PySem.W.codeIn K cd38 "Party.__init__" = true) (k38 : PySem.W.keepIn K (.ref f38) = true)
    {f39 : Addr} {od39 an39 : Option Addr} {sl39 : Array (Option Value)} {oc39 kV39 dc39 pm39 cd39 ct39 : Value}
    (a39 : PySem.W.findIn K (.ref C.Party) "_ask_idle" = some (some (.ref f39))) (fn39 : PySem.W.isFn K (.ref f39) = true)
    (l39 : K.lookup f39 = some ⟨oc39, od39, .func (PySem.W.fnOf "_ask_idle" "Party._ask_idle" (defArgs s_Party__ask_idle) (defBody s_Party__ask_idle) (defScope s_Party__ask_idle) .none kV39 dc39 pm39 an39 cd39 ct39), sl39⟩) (c39 : PySem.W.codeIn K cd39 "Party._ask_idle" = true) (k39 : PySem.W.keepIn K (.ref f39) = true)
    {f40 : Addr} {od40 an40 : Option Addr} {sl40 : Array (Option Value)} {oc40 kV40 dc40 pm40 cd40 ct40 : Value}
    (a40 : PySem.W.findIn K (.ref C.Party) "_ask_pledge" = some (some (.ref f40))) (fn40 : PySem.W.isFn K (.ref f40) = true)
    (l40 : K.lookup f40 = some ⟨oc40, od40, .func (PySem.W.fnOf "_ask_pledge" "Party._ask_pledge" (defArgs s_Party__ask_pledge) (defBody s_Party__ask_pledge) (defScope s_Party__ask_pledge) .none kV40 dc40 pm40 an40 cd40 ct40), sl40⟩) (c40 : PySem.W.codeIn K cd40 "Party._ask_pledge" = true) (k40 : PySem.W.keepIn K (.ref f40) = true)
    {f41 : Addr} {od41 an41 : Option Addr} {sl41 : Array (Option Value)} {oc41 kV41 dc41 pm41 cd41 ct41 : Value}
    (a41 : PySem.W.findIn K (.ref C.Party) "_do" = some (some (.ref f41))) (fn41 : PySem.W.isFn K (.ref f41) = true)
    (l41 : K.lookup f41 = some ⟨oc41, od41, .func (PySem.W.fnOf "_do" "Party._do" (defArgs s_Party__do) (defBody s_Party__do) (defScope s_Party__do) .none kV41 dc41 pm41 an41 cd41 ct41), sl41⟩) (c41 : PySem.W.codeIn K cd41 "Party._do" = true) (k41 : PySem.W.keepIn K (.ref f41) = true)
    {f42 : Addr} {od42 an42 : Option Addr} {sl42 : Array (Option Value)} {oc42 kV42 dc42 pm42 cd42 ct42 : Value}
    (a42 : PySem.W.findIn K (.ref C.Party) "_edit" = some (some (.ref f42))) (fn42 : PySem.W.isFn K (.ref f42) = true)
    (l42 : K.lookup f42 = some ⟨oc42, od42, .func (PySem.W.fnOf "_edit" "Party._edit" (defArgs s_Party__edit) (defBody s_Party__edit) (defScope s_Party__edit) .none kV42 dc42 pm42 an42 cd42 ct42), sl42⟩) (c42 : PySem.W.codeIn K cd42 "Party._edit" = true) (k42 : PySem.W.keepIn K (.ref f42) = true)
    {f43 : Addr} {od43 an43 : Option Addr} {sl43 : Array (Option Value)} {oc43 kV43 dc43 pm43 cd43 ct43 : Value}
    (a43 : PySem.W.findIn K (.ref C.Party) "take" = some (some (.ref f43))) (fn43 : PySem.W.isFn K (.ref f43) = true)
    (l43 : K.lookup f43 = some ⟨oc43, od43, .func (PySem.W.fnOf "take" "Party.take" (defArgs s_Party_take) (defBody s_Party_take) (defScope s_Party_take) .none kV43 dc43 pm43 an43 cd43 ct43), sl43⟩) (c43 : PySem.W.codeIn K cd43 "Party.take" = true) (k43 : PySem.W.keepIn K (.ref f43) = true)
    {f44 : Addr} {od44 an44 : Option Addr} {sl44 : Array (Option Value)} {oc44 kV44 dc44 pm44 cd44 ct44 : Value}
    (a44 : PySem.W.findIn K (.ref C.Party) "come" = some (some (.ref f44))) (fn44 : PySem.W.isFn K (.ref f44) = true)
    (l44 : K.lookup f44 = some ⟨oc44, od44, .func (PySem.W.fnOf "come" "Party.come" (defArgs s_Party_come) (defBody s_Party_come) (defScope s_Party_come) .none kV44 dc44 pm44 an44 cd44 ct44), sl44⟩) (c44 : PySem.W.codeIn K cd44 "Party.come" = true) (k44 : PySem.W.keepIn K (.ref f44) = true)
    {f45 : Addr} {od45 an45 : Option Addr} {sl45 : Array (Option Value)} {oc45 kV45 dc45 pm45 cd45 ct45 : Value}
    (a45 : PySem.W.findIn K (.ref C.Party) "leave" = some (some (.ref f45))) (fn45 : PySem.W.isFn K (.ref f45) = true)
    (l45 : K.lookup f45 = some ⟨oc45, od45, .func (PySem.W.fnOf "leave" "Party.leave" (defArgs s_Party_leave) (defBody s_Party_leave) (defScope s_Party_leave) .none kV45 dc45 pm45 an45 cd45 ct45), sl45⟩) (c45 : PySem.W.codeIn K cd45 "Party.leave" = true) (k45 : PySem.W.keepIn K (.ref f45) = true)
    {f46 : Addr} {od46 an46 : Option Addr} {sl46 : Array (Option Value)} {oc46 kV46 dc46 pm46 cd46 ct46 : Value}
    (a46 : PySem.W.findIn K (.ref C.Party) "put" = some (some (.ref f46))) (fn46 : PySem.W.isFn K (.ref f46) = true)
    (l46 : K.lookup f46 = some ⟨oc46, od46, .func (PySem.W.fnOf "put" "Party.put" (defArgs s_Party_put) (defBody s_Party_put) (defScope s_Party_put) .none kV46 dc46 pm46 an46 cd46 ct46), sl46⟩) (c46 : PySem.W.codeIn K cd46 "Party.put" = true) (k46 : PySem.W.keepIn K (.ref f46) = true)
    {f47 : Addr} {od47 an47 : Option Addr} {sl47 : Array (Option Value)} {oc47 kV47 dc47 pm47 cd47 ct47 : Value}
    (a47 : PySem.W.findIn K (.ref C.Party) "_hall_at" = some (some (.ref f47))) (fn47 : PySem.W.isFn K (.ref f47) = true)
    (l47 : K.lookup f47 = some ⟨oc47, od47, .func (PySem.W.fnOf "_hall_at" "Party._hall_at" (defArgs s_Party__hall_at) (defBody s_Party__hall_at) (defScope s_Party__hall_at) .none kV47 dc47 pm47 an47 cd47 ct47), sl47⟩) (c47 : PySem.W.codeIn K cd47 "Party._hall_at" = true) (k47 : PySem.W.keepIn K (.ref f47) = true)
    {f48 : Addr} {od48 an48 : Option Addr} {sl48 : Array (Option Value)} {oc48 dc48 pm48 cd48 ct48 : Value}
    (a48 : PySem.W.findIn K (.ref C.Party) "certificate" = some (some (.ref f48))) (fn48 : PySem.W.isFn K (.ref f48) = true)
    {D48 : Addr}
    (l48 : K.lookup f48 = some ⟨oc48, od48, .func (PySem.W.fnOf "certificate" "Party.certificate" (defArgs s_Party_certificate) (defBody s_Party_certificate) (defScope s_Party_certificate) .none (.ref D48) dc48 pm48 an48 cd48 ct48), sl48⟩) (c48 : PySem.W.codeIn K cd48 "Party.certificate" = true) (k48 : PySem.W.keepIn K (.ref f48) = true)
    (kd48 : PySem.W.nsIn K D48 "version" = some (some .none))
    {f49 : Addr} {od49 an49 : Option Addr} {sl49 : Array (Option Value)} {oc49 dc49 pm49 cd49 ct49 : Value}
    (a49 : PySem.W.findIn K (.ref C.Party) "state" = some (some (.ref f49))) (fn49 : PySem.W.isFn K (.ref f49) = true)
    {D49 : Addr}
    (l49 : K.lookup f49 = some ⟨oc49, od49, .func (PySem.W.fnOf "state" "Party.state" (defArgs s_Party_state) (defBody s_Party_state) (defScope s_Party_state) .none (.ref D49) dc49 pm49 an49 cd49 ct49), sl49⟩) (c49 : PySem.W.codeIn K cd49 "Party.state" = true) (k49 : PySem.W.keepIn K (.ref f49) = true)
    (kd49 : PySem.W.nsIn K D49 "version" = some (some .none))
    {f50 : Addr} {od50 an50 : Option Addr} {sl50 : Array (Option Value)} {oc50 dc50 pm50 cd50 ct50 : Value}
    (a50 : PySem.W.findIn K (.ref C.Party) "walk" = some (some (.ref f50))) (fn50 : PySem.W.isFn K (.ref f50) = true)
    {D50 : Addr}
    (l50 : K.lookup f50 = some ⟨oc50, od50, .func (PySem.W.fnOf "walk" "Party.walk" (defArgs s_Party_walk) (defBody s_Party_walk) (defScope s_Party_walk) .none (.ref D50) dc50 pm50 an50 cd50 ct50), sl50⟩) (c50 : PySem.W.codeIn K cd50 "Party.walk" = true) (k50 : PySem.W.keepIn K (.ref f50) = true)
    (kd50 : PySem.W.nsIn K D50 "version" = some (some .none))
    {f51 : Addr} {od51 an51 : Option Addr} {sl51 : Array (Option Value)} {oc51 kV51 dc51 pm51 cd51 ct51 : Value}
    (a51 : PySem.W.findIn K (.ref C.Party) "undo" = some (some (.ref f51))) (fn51 : PySem.W.isFn K (.ref f51) = true)
    (l51 : K.lookup f51 = some ⟨oc51, od51, .func (PySem.W.fnOf "undo" "Party.undo" (defArgs s_Party_undo) (defBody s_Party_undo) (defScope s_Party_undo) .none kV51 dc51 pm51 an51 cd51 ct51), sl51⟩) (c51 : PySem.W.codeIn K cd51 "Party.undo" = true) (k51 : PySem.W.keepIn K (.ref f51) = true)
    {f52 : Addr} {od52 an52 : Option Addr} {sl52 : Array (Option Value)} {oc52 kV52 dc52 pm52 cd52 ct52 : Value}
    (a52 : PySem.W.findIn K (.ref C.BadHall) "__init__" = some (some (.ref f52))) (tI52 : PySem.W.typeIn K (.ref f52) = some (.type "function"))
    (l52 : K.lookup f52 = some ⟨oc52, od52, .func (PySem.W.fnOf "__init__" "BadHall.__init__" (defArgs s_BadHall_init) (defBody s_BadHall_init) (defScope s_BadHall_init) .none kV52 dc52 pm52 an52 cd52 ct52), sl52⟩) (c52 : PySem.W.codeIn K cd52 "BadHall.__init__" = true) (k52 : PySem.W.keepIn K (.ref f52) = true)
    {f53 : Addr} {od53 an53 : Option Addr} {sl53 : Array (Option Value)} {oc53 kV53 dc53 pm53 cd53 ct53 : Value}
    (a53 : PySem.W.findIn K (.ref C.BadFoot) "__init__" = some (some (.ref f53))) (tI53 : PySem.W.typeIn K (.ref f53) = some (.type "function"))
    (l53 : K.lookup f53 = some ⟨oc53, od53, .func (PySem.W.fnOf "__init__" "BadFoot.__init__" (defArgs s_BadFoot_init) (defBody s_BadFoot_init) (defScope s_BadFoot_init) .none kV53 dc53 pm53 an53 cd53 ct53), sl53⟩) (c53 : PySem.W.codeIn K cd53 "BadFoot.__init__" = true) (k53 : PySem.W.keepIn K (.ref f53) = true)
    {f54 : Addr} {od54 an54 : Option Addr} {sl54 : Array (Option Value)} {oc54 kV54 dc54 pm54 cd54 ct54 : Value}
    (a54 : PySem.W.findIn K (.ref C.NoGuest) "__init__" = some (some (.ref f54))) (tI54 : PySem.W.typeIn K (.ref f54) = some (.type "function"))
    (l54 : K.lookup f54 = some ⟨oc54, od54, .func (PySem.W.fnOf "__init__" "NoGuest.__init__" (defArgs s_NoGuest_init) (defBody s_NoGuest_init) (defScope s_NoGuest_init) .none kV54 dc54 pm54 an54 cd54 ct54), sl54⟩) (c54 : PySem.W.codeIn K cd54 "NoGuest.__init__" = true) (k54 : PySem.W.keepIn K (.ref f54) = true)
    {f55 : Addr} {od55 an55 : Option Addr} {sl55 : Array (Option Value)} {oc55 kV55 dc55 pm55 cd55 ct55 : Value}
    (a55 : PySem.W.findIn K (.ref C.BadSize) "__init__" = some (some (.ref f55))) (tI55 : PySem.W.typeIn K (.ref f55) = some (.type "function"))
    (l55 : K.lookup f55 = some ⟨oc55, od55, .func (PySem.W.fnOf "__init__" "BadSize.__init__" (defArgs s_BadSize_init) (defBody s_BadSize_init) (defScope s_BadSize_init) .none kV55 dc55 pm55 an55 cd55 ct55), sl55⟩) (c55 : PySem.W.codeIn K cd55 "BadSize.__init__" = true) (k55 : PySem.W.keepIn K (.ref f55) = true)
    {f56 : Addr} {od56 an56 : Option Addr} {sl56 : Array (Option Value)} {oc56 kV56 dc56 pm56 cd56 ct56 : Value}
    (a56 : PySem.W.findIn K (.ref C.NoPair) "__init__" = some (some (.ref f56))) (tI56 : PySem.W.typeIn K (.ref f56) = some (.type "function"))
    (l56 : K.lookup f56 = some ⟨oc56, od56, .func (PySem.W.fnOf "__init__" "NoPair.__init__" (defArgs s_NoPair_init) (defBody s_NoPair_init) (defScope s_NoPair_init) .none kV56 dc56 pm56 an56 cd56 ct56), sl56⟩) (c56 : PySem.W.codeIn K cd56 "NoPair.__init__" = true) (k56 : PySem.W.keepIn K (.ref f56) = true)
    {f57 : Addr} {od57 an57 : Option Addr} {sl57 : Array (Option Value)} {oc57 kV57 dc57 pm57 cd57 ct57 : Value}
    (a57 : PySem.W.findIn K (.ref C.NoVersion) "__init__" = some (some (.ref f57))) (tI57 : PySem.W.typeIn K (.ref f57) = some (.type "function"))
    (l57 : K.lookup f57 = some ⟨oc57, od57, .func (PySem.W.fnOf "__init__" "NoVersion.__init__" (defArgs s_NoVersion_init) (defBody s_NoVersion_init) (defScope s_NoVersion_init) .none kV57 dc57 pm57 an57 cd57 ct57), sl57⟩) (c57 : PySem.W.codeIn K cd57 "NoVersion.__init__" = true) (k57 : PySem.W.keepIn K (.ref f57) = true)
    {f58 : Addr} {od58 an58 : Option Addr} {sl58 : Array (Option Value)} {oc58 kV58 dc58 pm58 cd58 ct58 : Value}
    (a58 : PySem.W.findIn K (.ref C.BadNumber) "__init__" = some (some (.ref f58))) (tI58 : PySem.W.typeIn K (.ref f58) = some (.type "function"))
    (l58 : K.lookup f58 = some ⟨oc58, od58, .func (PySem.W.fnOf "__init__" "BadNumber.__init__" (defArgs s_BadNumber_init) (defBody s_BadNumber_init) (defScope s_BadNumber_init) .none kV58 dc58 pm58 an58 cd58 ct58), sl58⟩) (c58 : PySem.W.codeIn K cd58 "BadNumber.__init__" = true) (k58 : PySem.W.keepIn K (.ref f58) = true)
    (z_LookupError : PySem.W.nsIn K mainGlobals "LookupError" = some none)
    (z_ValueError : PySem.W.nsIn K mainGlobals "ValueError" = some none)
    (z_abs : PySem.W.nsIn K mainGlobals "abs" = some none)
    (z_all : PySem.W.nsIn K mainGlobals "all" = some none)
    (z_bool : PySem.W.nsIn K mainGlobals "bool" = some none)
    (z_enumerate : PySem.W.nsIn K mainGlobals "enumerate" = some none)
    (z_int : PySem.W.nsIn K mainGlobals "int" = some none)
    (z_isinstance : PySem.W.nsIn K mainGlobals "isinstance" = some none)
    (z_len : PySem.W.nsIn K mainGlobals "len" = some none)
    (z_list : PySem.W.nsIn K mainGlobals "list" = some none)
    (z_max : PySem.W.nsIn K mainGlobals "max" = some none)
    (z_min : PySem.W.nsIn K mainGlobals "min" = some none)
    (z_range : PySem.W.nsIn K mainGlobals "range" = some none)
    (z_repr : PySem.W.nsIn K mainGlobals "repr" = some none)
    (z_set : PySem.W.nsIn K mainGlobals "set" = some none)
    (z_sorted : PySem.W.nsIn K mainGlobals "sorted" = some none)
    (z_str : PySem.W.nsIn K mainGlobals "str" = some none)
    (z_sum : PySem.W.nsIn K mainGlobals "sum" = some none)
    (z_tuple : PySem.W.nsIn K mainGlobals "tuple" = some none)
    (z_zip : PySem.W.nsIn K mainGlobals "zip" = some none)
    {t_LIMIT : Tok} (y_LIMIT : PySem.W.nsIn K mainGlobals "LIMIT" = some (some (.int (1000) t_LIMIT)))
    {t_MAX_SIZE : Tok} (y_MAX_SIZE : PySem.W.nsIn K mainGlobals "MAX_SIZE" = some (some (.int (1000000) t_MAX_SIZE)))
    {t_MAX_GUESTS : Tok} (y_MAX_GUESTS : PySem.W.nsIn K mainGlobals "MAX_GUESTS" = some (some (.int (20) t_MAX_GUESTS)))
    {t_MAX_PAIRS : Tok} (y_MAX_PAIRS : PySem.W.nsIn K mainGlobals "MAX_PAIRS" = some (some (.int (20) t_MAX_PAIRS)))
    {t_NO_PAIR : Tok} (y_NO_PAIR : PySem.W.nsIn K mainGlobals "NO_PAIR" = some (some (.int (-1) t_NO_PAIR)))
    {t_SLASH : Tok} (y_SLASH : PySem.W.nsIn K mainGlobals "SLASH" = some (some (.str "/" t_SLASH)))
    {t_NO_PAIRS : Tok} (y_NO_PAIRS : PySem.W.nsIn K mainGlobals "NO_PAIRS" = some (some (.str "-" t_NO_PAIRS)))
    {t_WORDS : Tok} (y_WORDS : PySem.W.nsIn K mainGlobals "WORDS" = some (some (.int (3) t_WORDS)))
    (h_cg : PySem.W.specialIn K (.builtin "object.__class__") "__get__" = some (some (.builtin "getset_descriptor.__get__")))
    (h_ct : PySem.W.takesIn K (.builtin "object.__class__") = some true)
    (h_a_PartyError : PySem.W.nsIn K mainGlobals "PartyError" = some (some (.ref C.PartyError)))
    (h_ty_PartyError : PySem.W.typeIn K (.ref C.PartyError) = some (.type "type"))
    (h_hd_PartyError : PySem.W.hasDictIn K C.PartyError = true)
    (h_a_TooManyPairs : PySem.W.nsIn K mainGlobals "TooManyPairs" = some (some (.ref C.TooManyPairs)))
    (h_ty_TooManyPairs : PySem.W.typeIn K (.ref C.TooManyPairs) = some (.type "type"))
    (h_k_TooManyPairs : PySem.W.keepIn K (.ref C.TooManyPairs) = true)
    (h_a_BadFoot : PySem.W.nsIn K mainGlobals "BadFoot" = some (some (.ref C.BadFoot)))
    (h_ty_BadFoot : PySem.W.typeIn K (.ref C.BadFoot) = some (.type "type"))
    (h_k_BadFoot : PySem.W.keepIn K (.ref C.BadFoot) = true)
    (h_sa_BadFoot : PySem.W.findIn K (.ref C.BadFoot) "__setattr__" = some (some (.builtin "object.__setattr__")))
    (h_a_BadHall : PySem.W.nsIn K mainGlobals "BadHall" = some (some (.ref C.BadHall)))
    (h_ty_BadHall : PySem.W.typeIn K (.ref C.BadHall) = some (.type "type"))
    (h_k_BadHall : PySem.W.keepIn K (.ref C.BadHall) = true)
    (h_sa_BadHall : PySem.W.findIn K (.ref C.BadHall) "__setattr__" = some (some (.builtin "object.__setattr__")))
    (h_a_Busy : PySem.W.nsIn K mainGlobals "Busy" = some (some (.ref C.Busy)))
    (h_ty_Busy : PySem.W.typeIn K (.ref C.Busy) = some (.type "type"))
    (h_k_Busy : PySem.W.keepIn K (.ref C.Busy) = true)
    (h_a_TooManyEdits : PySem.W.nsIn K mainGlobals "TooManyEdits" = some (some (.ref C.TooManyEdits)))
    (h_ty_TooManyEdits : PySem.W.typeIn K (.ref C.TooManyEdits) = some (.type "type"))
    (h_k_TooManyEdits : PySem.W.keepIn K (.ref C.TooManyEdits) = true)
    (h_a_TooManyGuests : PySem.W.nsIn K mainGlobals "TooManyGuests" = some (some (.ref C.TooManyGuests)))
    (h_ty_TooManyGuests : PySem.W.typeIn K (.ref C.TooManyGuests) = some (.type "type"))
    (h_k_TooManyGuests : PySem.W.keepIn K (.ref C.TooManyGuests) = true)
    (h_a_LastGuest : PySem.W.nsIn K mainGlobals "LastGuest" = some (some (.ref C.LastGuest)))
    (h_ty_LastGuest : PySem.W.typeIn K (.ref C.LastGuest) = some (.type "type"))
    (h_k_LastGuest : PySem.W.keepIn K (.ref C.LastGuest) = true)
    (h_a_BadSize : PySem.W.nsIn K mainGlobals "BadSize" = some (some (.ref C.BadSize)))
    (h_ty_BadSize : PySem.W.typeIn K (.ref C.BadSize) = some (.type "type"))
    (h_k_BadSize : PySem.W.keepIn K (.ref C.BadSize) = true)
    (h_sa_BadSize : PySem.W.findIn K (.ref C.BadSize) "__setattr__" = some (some (.builtin "object.__setattr__")))
    (h_a_NothingToUndo : PySem.W.nsIn K mainGlobals "NothingToUndo" = some (some (.ref C.NothingToUndo)))
    (h_ty_NothingToUndo : PySem.W.typeIn K (.ref C.NothingToUndo) = some (.type "type"))
    (h_k_NothingToUndo : PySem.W.keepIn K (.ref C.NothingToUndo) = true)
    (h_a_BadEdits : PySem.W.nsIn K mainGlobals "BadEdits" = some (some (.ref C.BadEdits)))
    (h_cl_BadEdits : PySem.W.isClsIn K C.BadEdits = true)
    (h_ty_BadEdits : PySem.W.typeIn K (.ref C.BadEdits) = some (.type "type"))
    (h_s_BadEdits_BadEdits : PySem.W.subIn K (.ref C.BadEdits) (.ref C.BadEdits) = some true)
    (h_a_BadNumber : PySem.W.nsIn K mainGlobals "BadNumber" = some (some (.ref C.BadNumber)))
    (h_cl_BadNumber : PySem.W.isClsIn K C.BadNumber = true)
    (h_ty_BadNumber : PySem.W.typeIn K (.ref C.BadNumber) = some (.type "type"))
    (h_k_BadNumber : PySem.W.keepIn K (.ref C.BadNumber) = true)
    (h_hd_BadNumber : PySem.W.hasDictIn K C.BadNumber = true)
    (h_ca_BadNumber : PySem.W.findIn K (.ref C.BadNumber) "__class__" = some (some (.builtin "object.__class__")))
    (h_mo_BadNumber : PySem.W.mroIn K C.BadNumber (.type "object") = some true)
    (h_sa_BadNumber : PySem.W.findIn K (.ref C.BadNumber) "__setattr__" = some (some (.builtin "object.__setattr__")))
    (h_s_BadNumber_PartyError : PySem.W.subIn K (.ref C.BadNumber) (.ref C.PartyError) = some true)
    (h_s_BadNumber_BadEdits : PySem.W.subIn K (.ref C.BadNumber) (.ref C.BadEdits) = some false)
    (h_s_BadNumber_BadNumber : PySem.W.subIn K (.ref C.BadNumber) (.ref C.BadNumber) = some true)
    (h_s_BadNumber_TooFewServed : PySem.W.subIn K (.ref C.BadNumber) (.ref C.TooFewServed) = some false)
    (h_s_BadNumber_NoVersion : PySem.W.subIn K (.ref C.BadNumber) (.ref C.NoVersion) = some false)
    (h_s_BadNumber_ValueError : PySem.W.subIn K (.ref C.BadNumber) (.type "ValueError") = some true)
    (h_a_TooFewServed : PySem.W.nsIn K mainGlobals "TooFewServed" = some (some (.ref C.TooFewServed)))
    (h_cl_TooFewServed : PySem.W.isClsIn K C.TooFewServed = true)
    (h_ty_TooFewServed : PySem.W.typeIn K (.ref C.TooFewServed) = some (.type "type"))
    (h_s_TooFewServed_TooFewServed : PySem.W.subIn K (.ref C.TooFewServed) (.ref C.TooFewServed) = some true)
    (h_a_BadText : PySem.W.nsIn K mainGlobals "BadText" = some (some (.ref C.BadText)))
    (h_a_NoPlace : PySem.W.nsIn K mainGlobals "NoPlace" = some (some (.ref C.NoPlace)))
    (h_cl_NoPlace : PySem.W.isClsIn K C.NoPlace = true)
    (h_ty_NoPlace : PySem.W.typeIn K (.ref C.NoPlace) = some (.type "type"))
    (h_s_NoPlace_NoPlace : PySem.W.subIn K (.ref C.NoPlace) (.ref C.NoPlace) = some true)
    (h_a_NoGuest : PySem.W.nsIn K mainGlobals "NoGuest" = some (some (.ref C.NoGuest)))
    (h_cl_NoGuest : PySem.W.isClsIn K C.NoGuest = true)
    (h_ty_NoGuest : PySem.W.typeIn K (.ref C.NoGuest) = some (.type "type"))
    (h_k_NoGuest : PySem.W.keepIn K (.ref C.NoGuest) = true)
    (h_sa_NoGuest : PySem.W.findIn K (.ref C.NoGuest) "__setattr__" = some (some (.builtin "object.__setattr__")))
    (h_s_NoGuest_NoGuest : PySem.W.subIn K (.ref C.NoGuest) (.ref C.NoGuest) = some true)
    (h_a_NoPair : PySem.W.nsIn K mainGlobals "NoPair" = some (some (.ref C.NoPair)))
    (h_cl_NoPair : PySem.W.isClsIn K C.NoPair = true)
    (h_ty_NoPair : PySem.W.typeIn K (.ref C.NoPair) = some (.type "type"))
    (h_k_NoPair : PySem.W.keepIn K (.ref C.NoPair) = true)
    (h_sa_NoPair : PySem.W.findIn K (.ref C.NoPair) "__setattr__" = some (some (.builtin "object.__setattr__")))
    (h_s_NoPair_NoPair : PySem.W.subIn K (.ref C.NoPair) (.ref C.NoPair) = some true)
    (h_a_NoVersion : PySem.W.nsIn K mainGlobals "NoVersion" = some (some (.ref C.NoVersion)))
    (h_cl_NoVersion : PySem.W.isClsIn K C.NoVersion = true)
    (h_ty_NoVersion : PySem.W.typeIn K (.ref C.NoVersion) = some (.type "type"))
    (h_k_NoVersion : PySem.W.keepIn K (.ref C.NoVersion) = true)
    (h_hd_NoVersion : PySem.W.hasDictIn K C.NoVersion = true)
    (h_ca_NoVersion : PySem.W.findIn K (.ref C.NoVersion) "__class__" = some (some (.builtin "object.__class__")))
    (h_mo_NoVersion : PySem.W.mroIn K C.NoVersion (.type "object") = some true)
    (h_sa_NoVersion : PySem.W.findIn K (.ref C.NoVersion) "__setattr__" = some (some (.builtin "object.__setattr__")))
    (h_s_NoVersion_NoPlace : PySem.W.subIn K (.ref C.NoVersion) (.ref C.NoPlace) = some false)
    (h_s_NoVersion_NoGuest : PySem.W.subIn K (.ref C.NoVersion) (.ref C.NoGuest) = some false)
    (h_s_NoVersion_NoPair : PySem.W.subIn K (.ref C.NoVersion) (.ref C.NoPair) = some false)
    (h_s_NoVersion_NoVersion : PySem.W.subIn K (.ref C.NoVersion) (.ref C.NoVersion) = some true)
    (h_s_NoVersion_ValueError : PySem.W.subIn K (.ref C.NoVersion) (.type "ValueError") = some false)
    (h_s_NoVersion_StopIteration : PySem.W.subIn K (.ref C.NoVersion) (.type "StopIteration") = some false)
    (h_a_Party : PySem.W.nsIn K mainGlobals "Party" = some (some (.ref C.Party)))
    (h_k_Party : PySem.W.keepIn K (.ref C.Party) = true)
    (h_hd_Party : PySem.W.hasDictIn K C.Party = true)
    (h_sa_Party : PySem.W.findIn K (.ref C.Party) "__setattr__" = some (some (.builtin "object.__setattr__")))
    (h_sb_PartyError : PySem.W.subIn K (.ref C.PartyError) (.type "BaseException") = some true)
    (h_sb_TooManyPairs : PySem.W.subIn K (.ref C.TooManyPairs) (.type "BaseException") = some true)
    (h_sb_BadFoot : PySem.W.subIn K (.ref C.BadFoot) (.type "BaseException") = some true)
    (h_n_BadFoot : PySem.W.findIn K (.ref C.BadFoot) "value" = some none)
    (h_sb_BadHall : PySem.W.subIn K (.ref C.BadHall) (.type "BaseException") = some true)
    (h_n_BadHall : PySem.W.findIn K (.ref C.BadHall) "error" = some none)
    (h_sb_Busy : PySem.W.subIn K (.ref C.Busy) (.type "BaseException") = some true)
    (h_sb_TooManyEdits : PySem.W.subIn K (.ref C.TooManyEdits) (.type "BaseException") = some true)
    (h_sb_TooManyGuests : PySem.W.subIn K (.ref C.TooManyGuests) (.type "BaseException") = some true)
    (h_sb_LastGuest : PySem.W.subIn K (.ref C.LastGuest) (.type "BaseException") = some true)
    (h_sb_BadSize : PySem.W.subIn K (.ref C.BadSize) (.type "BaseException") = some true)
    (h_n_BadSize : PySem.W.findIn K (.ref C.BadSize) "value" = some none)
    (h_sb_NothingToUndo : PySem.W.subIn K (.ref C.NothingToUndo) (.type "BaseException") = some true)
    (h_ga_BadNumber : PySem.W.findIn K (.ref C.BadNumber) "__getattribute__" = some (some (.builtin "BaseException.__getattribute__")))
    (h_gt_BadNumber : PySem.W.findIn K (.ref C.BadNumber) "__getattr__" = some none)
    (h_sb_BadNumber : PySem.W.subIn K (.ref C.BadNumber) (.type "BaseException") = some true)
    (h_n_BadNumber : PySem.W.findIn K (.ref C.BadNumber) "value" = some none)
    (h_sb_NoGuest : PySem.W.subIn K (.ref C.NoGuest) (.type "BaseException") = some true)
    (h_n_NoGuest : PySem.W.findIn K (.ref C.NoGuest) "value" = some none)
    (h_sb_NoPair : PySem.W.subIn K (.ref C.NoPair) (.type "BaseException") = some true)
    (h_n_NoPair : PySem.W.findIn K (.ref C.NoPair) "value" = some none)
    (h_ga_NoVersion : PySem.W.findIn K (.ref C.NoVersion) "__getattribute__" = some (some (.builtin "BaseException.__getattribute__")))
    (h_gt_NoVersion : PySem.W.findIn K (.ref C.NoVersion) "__getattr__" = some none)
    (h_sb_NoVersion : PySem.W.subIn K (.ref C.NoVersion) (.type "BaseException") = some true)
    (h_n_NoVersion : PySem.W.findIn K (.ref C.NoVersion) "value" = some none)
    {tv_cv_Party_MOST_EDITS : Tok} (h_cv_Party_MOST_EDITS : PySem.W.findIn K (.ref C.Party) "MOST_EDITS" = some (some (.int 60 tv_cv_Party_MOST_EDITS)))
    (h_a_CHANGES : PySem.W.nsIn K mainGlobals "CHANGES" = some (some (.ref C.CHANGES)))
    (h_pg_Party : PySem.W.plainGet K C.Party Str.empty = true)
    (h_po_Party : PySem.W.plainOver K C.Party = true)
    (h_mk_Party : PySem.W.makesIn K C.Party = true)
    (h_f_Party__busy : PySem.W.findIn K (.ref C.Party) "_busy" = some none)
    (h_f_Party_hall : PySem.W.findIn K (.ref C.Party) "hall" = some none)
    (h_f_Party_most : PySem.W.findIn K (.ref C.Party) "most" = some none)
    (h_f_Party_fewest : PySem.W.findIn K (.ref C.Party) "fewest" = some none)
    (h_f_Party__halls : PySem.W.findIn K (.ref C.Party) "_halls" = some none)
    (h_f_Party__done : PySem.W.findIn K (.ref C.Party) "_done" = some none)
    (hk_CHANGES_come : PySem.W.nsIn K C.CHANGES "come" = some (some (.ref f17)))
    (hk_CHANGES_leave : PySem.W.nsIn K C.CHANGES "leave" = some (some (.ref f18)))
    (hk_CHANGES_put : PySem.W.nsIn K C.CHANGES "put" = some (some (.ref f19)))
    (hk_CHANGES_take : PySem.W.nsIn K C.CHANGES "take" = some (some (.ref f20)))
    {es_CHANGES : Array DictEntry} {nd_CHANGES : Nat} (kd_CHANGES : K.lookup C.CHANGES = some ⟨.type "dict", none, .dict es_CHANGES nd_CHANGES, #[]⟩)
    (kl_CHANGES : PySem.W.KeysLit w.params es_CHANGES.toList) (ks_CHANGES : (C.CHANGES == sysModules) = false)
    {nm_BadHall q_BadHall : Str} {N_BadHall : Addr} {bs_BadHall bm_BadHall : List Value} {sn_BadHall : List Str} {sub_BadHall : List Value} {ab_BadHall : Bool} {col_BadHall : Option Bool} {dd_BadHall : Option Addr} {m0_BadHall m1_BadHall m2_BadHall m3_BadHall m5_BadHall : Option Value}
    (xL_BadHall : K.lookup C.BadHall = some (excClassObj nm_BadHall q_BadHall C.BadHall N_BadHall bs_BadHall bm_BadHall true sn_BadHall sub_BadHall ab_BadHall col_BadHall dd_BadHall m0_BadHall m1_BadHall m2_BadHall m3_BadHall m5_BadHall "ValueError.__new__")) (xr_BadHall : PySem.HandSPX.refsVE bm_BadHall = true)
    {nm_BadFoot q_BadFoot : Str} {N_BadFoot : Addr} {bs_BadFoot bm_BadFoot : List Value} {sn_BadFoot : List Str} {sub_BadFoot : List Value} {ab_BadFoot : Bool} {col_BadFoot : Option Bool} {dd_BadFoot : Option Addr} {m0_BadFoot m1_BadFoot m2_BadFoot m3_BadFoot m5_BadFoot : Option Value}
    (xL_BadFoot : K.lookup C.BadFoot = some (excClassObj nm_BadFoot q_BadFoot C.BadFoot N_BadFoot bs_BadFoot bm_BadFoot true sn_BadFoot sub_BadFoot ab_BadFoot col_BadFoot dd_BadFoot m0_BadFoot m1_BadFoot m2_BadFoot m3_BadFoot m5_BadFoot "ValueError.__new__")) (xr_BadFoot : PySem.HandSPX.refsVE bm_BadFoot = true)
    {nm_NoGuest q_NoGuest : Str} {N_NoGuest : Addr} {bs_NoGuest : List Value} {sn_NoGuest : List Str} {sub_NoGuest : List Value} {ab_NoGuest : Bool} {col_NoGuest : Option Bool} {dd_NoGuest : Option Addr} {m0_NoGuest m1_NoGuest m2_NoGuest m3_NoGuest m5_NoGuest : Option Value}
    (xL_NoGuest : K.lookup C.NoGuest = some (excClassObj nm_NoGuest q_NoGuest C.NoGuest N_NoGuest bs_NoGuest LkE.leT true sn_NoGuest sub_NoGuest ab_NoGuest col_NoGuest dd_NoGuest m0_NoGuest m1_NoGuest m2_NoGuest m3_NoGuest m5_NoGuest "LookupError.__new__"))
    {nm_BadSize q_BadSize : Str} {N_BadSize : Addr} {bs_BadSize bm_BadSize : List Value} {sn_BadSize : List Str} {sub_BadSize : List Value} {ab_BadSize : Bool} {col_BadSize : Option Bool} {dd_BadSize : Option Addr} {m0_BadSize m1_BadSize m2_BadSize m3_BadSize m5_BadSize : Option Value}
    (xL_BadSize : K.lookup C.BadSize = some (excClassObj nm_BadSize q_BadSize C.BadSize N_BadSize bs_BadSize bm_BadSize true sn_BadSize sub_BadSize ab_BadSize col_BadSize dd_BadSize m0_BadSize m1_BadSize m2_BadSize m3_BadSize m5_BadSize "ValueError.__new__")) (xr_BadSize : PySem.HandSPX.refsVE bm_BadSize = true)
    {nm_NoPair q_NoPair : Str} {N_NoPair : Addr} {bs_NoPair : List Value} {sn_NoPair : List Str} {sub_NoPair : List Value} {ab_NoPair : Bool} {col_NoPair : Option Bool} {dd_NoPair : Option Addr} {m0_NoPair m1_NoPair m2_NoPair m3_NoPair m5_NoPair : Option Value}
    (xL_NoPair : K.lookup C.NoPair = some (excClassObj nm_NoPair q_NoPair C.NoPair N_NoPair bs_NoPair LkE.leT true sn_NoPair sub_NoPair ab_NoPair col_NoPair dd_NoPair m0_NoPair m1_NoPair m2_NoPair m3_NoPair m5_NoPair "LookupError.__new__"))
    {nm_NoVersion q_NoVersion : Str} {N_NoVersion : Addr} {bs_NoVersion : List Value} {sn_NoVersion : List Str} {sub_NoVersion : List Value} {ab_NoVersion : Bool} {col_NoVersion : Option Bool} {dd_NoVersion : Option Addr} {m0_NoVersion m1_NoVersion m2_NoVersion m3_NoVersion m5_NoVersion : Option Value}
    (xL_NoVersion : K.lookup C.NoVersion = some (excClassObj nm_NoVersion q_NoVersion C.NoVersion N_NoVersion bs_NoVersion LkE.leT true sn_NoVersion sub_NoVersion ab_NoVersion col_NoVersion dd_NoVersion m0_NoVersion m1_NoVersion m2_NoVersion m3_NoVersion m5_NoVersion "LookupError.__new__"))
    {nm_BadNumber q_BadNumber : Str} {N_BadNumber : Addr} {bs_BadNumber bm_BadNumber : List Value} {sn_BadNumber : List Str} {sub_BadNumber : List Value} {ab_BadNumber : Bool} {col_BadNumber : Option Bool} {dd_BadNumber : Option Addr} {m0_BadNumber m1_BadNumber m2_BadNumber m3_BadNumber m5_BadNumber : Option Value}
    (xL_BadNumber : K.lookup C.BadNumber = some (excClassObj nm_BadNumber q_BadNumber C.BadNumber N_BadNumber bs_BadNumber bm_BadNumber true sn_BadNumber sub_BadNumber ab_BadNumber col_BadNumber dd_BadNumber m0_BadNumber m1_BadNumber m2_BadNumber m3_BadNumber m5_BadNumber "ValueError.__new__")) (xr_BadNumber : PySem.HandSPX.refsVE bm_BadNumber = true)
    (e0_PartyError : PySem.W.excIn K C.PartyError [.type "ValueError", .type "Exception", .type "BaseException", .type "object"] "ValueError.__new__" = true)
    (e0_TooManyPairs : PySem.W.excIn K C.TooManyPairs [.type "ValueError", .type "Exception", .type "BaseException", .type "object"] "ValueError.__new__" = true)
    (e0_Busy : PySem.W.excIn K C.Busy [.type "ValueError", .type "Exception", .type "BaseException", .type "object"] "ValueError.__new__" = true)
    (e0_TooManyEdits : PySem.W.excIn K C.TooManyEdits [.type "ValueError", .type "Exception", .type "BaseException", .type "object"] "ValueError.__new__" = true)
    (e0_TooManyGuests : PySem.W.excIn K C.TooManyGuests [.type "ValueError", .type "Exception", .type "BaseException", .type "object"] "ValueError.__new__" = true)
    (e0_LastGuest : PySem.W.excIn K C.LastGuest [.type "ValueError", .type "Exception", .type "BaseException", .type "object"] "ValueError.__new__" = true)
    (e0_NothingToUndo : PySem.W.excIn K C.NothingToUndo [.type "ValueError", .type "Exception", .type "BaseException", .type "object"] "ValueError.__new__" = true)
    (e0_BadEdits : PySem.W.excIn K C.BadEdits [.type "ValueError", .type "Exception", .type "BaseException", .type "object"] "ValueError.__new__" = true)
    : ∃ fd : FuncData, (∀ (s : Shared) (v : Value), BindsTo s fd ⟨[v], []⟩ [("script", v)]) ∧ ∀ base : Heap, K.In base → base.Ns mainGlobals mg → FnG l.prog w K mg base 10 fa fd ["script"] (spLaw K) := by
  have e := hfa.symm.trans (PySem.W.mg_of X G a36)
  cases e
  have B : Bn K mg C := { LookupError := PySem.W.mg_none_of X G z_LookupError, ValueError := PySem.W.mg_none_of X G z_ValueError, abs := PySem.W.mg_none_of X G z_abs, all := PySem.W.mg_none_of X G z_all, bool := PySem.W.mg_none_of X G z_bool, enumerate := PySem.W.mg_none_of X G z_enumerate, int := PySem.W.mg_none_of X G z_int, isinstance := PySem.W.mg_none_of X G z_isinstance, len := PySem.W.mg_none_of X G z_len, list := PySem.W.mg_none_of X G z_list, max := PySem.W.mg_none_of X G z_max, min := PySem.W.mg_none_of X G z_min, range := PySem.W.mg_none_of X G z_range, repr := PySem.W.mg_none_of X G z_repr, set := PySem.W.mg_none_of X G z_set, sorted := PySem.W.mg_none_of X G z_sorted, str := PySem.W.mg_none_of X G z_str, sum := PySem.W.mg_none_of X G z_sum, tuple := PySem.W.mg_none_of X G z_tuple, zip := PySem.W.mg_none_of X G z_zip, LIMIT := ⟨_, PySem.W.mg_of X G y_LIMIT⟩, MAX_SIZE := ⟨_, PySem.W.mg_of X G y_MAX_SIZE⟩, MAX_GUESTS := ⟨_, PySem.W.mg_of X G y_MAX_GUESTS⟩, MAX_PAIRS := ⟨_, PySem.W.mg_of X G y_MAX_PAIRS⟩, NO_PAIR := ⟨_, PySem.W.mg_of X G y_NO_PAIR⟩, SLASH := ⟨_, PySem.W.mg_of X G y_SLASH⟩, NO_PAIRS := ⟨_, PySem.W.mg_of X G y_NO_PAIRS⟩, WORDS := ⟨_, PySem.W.mg_of X G y_WORDS⟩, g_PartyError := PySem.W.mg_of X G h_a_PartyError, g_TooManyPairs := PySem.W.mg_of X G h_a_TooManyPairs, g_BadFoot := PySem.W.mg_of X G h_a_BadFoot, g_BadHall := PySem.W.mg_of X G h_a_BadHall, g_Busy := PySem.W.mg_of X G h_a_Busy, g_TooManyEdits := PySem.W.mg_of X G h_a_TooManyEdits, g_TooManyGuests := PySem.W.mg_of X G h_a_TooManyGuests, g_LastGuest := PySem.W.mg_of X G h_a_LastGuest, g_BadSize := PySem.W.mg_of X G h_a_BadSize, g_NothingToUndo := PySem.W.mg_of X G h_a_NothingToUndo, g_BadEdits := PySem.W.mg_of X G h_a_BadEdits, g_BadNumber := PySem.W.mg_of X G h_a_BadNumber, g_TooFewServed := PySem.W.mg_of X G h_a_TooFewServed, g_BadText := PySem.W.mg_of X G h_a_BadText, g_NoPlace := PySem.W.mg_of X G h_a_NoPlace, g_NoGuest := PySem.W.mg_of X G h_a_NoGuest, g_NoPair := PySem.W.mg_of X G h_a_NoPair, g_NoVersion := PySem.W.mg_of X G h_a_NoVersion, g_Party := PySem.W.mg_of X G h_a_Party, g_CHANGES := PySem.W.mg_of X G h_a_CHANGES, cg := h_cg, ct := h_ct, ty_PartyError := h_ty_PartyError, hd_PartyError := h_hd_PartyError, ty_TooManyPairs := h_ty_TooManyPairs, k_TooManyPairs := h_k_TooManyPairs, ty_BadFoot := h_ty_BadFoot, k_BadFoot := h_k_BadFoot, sa_BadFoot := h_sa_BadFoot, ty_BadHall := h_ty_BadHall, k_BadHall := h_k_BadHall, sa_BadHall := h_sa_BadHall, ty_Busy := h_ty_Busy, k_Busy := h_k_Busy, ty_TooManyEdits := h_ty_TooManyEdits, k_TooManyEdits := h_k_TooManyEdits, ty_TooManyGuests := h_ty_TooManyGuests, k_TooManyGuests := h_k_TooManyGuests, ty_LastGuest := h_ty_LastGuest, k_LastGuest := h_k_LastGuest, ty_BadSize := h_ty_BadSize, k_BadSize := h_k_BadSize, sa_BadSize := h_sa_BadSize, ty_NothingToUndo := h_ty_NothingToUndo, k_NothingToUndo := h_k_NothingToUndo, cl_BadEdits := h_cl_BadEdits, ty_BadEdits := h_ty_BadEdits, s_BadEdits_BadEdits := h_s_BadEdits_BadEdits, cl_BadNumber := h_cl_BadNumber, ty_BadNumber := h_ty_BadNumber, k_BadNumber := h_k_BadNumber, hd_BadNumber := h_hd_BadNumber, ca_BadNumber := h_ca_BadNumber, mo_BadNumber := h_mo_BadNumber, sa_BadNumber := h_sa_BadNumber, s_BadNumber_PartyError := h_s_BadNumber_PartyError, s_BadNumber_BadEdits := h_s_BadNumber_BadEdits, s_BadNumber_BadNumber := h_s_BadNumber_BadNumber, s_BadNumber_TooFewServed := h_s_BadNumber_TooFewServed, s_BadNumber_NoVersion := h_s_BadNumber_NoVersion, s_BadNumber_ValueError := h_s_BadNumber_ValueError, cl_TooFewServed := h_cl_TooFewServed, ty_TooFewServed := h_ty_TooFewServed, s_TooFewServed_TooFewServed := h_s_TooFewServed_TooFewServed, cl_NoPlace := h_cl_NoPlace, ty_NoPlace := h_ty_NoPlace, s_NoPlace_NoPlace := h_s_NoPlace_NoPlace, cl_NoGuest := h_cl_NoGuest, ty_NoGuest := h_ty_NoGuest, k_NoGuest := h_k_NoGuest, sa_NoGuest := h_sa_NoGuest, s_NoGuest_NoGuest := h_s_NoGuest_NoGuest, cl_NoPair := h_cl_NoPair, ty_NoPair := h_ty_NoPair, k_NoPair := h_k_NoPair, sa_NoPair := h_sa_NoPair, s_NoPair_NoPair := h_s_NoPair_NoPair, cl_NoVersion := h_cl_NoVersion, ty_NoVersion := h_ty_NoVersion, k_NoVersion := h_k_NoVersion, hd_NoVersion := h_hd_NoVersion, ca_NoVersion := h_ca_NoVersion, mo_NoVersion := h_mo_NoVersion, sa_NoVersion := h_sa_NoVersion, s_NoVersion_NoPlace := h_s_NoVersion_NoPlace, s_NoVersion_NoGuest := h_s_NoVersion_NoGuest, s_NoVersion_NoPair := h_s_NoVersion_NoPair, s_NoVersion_NoVersion := h_s_NoVersion_NoVersion, s_NoVersion_ValueError := h_s_NoVersion_ValueError, s_NoVersion_StopIteration := h_s_NoVersion_StopIteration, k_Party := h_k_Party, hd_Party := h_hd_Party, sa_Party := h_sa_Party, sb_PartyError := h_sb_PartyError, sb_TooManyPairs := h_sb_TooManyPairs, sb_BadFoot := h_sb_BadFoot, n_BadFoot := h_n_BadFoot, sb_BadHall := h_sb_BadHall, n_BadHall := h_n_BadHall, sb_Busy := h_sb_Busy, sb_TooManyEdits := h_sb_TooManyEdits, sb_TooManyGuests := h_sb_TooManyGuests, sb_LastGuest := h_sb_LastGuest, sb_BadSize := h_sb_BadSize, n_BadSize := h_n_BadSize, sb_NothingToUndo := h_sb_NothingToUndo, ga_BadNumber := h_ga_BadNumber, gt_BadNumber := h_gt_BadNumber, sb_BadNumber := h_sb_BadNumber, n_BadNumber := h_n_BadNumber, sb_NoGuest := h_sb_NoGuest, n_NoGuest := h_n_NoGuest, sb_NoPair := h_sb_NoPair, n_NoPair := h_n_NoPair, ga_NoVersion := h_ga_NoVersion, gt_NoVersion := h_gt_NoVersion, sb_NoVersion := h_sb_NoVersion, n_NoVersion := h_n_NoVersion, cv_Party_MOST_EDITS := ⟨_, h_cv_Party_MOST_EDITS⟩, pg_Party := h_pg_Party, po_Party := h_po_Party, mk_Party := h_mk_Party, f_Party__busy := h_f_Party__busy, f_Party_hall := h_f_Party_hall, f_Party_most := h_f_Party_most, f_Party_fewest := h_f_Party_fewest, f_Party__halls := h_f_Party__halls, f_Party__done := h_f_Party__done, fk_CHANGES_come := ⟨_, hk_CHANGES_come, PySem.W.mg_of X G a17⟩, fk_CHANGES_leave := ⟨_, hk_CHANGES_leave, PySem.W.mg_of X G a18⟩, fk_CHANGES_put := ⟨_, hk_CHANGES_put, PySem.W.mg_of X G a19⟩, fk_CHANGES_take := ⟨_, hk_CHANGES_take, PySem.W.mg_of X G a20⟩, e0_PartyError := e0_PartyError, e0_TooManyPairs := e0_TooManyPairs, e0_Busy := e0_Busy, e0_TooManyEdits := e0_TooManyEdits, e0_TooManyGuests := e0_TooManyGuests, e0_LastGuest := e0_LastGuest, e0_NothingToUndo := e0_NothingToUndo, e0_BadEdits := e0_BadEdits }
  have F0 := fun_mk (st := s__law_deck) l0 c0 k0
  have b0 := F0.binds (ps := ["script"]) fun _ _ _ _ _ _ us hl => match us, hl with | [_], _ => rfl
  have F1 := fun_mk (st := s_is_number) l1 c1 k1
  have b1 := F1.binds (ps := ["value"]) fun _ _ _ _ _ _ us hl => match us, hl with | [_], _ => rfl
  have F2 := fun_mk (st := s_is_number_from) l2 c2 k2
  have b2 := F2.binds (ps := ["value", "low", "high"]) fun _ _ _ _ _ _ us hl => match us, hl with | [_, _, _], _ => rfl
  have F3 := fun_mk (st := s_is_size) l3 c3 k3
  have b3 := F3.binds (ps := ["value"]) fun _ _ _ _ _ _ us hl => match us, hl with | [_], _ => rfl
  have F4 := fun_mk (st := s__first_wrong) l4 c4 k4
  have b4 := F4.binds (ps := ["values"]) fun _ _ _ _ _ _ us hl => match us, hl with | [_], _ => rfl
  have F5 := fun_mk (st := s_is_tuple) l5 c5 k5
  have b5 := F5.binds (ps := ["value", "least", "most"]) fun _ _ _ _ _ _ us hl => match us, hl with | [_, _, _], _ => rfl
  have F6 := fun_mk (st := s_hall_error) l6 c6 k6
  have b6 := F6.binds (ps := ["value"]) fun _ _ _ _ _ _ us hl => match us, hl with | [_], _ => rfl
  have F7 := fun_mk (st := s_counts_at) l7 c7 k7
  have b7 := F7.binds (ps := ["hall", "size"]) fun _ _ _ _ _ _ us hl => match us, hl with | [_, _], _ => rfl
  have F8 := fun_mk (st := s__foot_sizes) l8 c8 k8
  have b8 := F8.binds (ps := ["hall"]) fun _ _ _ _ _ _ us hl => match us, hl with | [_], _ => rfl
  have F9 := fun_mk (st := s__deciding_sizes) l9 c9 k9
  have b9 := F9.binds (ps := ["hall"]) fun _ _ _ _ _ _ us hl => match us, hl with | [_], _ => rfl
  have F10 := fun_mk (st := s_most_served) l10 c10 k10
  have b10 := F10.binds (ps := ["hall"]) fun _ _ _ _ _ _ us hl => match us, hl with | [_], _ => rfl
  have F11 := fun_mk (st := s_fewest_served) l11 c11 k11
  have b11 := F11.binds (ps := ["hall"]) fun _ _ _ _ _ _ us hl => match us, hl with | [_], _ => rfl
  have F12 := fun_mk (st := s__law_draw) l12 c12 k12
  have b12 := F12.binds (ps := ["deck", "many"]) fun _ _ _ _ _ _ us hl => match us, hl with | [_, _], _ => rfl
  have F13 := fun_mk (st := s__law_sizes) l13 c13 k13
  have b13 := F13.binds (ps := ["deck", "many", "way"]) fun _ _ _ _ _ _ us hl => match us, hl with | [_, _, _], _ => rfl
  have F14 := fun_mk (st := s__law_hall) l14 c14 k14
  have b14 := F14.binds (ps := ["deck", "most"]) fun _ _ _ _ _ _ us hl => match us, hl with | [_, _], _ => rfl
  have F15 := fun_mk (st := s__law_edit) l15 c15 k15
  have b15 := F15.binds (ps := ["deck", "hall"]) fun _ _ _ _ _ _ us hl => match us, hl with | [_, _], _ => rfl
  have F16 := fun_mk (st := s__law_after) l16 c16 k16
  have b16 := F16.binds (ps := ["hall", "edit"]) fun _ _ _ _ _ _ us hl => match us, hl with | [_, _], _ => rfl
  have F17 := fun_mk (st := s__with_guest) l17 c17 k17
  have b17 := F17.binds (ps := ["hall", "foot"]) fun _ _ _ _ _ _ us hl => match us, hl with | [_, _], _ => rfl
  have F18 := fun_mk (st := s__without_guest) l18 c18 k18
  have b18 := F18.binds (ps := ["hall", "guest"]) fun _ _ _ _ _ _ us hl => match us, hl with | [_, _], _ => rfl
  have F19 := fun_mk (st := s__with_pair) l19 c19 k19
  have b19 := F19.binds (ps := ["hall", "size"]) fun _ _ _ _ _ _ us hl => match us, hl with | [_, _], _ => rfl
  have F20 := fun_mk (st := s__without_pair) l20 c20 k20
  have b20 := F20.binds (ps := ["hall", "pair"]) fun _ _ _ _ _ _ us hl => match us, hl with | [_, _], _ => rfl
  have F21 := fun_mk (st := s_hall_after) l21 c21 k21
  have b21 := F21.binds (ps := ["hall", "name", "value"]) fun _ _ _ _ _ _ us hl => match us, hl with | [_, _, _], _ => rfl
  have F22 := fun_mk (st := s__law_do) l22 c22 k22
  have b22 := F22.binds (ps := ["table", "edit"]) fun _ _ _ _ _ _ us hl => match us, hl with | [_, _], _ => rfl
  have F23 := fun_mk (st := s__fitting) l23 c23 k23
  have b23 := F23.binds (ps := ["hall", "guest", "left"]) fun _ _ _ _ _ _ us hl => match us, hl with | [_, _, _], _ => rfl
  have F24 := fun_mk (st := s_run_by_liking) l24 c24 k24
  have b24 := F24.binds (ps := ["hall", "order", "liking"]) fun _ _ _ _ _ _ us hl => match us, hl with | [_, _, _], _ => rfl
  have F25 := fun_mk (st := s_large_run) l25 c25 k25
  have b25 := F25.binds (ps := ["hall", "order"]) fun _ _ _ _ _ _ us hl => match us, hl with | [_, _], _ => rfl
  have F26 := fun_mk (st := s_order_by_feet) l26 c26 k26
  have b26 := F26.binds (ps := ["hall"]) fun _ _ _ _ _ _ us hl => match us, hl with | [_], _ => rfl
  have F27 := fun_mk (st := s__word_at) l27 c27 k27
  have b27 := F27.binds (ps := ["hall", "number", "size"]) fun _ _ _ _ _ _ us hl => match us, hl with | [_, _, _], _ => rfl
  have F28 := fun_mk (st := s_sure_certificate) l28 c28 k28
  have b28 := F28.binds (ps := ["hall", "number"]) fun _ _ _ _ _ _ us hl => match us, hl with | [_, _], _ => rfl
  have F29 := fun_mk (st := s_small_run) l29 c29 k29
  have b29 := F29.binds (ps := ["hall", "order"]) fun _ _ _ _ _ _ us hl => match us, hl with | [_, _], _ => rfl
  have F30 := fun_mk (st := s__law_queried) l30 c30 k30
  have b30 := F30.binds (ps := ["table", "way", "number", "past"]) fun _ _ _ _ _ _ us hl => match us, hl with | [_, _, _, _], _ => rfl
  have F31 := fun_mk (st := s__law_told) l31 c31 k31
  have b31 := F31.binds (ps := ["table", "way", "number", "past"]) fun _ _ _ _ _ _ us hl => match us, hl with | [_, _, _, _], _ => rfl
  have F32 := fun_mk (st := s__law_is_within) l32 c32 k32
  have b32 := F32.binds (ps := ["value", "low", "high"]) fun _ _ _ _ _ _ us hl => match us, hl with | [_, _, _], _ => rfl
  have F33 := fun_mk (st := s__law_walked) l33 c33 k33
  have b33 := F33.binds (ps := ["hall"]) fun _ _ _ _ _ _ us hl => match us, hl with | [_], _ => rfl
  have F34 := fun_mk (st := s__law_expected) l34 c34 k34
  have b34 := F34.binds (ps := ["halls", "way", "number", "past"]) fun _ _ _ _ _ _ us hl => match us, hl with | [_, _, _, _], _ => rfl
  have F35 := fun_mk (st := s__law_ends) l35 c35 k35
  have b35 := F35.binds (ps := ["hall"]) fun _ _ _ _ _ _ us hl => match us, hl with | [_], _ => rfl
  have F37 := fun_mk (st := s_Party__stand) l37 c37 k37
  have b37 := F37.binds (ps := ["self", "halls", "done"]) fun _ _ _ _ _ _ us hl => match us, hl with | [_, _, _], _ => rfl
  have F38 := fun_mk (st := s_Party___init__) l38 c38 k38
  have b38 := F38.binds (ps := ["self", "hall"]) fun _ _ _ _ _ _ us hl => match us, hl with | [_, _], _ => rfl
  have F39 := fun_mk (st := s_Party__ask_idle) l39 c39 k39
  have b39 := F39.binds (ps := ["self"]) fun _ _ _ _ _ _ us hl => match us, hl with | [_], _ => rfl
  have F40 := fun_mk (st := s_Party__ask_pledge) l40 c40 k40
  have b40 := F40.binds (ps := ["self", "fewest"]) fun _ _ _ _ _ _ us hl => match us, hl with | [_, _], _ => rfl
  have F41 := fun_mk (st := s_Party__do) l41 c41 k41
  have b41 := F41.binds (ps := ["self", "name", "value"]) fun _ _ _ _ _ _ us hl => match us, hl with | [_, _, _], _ => rfl
  have F42 := fun_mk (st := s_Party__edit) l42 c42 k42
  have b42 := F42.binds (ps := ["self", "name", "value"]) fun _ _ _ _ _ _ us hl => match us, hl with | [_, _, _], _ => rfl
  have F43 := fun_mk (st := s_Party_take) l43 c43 k43
  have b43 := F43.binds (ps := ["self", "pair"]) fun _ _ _ _ _ _ us hl => match us, hl with | [_, _], _ => rfl
  have F44 := fun_mk (st := s_Party_come) l44 c44 k44
  have b44 := F44.binds (ps := ["self", "foot"]) fun _ _ _ _ _ _ us hl => match us, hl with | [_, _], _ => rfl
  have F45 := fun_mk (st := s_Party_leave) l45 c45 k45
  have b45 := F45.binds (ps := ["self", "guest"]) fun _ _ _ _ _ _ us hl => match us, hl with | [_, _], _ => rfl
  have F46 := fun_mk (st := s_Party_put) l46 c46 k46
  have b46 := F46.binds (ps := ["self", "size"]) fun _ _ _ _ _ _ us hl => match us, hl with | [_, _], _ => rfl
  have F47 := fun_mk (st := s_Party__hall_at) l47 c47 k47
  have b47 := F47.binds (ps := ["self", "version"]) fun _ _ _ _ _ _ us hl => match us, hl with | [_, _], _ => rfl
  have F48 := fun_mk (st := s_Party_certificate) l48 c48 k48
  have FD48 := funD_mk (st := s_Party_certificate) l48 c48 k48 kd48
  obtain ⟨ds48, vd48, bd48⟩ := bindsD_mk (P := l.prog) (ps := ["self", "number", "version"]) FD48 2 rfl (fun D doc pm an cdv ct us ks l1 l2 => match us, ks, l1, l2 with | [_, _], [_], _, _ => ⟨_, _, _, _, _, _, rfl, rfl, rfl⟩)
  have bk48 := kbn_mk (ps := ["self", "number", "version"]) FD48 2 (fun D doc pm an cdv ct us ws l1 l2 => match us, ws, l1, l2 with | [_, _], [_], _, _ => rfl)
  have F49 := fun_mk (st := s_Party_state) l49 c49 k49
  have FD49 := funD_mk (st := s_Party_state) l49 c49 k49 kd49
  obtain ⟨ds49, vd49, bd49⟩ := bindsD_mk (P := l.prog) (ps := ["self", "version"]) FD49 1 rfl (fun D doc pm an cdv ct us ks l1 l2 => match us, ks, l1, l2 with | [_], [_], _, _ => ⟨_, _, _, _, _, _, rfl, rfl, rfl⟩)
  have bk49 := kbn_mk (ps := ["self", "version"]) FD49 1 (fun D doc pm an cdv ct us ws l1 l2 => match us, ws, l1, l2 with | [_], [_], _, _ => rfl)
  have F50 := fun_mk (st := s_Party_walk) l50 c50 k50
  have FD50 := funD_mk (st := s_Party_walk) l50 c50 k50 kd50
  obtain ⟨ds50, vd50, bd50⟩ := bindsD_mk (P := l.prog) (ps := ["self", "version"]) FD50 1 rfl (fun D doc pm an cdv ct us ks l1 l2 => match us, ks, l1, l2 with | [_], [_], _, _ => ⟨_, _, _, _, _, _, rfl, rfl, rfl⟩)
  have bk50 := kbn_mk (ps := ["self", "version"]) FD50 1 (fun D doc pm an cdv ct us ws l1 l2 => match us, ws, l1, l2 with | [_], [_], _, _ => rfl)
  have F51 := fun_mk (st := s_Party_undo) l51 c51 k51
  have b51 := F51.binds (ps := ["self"]) fun _ _ _ _ _ _ us hl => match us, hl with | [_], _ => rfl
  have F52 := fun_mk (st := s_BadHall_init) l52 c52 k52
  have b52 := F52.binds (ps := ["self", "error"]) fun _ _ _ _ _ _ us hl => match us, hl with | [_, _], _ => rfl
  have F53 := fun_mk (st := s_BadFoot_init) l53 c53 k53
  have b53 := F53.binds (ps := ["self", "value"]) fun _ _ _ _ _ _ us hl => match us, hl with | [_, _], _ => rfl
  have F54 := fun_mk (st := s_NoGuest_init) l54 c54 k54
  have b54 := F54.binds (ps := ["self", "value"]) fun _ _ _ _ _ _ us hl => match us, hl with | [_, _], _ => rfl
  have F55 := fun_mk (st := s_BadSize_init) l55 c55 k55
  have b55 := F55.binds (ps := ["self", "value"]) fun _ _ _ _ _ _ us hl => match us, hl with | [_, _], _ => rfl
  have F56 := fun_mk (st := s_NoPair_init) l56 c56 k56
  have b56 := F56.binds (ps := ["self", "value"]) fun _ _ _ _ _ _ us hl => match us, hl with | [_, _], _ => rfl
  have F57 := fun_mk (st := s_NoVersion_init) l57 c57 k57
  have b57 := F57.binds (ps := ["self", "value"]) fun _ _ _ _ _ _ us hl => match us, hl with | [_, _], _ => rfl
  have F58 := fun_mk (st := s_BadNumber_init) l58 c58 k58
  have b58 := F58.binds (ps := ["self", "value"]) fun _ _ _ _ _ _ us hl => match us, hl with | [_, _], _ => rfl
  refine ⟨PySem.W.fnOf "law" "law" (defArgs s_law) (defBody s_law) (defScope s_law) .none kV36 dc36 pm36 an36 cd36 ct36, fun s v => .of_eq rfl, fun base _ _ => ?_⟩
  have T_BadHall : OexC K C.BadHall := ⟨⟨_, _, _, _, _, _, _, _, _, _, _, _, _, _, _, xL_BadHall, xr_BadHall⟩, h_sa_BadHall, h_sb_BadHall, h_ty_BadHall, h_k_BadHall⟩
  have H_BadHall : ErrC l.prog w K mg base "BadHall" C.BadHall "error" := ⟨B.g_BadHall, T_BadHall, f52, _, _, a52, tI52, ok_BadHall_init F52 T_BadHall B, b52⟩
  have T_BadFoot : OexC K C.BadFoot := ⟨⟨_, _, _, _, _, _, _, _, _, _, _, _, _, _, _, xL_BadFoot, xr_BadFoot⟩, h_sa_BadFoot, h_sb_BadFoot, h_ty_BadFoot, h_k_BadFoot⟩
  have H_BadFoot : ErrC l.prog w K mg base "BadFoot" C.BadFoot "value" := ⟨B.g_BadFoot, T_BadFoot, f53, _, _, a53, tI53, ok_BadFoot_init F53 T_BadFoot B, b53⟩
  have T_NoGuest : OexL K C.NoGuest := ⟨⟨_, _, _, _, _, _, _, _, _, _, _, _, _, _, xL_NoGuest⟩, h_sa_NoGuest, h_sb_NoGuest, h_ty_NoGuest, h_k_NoGuest⟩
  have H_NoGuest : ErrL l.prog w K mg base "NoGuest" C.NoGuest "value" := ⟨B.g_NoGuest, T_NoGuest, f54, _, _, a54, tI54, ok_NoGuest_init F54 T_NoGuest B, b54⟩
  have T_BadSize : OexC K C.BadSize := ⟨⟨_, _, _, _, _, _, _, _, _, _, _, _, _, _, _, xL_BadSize, xr_BadSize⟩, h_sa_BadSize, h_sb_BadSize, h_ty_BadSize, h_k_BadSize⟩
  have H_BadSize : ErrC l.prog w K mg base "BadSize" C.BadSize "value" := ⟨B.g_BadSize, T_BadSize, f55, _, _, a55, tI55, ok_BadSize_init F55 T_BadSize B, b55⟩
  have T_NoPair : OexL K C.NoPair := ⟨⟨_, _, _, _, _, _, _, _, _, _, _, _, _, _, xL_NoPair⟩, h_sa_NoPair, h_sb_NoPair, h_ty_NoPair, h_k_NoPair⟩
  have H_NoPair : ErrL l.prog w K mg base "NoPair" C.NoPair "value" := ⟨B.g_NoPair, T_NoPair, f56, _, _, a56, tI56, ok_NoPair_init F56 T_NoPair B, b56⟩
  have T_NoVersion : OexL K C.NoVersion := ⟨⟨_, _, _, _, _, _, _, _, _, _, _, _, _, _, xL_NoVersion⟩, h_sa_NoVersion, h_sb_NoVersion, h_ty_NoVersion, h_k_NoVersion⟩
  have H_NoVersion : ErrL l.prog w K mg base "NoVersion" C.NoVersion "value" := ⟨B.g_NoVersion, T_NoVersion, f57, _, _, a57, tI57, ok_NoVersion_init F57 T_NoVersion B, b57⟩
  have T_BadNumber : OexC K C.BadNumber := ⟨⟨_, _, _, _, _, _, _, _, _, _, _, _, _, _, _, xL_BadNumber, xr_BadNumber⟩, h_sa_BadNumber, h_sb_BadNumber, h_ty_BadNumber, h_k_BadNumber⟩
  have H_BadNumber : ErrC l.prog w K mg base "BadNumber" C.BadNumber "value" := ⟨B.g_BadNumber, T_BadNumber, f58, _, _, a58, tI58, ok_BadNumber_init F58 T_BadNumber B, b58⟩
  have KD_CHANGES : ∃ es n, KDict K w C.CHANGES es n := ⟨_, _, kd_CHANGES, kl_CHANGES, ks_CHANGES⟩
  have H__law_deck : HasS l.prog w K mg base "_law_deck" 1 ["script"] (spDeckA K) := ⟨f0, _, PySem.W.mg_of X G a0, k0, b0, ok_deck F0 B.abs⟩
  have HN_is_number : HasNG l.prog w K mg base "is_number" 1 ["value"] c_is_number := ⟨f1, _, PySem.W.mg_of X G a1, k1, b1, fn_is_number F1 B⟩
  have H_is_number := HN_is_number.g
  have HN_is_number_from : HasNG l.prog w K mg base "is_number_from" 2 ["value", "low", "high"] c_is_number_from := ⟨f2, _, PySem.W.mg_of X G a2, k2, b2, fn_is_number_from F2 B HN_is_number⟩
  have H_is_number_from := HN_is_number_from.g
  have H_is_size : Has l.prog w K mg base "is_size" 3 ["value"] c_is_size := ⟨f3, _, PySem.W.mg_of X G a3, k3, b3, fn_is_size F3 B H_is_number_from⟩
  have H__first_wrong : Has l.prog w K mg base "_first_wrong" 4 ["values"] c__first_wrong := ⟨f4, _, PySem.W.mg_of X G a4, k4, b4, fn__first_wrong F4 B H_is_size⟩
  have H_is_tuple : Has l.prog w K mg base "is_tuple" 1 ["value", "least", "most"] c_is_tuple := ⟨f5, _, PySem.W.mg_of X G a5, k5, b5, fn_is_tuple F5 B⟩
  have H_hall_error : Has l.prog w K mg base "hall_error" 5 ["value"] c_hall_error := ⟨f6, _, PySem.W.mg_of X G a6, k6, b6, fn_hall_error F6 B H__first_wrong H_is_tuple⟩
  have H_counts_at : Has l.prog w K mg base "counts_at" 1 ["hall", "size"] c_counts_at := ⟨f7, _, PySem.W.mg_of X G a7, k7, b7, fn_counts_at F7 B⟩
  have H__foot_sizes : Has l.prog w K mg base "_foot_sizes" 1 ["hall"] c__foot_sizes := ⟨f8, _, PySem.W.mg_of X G a8, k8, b8, fn__foot_sizes F8 B⟩
  have H__deciding_sizes : Has l.prog w K mg base "_deciding_sizes" 2 ["hall"] c__deciding_sizes := ⟨f9, _, PySem.W.mg_of X G a9, k9, b9, fn__deciding_sizes F9 B H__foot_sizes⟩
  have H_most_served : Has l.prog w K mg base "most_served" 3 ["hall"] c_most_served := ⟨f10, _, PySem.W.mg_of X G a10, k10, b10, fn_most_served F10 B H_counts_at H__deciding_sizes⟩
  have H_fewest_served : Has l.prog w K mg base "fewest_served" 3 ["hall"] c_fewest_served := ⟨f11, _, PySem.W.mg_of X G a11, k11, b11, fn_fewest_served F11 B H_counts_at H__deciding_sizes⟩
  have G_Party__stand : FnGX l.prog w K mg base 4 f37 _ ["self", "halls", "done"] (spDX K 3 (c_Party__stand C)) := fn_Party__stand F37 B H_most_served H_fewest_served
  have HM__stand : HasM l.prog w K mg base (fun D => D = C.Party) "_stand" 4 ["self", "halls", "done"] (fun _ => c_Party__stand C) := fun D hD => by
    subst hD
    · exact ⟨B.c_Party, f37, _, ⟨a37, fn37, k37⟩, b37, G_Party__stand⟩
  have H_Party___init__ : HasC l.prog w K mg base "Party" C.Party 6 ["self", "hall"] (c_Party___init__ C) := ⟨B.g_Party, len_Party___init__, f38, _, ⟨B.mk_Party, a38, fn38, B.k_Party⟩, b38, fn_Party___init__ F38 B H_hall_error HM__stand H_BadHall⟩
  have H__law_draw : Has l.prog w K mg base "_law_draw" 1 ["deck", "many"] c__law_draw := ⟨f12, _, PySem.W.mg_of X G a12, k12, b12, ok_draw F12 B.len⟩
  have H__law_sizes : Has l.prog w K mg base "_law_sizes" 2 ["deck", "many", "way"] c__law_sizes := ⟨f13, _, PySem.W.mg_of X G a13, k13, b13, fn__law_sizes F13 B H__law_draw⟩
  have H__law_hall : Has l.prog w K mg base "_law_hall" 3 ["deck", "most"] c__law_hall := ⟨f14, _, PySem.W.mg_of X G a14, k14, b14, fn__law_hall F14 B H__law_draw H__law_sizes⟩
  have H__law_edit : Has l.prog w K mg base "_law_edit" 2 ["deck", "hall"] c__law_edit := ⟨f15, _, PySem.W.mg_of X G a15, k15, b15, fn__law_edit F15 B H__law_draw⟩
  have H__law_after : Has l.prog w K mg base "_law_after" 1 ["hall", "edit"] c__law_after := ⟨f16, _, PySem.W.mg_of X G a16, k16, b16, fn__law_after F16 B⟩
  have G_Party__ask_idle : FnGX l.prog w K mg base 3 f39 _ ["self"] (spDX K 1 (c_Party__ask_idle C)) := fn_Party__ask_idle F39 B
  have HM__ask_idle : HasM l.prog w K mg base (fun D => D = C.Party) "_ask_idle" 3 ["self"] (fun _ => c_Party__ask_idle C) := fun D hD => by
    subst hD
    · exact ⟨B.c_Party, f39, _, ⟨a39, fn39, k39⟩, b39, G_Party__ask_idle⟩
  have H__with_guest : HasX l.prog w K mg base "_with_guest" 4 ["hall", "foot"] (c__with_guest C) := ⟨f17, _, PySem.W.mg_of X G a17, k17, b17, fn__with_guest F17 B H_is_size H_BadFoot⟩
  have H__without_guest : HasX l.prog w K mg base "_without_guest" 3 ["hall", "guest"] (c__without_guest C) := ⟨f18, _, PySem.W.mg_of X G a18, k18, b18, fn__without_guest F18 B H_is_number_from H_NoGuest⟩
  have H__with_pair : HasX l.prog w K mg base "_with_pair" 4 ["hall", "size"] (c__with_pair C) := ⟨f19, _, PySem.W.mg_of X G a19, k19, b19, fn__with_pair F19 B H_is_size H_BadSize⟩
  have H__without_pair : HasX l.prog w K mg base "_without_pair" 3 ["hall", "pair"] (c__without_pair C) := ⟨f20, _, PySem.W.mg_of X G a20, k20, b20, fn__without_pair F20 B H_is_number_from H_NoPair⟩
  have HS_change : ∀ g c, S_hall_after_change mg C g c → PySem.W.keepIn K (.ref g) = true ∧ ∃ fd ps, Binds K fd ps [] ∧ FnGX l.prog w K mg base 4 g fd ps (spDX K 2 c) := by
    intro g c h
    rcases h with ⟨h, rfl⟩ | ⟨h, rfl⟩ | ⟨h, rfl⟩ | ⟨h, rfl⟩
    · exact hs_of h H__with_guest (by decide)
    · exact hs_of h H__without_guest (by decide)
    · exact hs_of h H__with_pair (by decide)
    · exact hs_of h H__without_pair (by decide)
  have H_hall_after : HasX l.prog w K mg base "hall_after" 5 ["hall", "name", "value"] (c_hall_after C) := ⟨f21, _, PySem.W.mg_of X G a21, k21, b21, fn_hall_after F21 B HS_change KD_CHANGES⟩
  have G_Party__ask_pledge : FnGX l.prog w K mg base 1 f40 _ ["self", "fewest"] (spDX K 2 (c_Party__ask_pledge C)) := fn_Party__ask_pledge F40 B
  have HM__ask_pledge : HasM l.prog w K mg base (fun D => D = C.Party) "_ask_pledge" 1 ["self", "fewest"] (fun _ => c_Party__ask_pledge C) := fun D hD => by
    subst hD
    · exact ⟨B.c_Party, f40, _, ⟨a40, fn40, k40⟩, b40, G_Party__ask_pledge⟩
  have G_Party__do : FnGX l.prog w K mg base 6 f41 _ ["self", "name", "value"] (spDX K 3 (c_Party__do C)) := fn_Party__do F41 B H_hall_after HM__ask_pledge HM__stand H_fewest_served
  have HM__do : HasM l.prog w K mg base (fun D => D = C.Party) "_do" 6 ["self", "name", "value"] (fun _ => c_Party__do C) := fun D hD => by
    subst hD
    · exact ⟨B.c_Party, f41, _, ⟨a41, fn41, k41⟩, b41, G_Party__do⟩
  have G_Party__edit : FnGX l.prog w K mg base 7 f42 _ ["self", "name", "value"] (spDX K 3 (c_Party__edit C)) := fn_Party__edit F42 B HM__ask_idle HM__do
  have HM__edit : HasM l.prog w K mg base (fun D => D = C.Party) "_edit" 7 ["self", "name", "value"] (fun _ => c_Party__edit C) := fun D hD => by
    subst hD
    · exact ⟨B.c_Party, f42, _, ⟨a42, fn42, k42⟩, b42, G_Party__edit⟩
  have G_Party_take : FnGX l.prog w K mg base 8 f43 _ ["self", "pair"] (spDX K 2 (c_Party_take C)) := fn_Party_take F43 B HM__edit
  have HM_take : HasM l.prog w K mg base (fun D => D = C.Party) "take" 8 ["self", "pair"] (fun _ => c_Party_take C) := fun D hD => by
    subst hD
    · exact ⟨B.c_Party, f43, _, ⟨a43, fn43, k43⟩, b43, G_Party_take⟩
  have G_Party_come : FnGX l.prog w K mg base 8 f44 _ ["self", "foot"] (spDX K 2 (c_Party_come C)) := fn_Party_come F44 B HM__edit
  have HM_come : HasM l.prog w K mg base (fun D => D = C.Party) "come" 8 ["self", "foot"] (fun _ => c_Party_come C) := fun D hD => by
    subst hD
    · exact ⟨B.c_Party, f44, _, ⟨a44, fn44, k44⟩, b44, G_Party_come⟩
  have G_Party_leave : FnGX l.prog w K mg base 8 f45 _ ["self", "guest"] (spDX K 2 (c_Party_leave C)) := fn_Party_leave F45 B HM__edit
  have HM_leave : HasM l.prog w K mg base (fun D => D = C.Party) "leave" 8 ["self", "guest"] (fun _ => c_Party_leave C) := fun D hD => by
    subst hD
    · exact ⟨B.c_Party, f45, _, ⟨a45, fn45, k45⟩, b45, G_Party_leave⟩
  have G_Party_put : FnGX l.prog w K mg base 8 f46 _ ["self", "size"] (spDX K 2 (c_Party_put C)) := fn_Party_put F46 B HM__edit
  have HM_put : HasM l.prog w K mg base (fun D => D = C.Party) "put" 8 ["self", "size"] (fun _ => c_Party_put C) := fun D hD => by
    subst hD
    · exact ⟨B.c_Party, f46, _, ⟨a46, fn46, k46⟩, b46, G_Party_put⟩
  have H__law_do : Has l.prog w K mg base "_law_do" 9 ["table", "edit"] (c__law_do C) := ⟨f22, _, PySem.W.mg_of X G a22, k22, b22, fn__law_do F22 B HM_take HM_come HM_leave HM_put⟩
  have G_Party__hall_at : FnNX l.prog w K mg base 3 f47 _ ["self", "version"] (spDX K 2 (c_Party__hall_at C)) := fn_Party__hall_at F47 B HN_is_number_from H_NoVersion
  have HNM__hall_at : HasMN l.prog w K mg base (fun D => D = C.Party) "_hall_at" 3 ["self", "version"] (fun _ => c_Party__hall_at C) := fun D hD => by
    subst hD
    · exact ⟨B.c_Party, f47, _, ⟨a47, fn47, k47⟩, b47, G_Party__hall_at⟩
  have HM__hall_at := HNM__hall_at.x
  have HN__fitting : HasNG l.prog w K mg base "_fitting" 1 ["hall", "guest", "left"] c__fitting := ⟨f23, _, PySem.W.mg_of X G a23, k23, b23, fn__fitting F23 B⟩
  have H__fitting := HN__fitting.g
  have HN_run_by_liking : HasNG l.prog w K mg base "run_by_liking" 2 ["hall", "order", "liking"] c_run_by_liking := ⟨f24, _, PySem.W.mg_of X G a24, k24, b24, fn_run_by_liking F24 B HN__fitting⟩
  have H_run_by_liking := HN_run_by_liking.g
  have H_large_run : Has l.prog w K mg base "large_run" 3 ["hall", "order"] c_large_run := ⟨f25, _, PySem.W.mg_of X G a25, k25, b25, fn_large_run F25 B H_run_by_liking⟩
  have H_order_by_feet : Has l.prog w K mg base "order_by_feet" 1 ["hall"] c_order_by_feet := ⟨f26, _, PySem.W.mg_of X G a26, k26, b26, fn_order_by_feet F26 B⟩
  have H__word_at : Has l.prog w K mg base "_word_at" 2 ["hall", "number", "size"] c__word_at := ⟨f27, _, PySem.W.mg_of X G a27, k27, b27, fn__word_at F27 B H_counts_at⟩
  have H_sure_certificate : Has l.prog w K mg base "sure_certificate" 4 ["hall", "number"] c_sure_certificate := ⟨f28, _, PySem.W.mg_of X G a28, k28, b28, fn_sure_certificate F28 B H_fewest_served H_large_run H_order_by_feet H__word_at H__foot_sizes⟩
  have G_Party_certificate : FnGX l.prog w K mg base 5 f48 _ ["self", "number", "version"] (spDX K 3 (c_Party_certificate C)) := fn_Party_certificate F48 B HM__hall_at H_sure_certificate H_is_number_from H_BadNumber
  have HMD_certificate : HasMD l.prog w K mg base (fun D => D = C.Party) "certificate" 5 ["self", "number", "version"] (fun _ => c_Party_certificate C) := fun D hD => by
    subst hD
    · exact ⟨B.c_Party, f48, _, ds48, ⟨a48, fn48, k48⟩, vd48, bd48, G_Party_certificate⟩
  have HMK_certificate : HasMK l.prog w K mg base (fun D => D = C.Party) "certificate" "version" 5 ["self", "number", "version"] (fun _ => c_Party_certificate C) := fun D hD => by
    subst hD
    · exact ⟨B.c_Party, f48, _, ⟨a48, fn48, k48⟩, bk48, G_Party_certificate⟩
  have G_Party_state : FnGX l.prog w K mg base 4 f49 _ ["self", "version"] (spDX K 2 (c_Party_state C)) := fn_Party_state F49 B HM__hall_at
  have HMD_state : HasMD l.prog w K mg base (fun D => D = C.Party) "state" 4 ["self", "version"] (fun _ => c_Party_state C) := fun D hD => by
    subst hD
    · exact ⟨B.c_Party, f49, _, ds49, ⟨a49, fn49, k49⟩, vd49, bd49, G_Party_state⟩
  have HMK_state : HasMK l.prog w K mg base (fun D => D = C.Party) "state" "version" 4 ["self", "version"] (fun _ => c_Party_state C) := fun D hD => by
    subst hD
    · exact ⟨B.c_Party, f49, _, ⟨a49, fn49, k49⟩, bk49, G_Party_state⟩
  have HN_small_run : HasNG l.prog w K mg base "small_run" 3 ["hall", "order"] c_small_run := ⟨f29, _, PySem.W.mg_of X G a29, k29, b29, fn_small_run F29 B HN_run_by_liking⟩
  have H_small_run := HN_small_run.g
  have G_Party_walk : GFn l.prog w K mg base 4 f50 _ ["self", "version"] (spDG K 2 (c_Party_walk C)) := fn_Party_walk F50 B HNM__hall_at HN_small_run
  have HMG_walk : HasMG l.prog w K mg base (fun D => D = C.Party) "walk" 4 ["self", "version"] (fun _ => c_Party_walk C) := fun D hD => by
    subst hD
    · exact ⟨B.c_Party, f50, _, ds50, ⟨a50, fn50, k50⟩, vd50, bd50, G_Party_walk⟩
  have HMGK_walk : HasMGK l.prog w K mg base (fun D => D = C.Party) "walk" "version" 4 ["self", "version"] (fun _ => c_Party_walk C) := fun D hD => by
    subst hD
    · exact ⟨B.c_Party, f50, _, ⟨a50, fn50, k50⟩, bk50, G_Party_walk⟩
  have H__law_queried : HasX l.prog w K mg base "_law_queried" 8 ["table", "way", "number", "past"] (c__law_queried C) := ⟨f30, _, PySem.W.mg_of X G a30, k30, b30, fn__law_queried F30 B HMK_certificate HMK_state HMGK_walk⟩
  have H__law_told : Has l.prog w K mg base "_law_told" 9 ["table", "way", "number", "past"] (c__law_told C) := ⟨f31, _, PySem.W.mg_of X G a31, k31, b31, fn__law_told F31 B H__law_queried⟩
  have H__law_is_within : Has l.prog w K mg base "_law_is_within" 1 ["value", "low", "high"] c__law_is_within := ⟨f32, _, PySem.W.mg_of X G a32, k32, b32, fn__law_is_within F32 B⟩
  have H__law_walked : Has l.prog w K mg base "_law_walked" 1 ["hall"] c__law_walked := ⟨f33, _, PySem.W.mg_of X G a33, k33, b33, fn__law_walked F33 B⟩
  have H__law_expected : Has l.prog w K mg base "_law_expected" 5 ["halls", "way", "number", "past"] c__law_expected := ⟨f34, _, PySem.W.mg_of X G a34, k34, b34, fn__law_expected F34 B H__law_is_within H_sure_certificate H__law_walked⟩
  have G_Party_undo : FnGX l.prog w K mg base 5 f51 _ ["self"] (spDX K 1 (c_Party_undo C)) := fn_Party_undo F51 B HM__ask_idle HM__stand
  have HM_undo : HasM l.prog w K mg base (fun D => D = C.Party) "undo" 5 ["self"] (fun _ => c_Party_undo C) := fun D hD => by
    subst hD
    · exact ⟨B.c_Party, f51, _, ⟨a51, fn51, k51⟩, b51, G_Party_undo⟩
  have H__law_ends : Has l.prog w K mg base "_law_ends" 1 ["hall"] c__law_ends := ⟨f35, _, PySem.W.mg_of X G a35, k35, b35, fn__law_ends F35 B⟩
  exact fn_law (fun_mk (st := s_law) l36 c36 k36) B H__law_deck H_Party___init__ H__law_hall H__law_draw H__law_edit H__law_after H__law_do H__law_told H__law_expected HM_undo H__law_ends
theorem all_mk2 {l : PySem.W.OpenLaw} {w : World} {K : PySem.W.Frag} {h : Heap} {mg : Str → Option Value} {fa : Addr} {C_PartyError C_TooManyPairs C_BadFoot C_BadHall C_Busy C_TooManyEdits C_TooManyGuests C_LastGuest C_BadSize C_NothingToUndo C_BadEdits C_BadNumber C_TooFewServed C_BadText C_NoPlace C_NoGuest C_NoPair C_NoVersion C_Party C_CHANGES : Addr} (X : K.In h) (G : h.Ns mainGlobals mg) (hfa : mg "law" = some (.ref fa))
    {f0 : Addr} {od0 an0 : Option Addr} {sl0 : Array (Option Value)} {oc0 kV0 dc0 pm0 cd0 ct0 : Value}
    (a0 : PySem.W.nsIn K mainGlobals "_law_deck" = some (some (.ref f0)))
    (l0 : K.lookup f0 = some ⟨oc0, od0, .func (PySem.W.fnOf "_law_deck" "_law_deck" (defArgs s__law_deck) (defBody s__law_deck) (defScope s__law_deck) .none kV0 dc0 pm0 an0 cd0 ct0), sl0⟩) (c0 : PySem.W.codeIn K cd0 "_law_deck" = true) (k0 : PySem.W.keepIn K (.ref f0) = true)
    {f1 : Addr} {od1 an1 : Option Addr} {sl1 : Array (Option Value)} {oc1 kV1 dc1 pm1 cd1 ct1 : Value}
    (a1 : PySem.W.nsIn K mainGlobals "is_number" = some (some (.ref f1)))
    (l1 : K.lookup f1 = some ⟨oc1, od1, .func (PySem.W.fnOf "is_number" "is_number" (defArgs s_is_number) (defBody s_is_number) (defScope s_is_number) .none kV1 dc1 pm1 an1 cd1 ct1), sl1⟩) (c1 : PySem.W.codeIn K cd1 "is_number" = true) (k1 : PySem.W.keepIn K (.ref f1) = true)
    {f2 : Addr} {od2 an2 : Option Addr} {sl2 : Array (Option Value)} {oc2 kV2 dc2 pm2 cd2 ct2 : Value}
    (a2 : PySem.W.nsIn K mainGlobals "is_number_from" = some (some (.ref f2)))
    (l2 : K.lookup f2 = some ⟨oc2, od2, .func (PySem.W.fnOf "is_number_from" "is_number_from" (defArgs s_is_number_from) (defBody s_is_number_from) (defScope s_is_number_from) .none kV2 dc2 pm2 an2 cd2 ct2), sl2⟩) (c2 : PySem.W.codeIn K cd2 "is_number_from" = true) (k2 : PySem.W.keepIn K (.ref f2) = true)
    {f3 : Addr} {od3 an3 : Option Addr} {sl3 : Array (Option Value)} {oc3 kV3 dc3 pm3 cd3 ct3 : Value}
    (a3 : PySem.W.nsIn K mainGlobals "is_size" = some (some (.ref f3)))
    (l3 : K.lookup f3 = some ⟨oc3, od3, .func (PySem.W.fnOf "is_size" "is_size" (defArgs s_is_size) (defBody s_is_size) (defScope s_is_size) .none kV3 dc3 pm3 an3 cd3 ct3), sl3⟩) (c3 : PySem.W.codeIn K cd3 "is_size" = true) (k3 : PySem.W.keepIn K (.ref f3) = true)
    {f4 : Addr} {od4 an4 : Option Addr} {sl4 : Array (Option Value)} {oc4 kV4 dc4 pm4 cd4 ct4 : Value}
    (a4 : PySem.W.nsIn K mainGlobals "_first_wrong" = some (some (.ref f4)))
    (l4 : K.lookup f4 = some ⟨oc4, od4, .func (PySem.W.fnOf "_first_wrong" "_first_wrong" (defArgs s__first_wrong) (defBody s__first_wrong) (defScope s__first_wrong) .none kV4 dc4 pm4 an4 cd4 ct4), sl4⟩) (c4 : PySem.W.codeIn K cd4 "_first_wrong" = true) (k4 : PySem.W.keepIn K (.ref f4) = true)
    {f5 : Addr} {od5 an5 : Option Addr} {sl5 : Array (Option Value)} {oc5 kV5 dc5 pm5 cd5 ct5 : Value}
    (a5 : PySem.W.nsIn K mainGlobals "is_tuple" = some (some (.ref f5)))
    (l5 : K.lookup f5 = some ⟨oc5, od5, .func (PySem.W.fnOf "is_tuple" "is_tuple" (defArgs s_is_tuple) (defBody s_is_tuple) (defScope s_is_tuple) .none kV5 dc5 pm5 an5 cd5 ct5), sl5⟩) (c5 : PySem.W.codeIn K cd5 "is_tuple" = true) (k5 : PySem.W.keepIn K (.ref f5) = true)
    {f6 : Addr} {od6 an6 : Option Addr} {sl6 : Array (Option Value)} {oc6 kV6 dc6 pm6 cd6 ct6 : Value}
    (a6 : PySem.W.nsIn K mainGlobals "hall_error" = some (some (.ref f6)))
    (l6 : K.lookup f6 = some ⟨oc6, od6, .func (PySem.W.fnOf "hall_error" "hall_error" (defArgs s_hall_error) (defBody s_hall_error) (defScope s_hall_error) .none kV6 dc6 pm6 an6 cd6 ct6), sl6⟩) (c6 : PySem.W.codeIn K cd6 "hall_error" = true) (k6 : PySem.W.keepIn K (.ref f6) = true)
    {f7 : Addr} {od7 an7 : Option Addr} {sl7 : Array (Option Value)} {oc7 kV7 dc7 pm7 cd7 ct7 : Value}
    (a7 : PySem.W.nsIn K mainGlobals "counts_at" = some (some (.ref f7)))
    (l7 : K.lookup f7 = some ⟨oc7, od7, .func (PySem.W.fnOf "counts_at" "counts_at" (defArgs s_counts_at) (defBody s_counts_at) (defScope s_counts_at) .none kV7 dc7 pm7 an7 cd7 ct7), sl7⟩) (c7 : PySem.W.codeIn K cd7 "counts_at" = true) (k7 : PySem.W.keepIn K (.ref f7) = true)
    {f8 : Addr} {od8 an8 : Option Addr} {sl8 : Array (Option Value)} {oc8 kV8 dc8 pm8 cd8 ct8 : Value}
    (a8 : PySem.W.nsIn K mainGlobals "_foot_sizes" = some (some (.ref f8)))
    (l8 : K.lookup f8 = some ⟨oc8, od8, .func (PySem.W.fnOf "_foot_sizes" "_foot_sizes" (defArgs s__foot_sizes) (defBody s__foot_sizes) (defScope s__foot_sizes) .none kV8 dc8 pm8 an8 cd8 ct8), sl8⟩) (c8 : PySem.W.codeIn K cd8 "_foot_sizes" = true) (k8 : PySem.W.keepIn K (.ref f8) = true)
    {f9 : Addr} {od9 an9 : Option Addr} {sl9 : Array (Option Value)} {oc9 kV9 dc9 pm9 cd9 ct9 : Value}
    (a9 : PySem.W.nsIn K mainGlobals "_deciding_sizes" = some (some (.ref f9)))
    (l9 : K.lookup f9 = some ⟨oc9, od9, .func (PySem.W.fnOf "_deciding_sizes" "_deciding_sizes" (defArgs s__deciding_sizes) (defBody s__deciding_sizes) (defScope s__deciding_sizes) .none kV9 dc9 pm9 an9 cd9 ct9), sl9⟩) (c9 : PySem.W.codeIn K cd9 "_deciding_sizes" = true) (k9 : PySem.W.keepIn K (.ref f9) = true)
    {f10 : Addr} {od10 an10 : Option Addr} {sl10 : Array (Option Value)} {oc10 kV10 dc10 pm10 cd10 ct10 : Value}
    (a10 : PySem.W.nsIn K mainGlobals "most_served" = some (some (.ref f10)))
    (l10 : K.lookup f10 = some ⟨oc10, od10, .func (PySem.W.fnOf "most_served" "most_served" (defArgs s_most_served) (defBody s_most_served) (defScope s_most_served) .none kV10 dc10 pm10 an10 cd10 ct10), sl10⟩) (c10 : PySem.W.codeIn K cd10 "most_served" = true) (k10 : PySem.W.keepIn K (.ref f10) = true)
    {f11 : Addr} {od11 an11 : Option Addr} {sl11 : Array (Option Value)} {oc11 kV11 dc11 pm11 cd11 ct11 : Value}
    (a11 : PySem.W.nsIn K mainGlobals "fewest_served" = some (some (.ref f11)))
    (l11 : K.lookup f11 = some ⟨oc11, od11, .func (PySem.W.fnOf "fewest_served" "fewest_served" (defArgs s_fewest_served) (defBody s_fewest_served) (defScope s_fewest_served) .none kV11 dc11 pm11 an11 cd11 ct11), sl11⟩) (c11 : PySem.W.codeIn K cd11 "fewest_served" = true) (k11 : PySem.W.keepIn K (.ref f11) = true)
    {f12 : Addr} {od12 an12 : Option Addr} {sl12 : Array (Option Value)} {oc12 kV12 dc12 pm12 cd12 ct12 : Value}
    (a12 : PySem.W.nsIn K mainGlobals "_law_draw" = some (some (.ref f12)))
    (l12 : K.lookup f12 = some ⟨oc12, od12, .func (PySem.W.fnOf "_law_draw" "_law_draw" (defArgs s__law_draw) (defBody s__law_draw) (defScope s__law_draw) .none kV12 dc12 pm12 an12 cd12 ct12), sl12⟩) (c12 : PySem.W.codeIn K cd12 "_law_draw" = true) (k12 : PySem.W.keepIn K (.ref f12) = true)
    {f13 : Addr} {od13 an13 : Option Addr} {sl13 : Array (Option Value)} {oc13 kV13 dc13 pm13 cd13 ct13 : Value}
    (a13 : PySem.W.nsIn K mainGlobals "_law_sizes" = some (some (.ref f13)))
    (l13 : K.lookup f13 = some ⟨oc13, od13, .func (PySem.W.fnOf "_law_sizes" "_law_sizes" (defArgs s__law_sizes) (defBody s__law_sizes) (defScope s__law_sizes) .none kV13 dc13 pm13 an13 cd13 ct13), sl13⟩) (c13 : PySem.W.codeIn K cd13 "_law_sizes" = true) (k13 : PySem.W.keepIn K (.ref f13) = true)
    {f14 : Addr} {od14 an14 : Option Addr} {sl14 : Array (Option Value)} {oc14 kV14 dc14 pm14 cd14 ct14 : Value}
    (a14 : PySem.W.nsIn K mainGlobals "_law_hall" = some (some (.ref f14)))
    (l14 : K.lookup f14 = some ⟨oc14, od14, .func (PySem.W.fnOf "_law_hall" "_law_hall" (defArgs s__law_hall) (defBody s__law_hall) (defScope s__law_hall) .none kV14 dc14 pm14 an14 cd14 ct14), sl14⟩) (c14 : PySem.W.codeIn K cd14 "_law_hall" = true) (k14 : PySem.W.keepIn K (.ref f14) = true)
    {f15 : Addr} {od15 an15 : Option Addr} {sl15 : Array (Option Value)} {oc15 kV15 dc15 pm15 cd15 ct15 : Value}
    (a15 : PySem.W.nsIn K mainGlobals "_law_edit" = some (some (.ref f15)))
    (l15 : K.lookup f15 = some ⟨oc15, od15, .func (PySem.W.fnOf "_law_edit" "_law_edit" (defArgs s__law_edit) (defBody s__law_edit) (defScope s__law_edit) .none kV15 dc15 pm15 an15 cd15 ct15), sl15⟩) (c15 : PySem.W.codeIn K cd15 "_law_edit" = true) (k15 : PySem.W.keepIn K (.ref f15) = true)
    {f16 : Addr} {od16 an16 : Option Addr} {sl16 : Array (Option Value)} {oc16 kV16 dc16 pm16 cd16 ct16 : Value}
    (a16 : PySem.W.nsIn K mainGlobals "_law_after" = some (some (.ref f16)))
    (l16 : K.lookup f16 = some ⟨oc16, od16, .func (PySem.W.fnOf "_law_after" "_law_after" (defArgs s__law_after) (defBody s__law_after) (defScope s__law_after) .none kV16 dc16 pm16 an16 cd16 ct16), sl16⟩) (c16 : PySem.W.codeIn K cd16 "_law_after" = true) (k16 : PySem.W.keepIn K (.ref f16) = true)
    {f17 : Addr} {od17 an17 : Option Addr} {sl17 : Array (Option Value)} {oc17 kV17 dc17 pm17 cd17 ct17 : Value}
    (a17 : PySem.W.nsIn K mainGlobals "_with_guest" = some (some (.ref f17)))
    (l17 : K.lookup f17 = some ⟨oc17, od17, .func (PySem.W.fnOf "_with_guest" "_with_guest" (defArgs s__with_guest) (defBody s__with_guest) (defScope s__with_guest) .none kV17 dc17 pm17 an17 cd17 ct17), sl17⟩) (c17 : PySem.W.codeIn K cd17 "_with_guest" = true) (k17 : PySem.W.keepIn K (.ref f17) = true)
    {f18 : Addr} {od18 an18 : Option Addr} {sl18 : Array (Option Value)} {oc18 kV18 dc18 pm18 cd18 ct18 : Value}
    (a18 : PySem.W.nsIn K mainGlobals "_without_guest" = some (some (.ref f18)))
    (l18 : K.lookup f18 = some ⟨oc18, od18, .func (PySem.W.fnOf "_without_guest" "_without_guest" (defArgs s__without_guest) (defBody s__without_guest) (defScope s__without_guest) .none kV18 dc18 pm18 an18 cd18 ct18), sl18⟩) (c18 : PySem.W.codeIn K cd18 "_without_guest" = true) (k18 : PySem.W.keepIn K (.ref f18) = true)
    {f19 : Addr} {od19 an19 : Option Addr} {sl19 : Array (Option Value)} {oc19 kV19 dc19 pm19 cd19 ct19 : Value}
    (a19 : PySem.W.nsIn K mainGlobals "_with_pair" = some (some (.ref f19)))
    (l19 : K.lookup f19 = some ⟨oc19, od19, .func (PySem.W.fnOf "_with_pair" "_with_pair" (defArgs s__with_pair) (defBody s__with_pair) (defScope s__with_pair) .none kV19 dc19 pm19 an19 cd19 ct19), sl19⟩) (c19 : PySem.W.codeIn K cd19 "_with_pair" = true) (k19 : PySem.W.keepIn K (.ref f19) = true)
    {f20 : Addr} {od20 an20 : Option Addr} {sl20 : Array (Option Value)} {oc20 kV20 dc20 pm20 cd20 ct20 : Value}
    (a20 : PySem.W.nsIn K mainGlobals "_without_pair" = some (some (.ref f20)))
    (l20 : K.lookup f20 = some ⟨oc20, od20, .func (PySem.W.fnOf "_without_pair" "_without_pair" (defArgs s__without_pair) (defBody s__without_pair) (defScope s__without_pair) .none kV20 dc20 pm20 an20 cd20 ct20), sl20⟩) (c20 : PySem.W.codeIn K cd20 "_without_pair" = true) (k20 : PySem.W.keepIn K (.ref f20) = true)
    {f21 : Addr} {od21 an21 : Option Addr} {sl21 : Array (Option Value)} {oc21 kV21 dc21 pm21 cd21 ct21 : Value}
    (a21 : PySem.W.nsIn K mainGlobals "hall_after" = some (some (.ref f21)))
    (l21 : K.lookup f21 = some ⟨oc21, od21, .func (PySem.W.fnOf "hall_after" "hall_after" (defArgs s_hall_after) (defBody s_hall_after) (defScope s_hall_after) .none kV21 dc21 pm21 an21 cd21 ct21), sl21⟩) (c21 : PySem.W.codeIn K cd21 "hall_after" = true) (k21 : PySem.W.keepIn K (.ref f21) = true)
    {f22 : Addr} {od22 an22 : Option Addr} {sl22 : Array (Option Value)} {oc22 kV22 dc22 pm22 cd22 ct22 : Value}
    (a22 : PySem.W.nsIn K mainGlobals "_law_do" = some (some (.ref f22)))
    (l22 : K.lookup f22 = some ⟨oc22, od22, .func (PySem.W.fnOf "_law_do" "_law_do" (defArgs s__law_do) (defBody s__law_do) (defScope s__law_do) .none kV22 dc22 pm22 an22 cd22 ct22), sl22⟩) (c22 : PySem.W.codeIn K cd22 "_law_do" = true) (k22 : PySem.W.keepIn K (.ref f22) = true)
    {f23 : Addr} {od23 an23 : Option Addr} {sl23 : Array (Option Value)} {oc23 kV23 dc23 pm23 cd23 ct23 : Value}
    (a23 : PySem.W.nsIn K mainGlobals "_fitting" = some (some (.ref f23)))
    (l23 : K.lookup f23 = some ⟨oc23, od23, .func (PySem.W.fnOf "_fitting" "_fitting" (defArgs s__fitting) (defBody s__fitting) (defScope s__fitting) .none kV23 dc23 pm23 an23 cd23 ct23), sl23⟩) (c23 : PySem.W.codeIn K cd23 "_fitting" = true) (k23 : PySem.W.keepIn K (.ref f23) = true)
    {f24 : Addr} {od24 an24 : Option Addr} {sl24 : Array (Option Value)} {oc24 kV24 dc24 pm24 cd24 ct24 : Value}
    (a24 : PySem.W.nsIn K mainGlobals "run_by_liking" = some (some (.ref f24)))
    (l24 : K.lookup f24 = some ⟨oc24, od24, .func (PySem.W.fnOf "run_by_liking" "run_by_liking" (defArgs s_run_by_liking) (defBody s_run_by_liking) (defScope s_run_by_liking) .none kV24 dc24 pm24 an24 cd24 ct24), sl24⟩) (c24 : PySem.W.codeIn K cd24 "run_by_liking" = true) (k24 : PySem.W.keepIn K (.ref f24) = true)
    {f25 : Addr} {od25 an25 : Option Addr} {sl25 : Array (Option Value)} {oc25 kV25 dc25 pm25 cd25 ct25 : Value}
    (a25 : PySem.W.nsIn K mainGlobals "large_run" = some (some (.ref f25)))
    (l25 : K.lookup f25 = some ⟨oc25, od25, .func (PySem.W.fnOf "large_run" "large_run" (defArgs s_large_run) (defBody s_large_run) (defScope s_large_run) .none kV25 dc25 pm25 an25 cd25 ct25), sl25⟩) (c25 : PySem.W.codeIn K cd25 "large_run" = true) (k25 : PySem.W.keepIn K (.ref f25) = true)
    {f26 : Addr} {od26 an26 : Option Addr} {sl26 : Array (Option Value)} {oc26 kV26 dc26 pm26 cd26 ct26 : Value}
    (a26 : PySem.W.nsIn K mainGlobals "order_by_feet" = some (some (.ref f26)))
    (l26 : K.lookup f26 = some ⟨oc26, od26, .func (PySem.W.fnOf "order_by_feet" "order_by_feet" (defArgs s_order_by_feet) (defBody s_order_by_feet) (defScope s_order_by_feet) .none kV26 dc26 pm26 an26 cd26 ct26), sl26⟩) (c26 : PySem.W.codeIn K cd26 "order_by_feet" = true) (k26 : PySem.W.keepIn K (.ref f26) = true)
    {f27 : Addr} {od27 an27 : Option Addr} {sl27 : Array (Option Value)} {oc27 kV27 dc27 pm27 cd27 ct27 : Value}
    (a27 : PySem.W.nsIn K mainGlobals "_word_at" = some (some (.ref f27)))
    (l27 : K.lookup f27 = some ⟨oc27, od27, .func (PySem.W.fnOf "_word_at" "_word_at" (defArgs s__word_at) (defBody s__word_at) (defScope s__word_at) .none kV27 dc27 pm27 an27 cd27 ct27), sl27⟩) (c27 : PySem.W.codeIn K cd27 "_word_at" = true) (k27 : PySem.W.keepIn K (.ref f27) = true)
    {f28 : Addr} {od28 an28 : Option Addr} {sl28 : Array (Option Value)} {oc28 kV28 dc28 pm28 cd28 ct28 : Value}
    (a28 : PySem.W.nsIn K mainGlobals "sure_certificate" = some (some (.ref f28)))
    (l28 : K.lookup f28 = some ⟨oc28, od28, .func (PySem.W.fnOf "sure_certificate" "sure_certificate" (defArgs s_sure_certificate) (defBody s_sure_certificate) (defScope s_sure_certificate) .none kV28 dc28 pm28 an28 cd28 ct28), sl28⟩) (c28 : PySem.W.codeIn K cd28 "sure_certificate" = true) (k28 : PySem.W.keepIn K (.ref f28) = true)
    {f29 : Addr} {od29 an29 : Option Addr} {sl29 : Array (Option Value)} {oc29 kV29 dc29 pm29 cd29 ct29 : Value}
    (a29 : PySem.W.nsIn K mainGlobals "small_run" = some (some (.ref f29)))
    (l29 : K.lookup f29 = some ⟨oc29, od29, .func (PySem.W.fnOf "small_run" "small_run" (defArgs s_small_run) (defBody s_small_run) (defScope s_small_run) .none kV29 dc29 pm29 an29 cd29 ct29), sl29⟩) (c29 : PySem.W.codeIn K cd29 "small_run" = true) (k29 : PySem.W.keepIn K (.ref f29) = true)
    {f30 : Addr} {od30 an30 : Option Addr} {sl30 : Array (Option Value)} {oc30 kV30 dc30 pm30 cd30 ct30 : Value}
    (a30 : PySem.W.nsIn K mainGlobals "_law_queried" = some (some (.ref f30)))
    (l30 : K.lookup f30 = some ⟨oc30, od30, .func (PySem.W.fnOf "_law_queried" "_law_queried" (defArgs s__law_queried) (defBody s__law_queried) (defScope s__law_queried) .none kV30 dc30 pm30 an30 cd30 ct30), sl30⟩) (c30 : PySem.W.codeIn K cd30 "_law_queried" = true) (k30 : PySem.W.keepIn K (.ref f30) = true)
    {f31 : Addr} {od31 an31 : Option Addr} {sl31 : Array (Option Value)} {oc31 kV31 dc31 pm31 cd31 ct31 : Value}
    (a31 : PySem.W.nsIn K mainGlobals "_law_told" = some (some (.ref f31)))
    (l31 : K.lookup f31 = some ⟨oc31, od31, .func (PySem.W.fnOf "_law_told" "_law_told" (defArgs s__law_told) (defBody s__law_told) (defScope s__law_told) .none kV31 dc31 pm31 an31 cd31 ct31), sl31⟩) (c31 : PySem.W.codeIn K cd31 "_law_told" = true) (k31 : PySem.W.keepIn K (.ref f31) = true)
    {f32 : Addr} {od32 an32 : Option Addr} {sl32 : Array (Option Value)} {oc32 kV32 dc32 pm32 cd32 ct32 : Value}
    (a32 : PySem.W.nsIn K mainGlobals "_law_is_within" = some (some (.ref f32)))
    (l32 : K.lookup f32 = some ⟨oc32, od32, .func (PySem.W.fnOf "_law_is_within" "_law_is_within" (defArgs s__law_is_within) (defBody s__law_is_within) (defScope s__law_is_within) .none kV32 dc32 pm32 an32 cd32 ct32), sl32⟩) (c32 : PySem.W.codeIn K cd32 "_law_is_within" = true) (k32 : PySem.W.keepIn K (.ref f32) = true)
    {f33 : Addr} {od33 an33 : Option Addr} {sl33 : Array (Option Value)} {oc33 kV33 dc33 pm33 cd33 ct33 : Value}
    (a33 : PySem.W.nsIn K mainGlobals "_law_walked" = some (some (.ref f33)))
    (l33 : K.lookup f33 = some ⟨oc33, od33, .func (PySem.W.fnOf "_law_walked" "_law_walked" (defArgs s__law_walked) (defBody s__law_walked) (defScope s__law_walked) .none kV33 dc33 pm33 an33 cd33 ct33), sl33⟩) (c33 : PySem.W.codeIn K cd33 "_law_walked" = true) (k33 : PySem.W.keepIn K (.ref f33) = true)
    {f34 : Addr} {od34 an34 : Option Addr} {sl34 : Array (Option Value)} {oc34 kV34 dc34 pm34 cd34 ct34 : Value}
    (a34 : PySem.W.nsIn K mainGlobals "_law_expected" = some (some (.ref f34)))
    (l34 : K.lookup f34 = some ⟨oc34, od34, .func (PySem.W.fnOf "_law_expected" "_law_expected" (defArgs s__law_expected) (defBody s__law_expected) (defScope s__law_expected) .none kV34 dc34 pm34 an34 cd34 ct34), sl34⟩) (c34 : PySem.W.codeIn K cd34 "_law_expected" = true) (k34 : PySem.W.keepIn K (.ref f34) = true)
    {f35 : Addr} {od35 an35 : Option Addr} {sl35 : Array (Option Value)} {oc35 kV35 dc35 pm35 cd35 ct35 : Value}
    (a35 : PySem.W.nsIn K mainGlobals "_law_ends" = some (some (.ref f35)))
    (l35 : K.lookup f35 = some ⟨oc35, od35, .func (PySem.W.fnOf "_law_ends" "_law_ends" (defArgs s__law_ends) (defBody s__law_ends) (defScope s__law_ends) .none kV35 dc35 pm35 an35 cd35 ct35), sl35⟩) (c35 : PySem.W.codeIn K cd35 "_law_ends" = true) (k35 : PySem.W.keepIn K (.ref f35) = true)
    {f36 : Addr} {od36 an36 : Option Addr} {sl36 : Array (Option Value)} {oc36 kV36 dc36 pm36 cd36 ct36 : Value}
    (a36 : PySem.W.nsIn K mainGlobals "law" = some (some (.ref f36)))
    (l36 : K.lookup f36 = some ⟨oc36, od36, .func (PySem.W.fnOf "law" "law" (defArgs s_law) (defBody s_law) (defScope s_law) .none kV36 dc36 pm36 an36 cd36 ct36), sl36⟩) (c36 : PySem.W.codeIn K cd36 "law" = true) (k36 : PySem.W.keepIn K (.ref f36) = true)
    {f37 : Addr} {od37 an37 : Option Addr} {sl37 : Array (Option Value)} {oc37 kV37 dc37 pm37 cd37 ct37 : Value}
    (a37 : PySem.W.findIn K (.ref C_Party) "_stand" = some (some (.ref f37))) (fn37 : PySem.W.isFn K (.ref f37) = true)
    (l37 : K.lookup f37 = some ⟨oc37, od37, .func (PySem.W.fnOf "_stand" "Party._stand" (defArgs s_Party__stand) (defBody s_Party__stand) (defScope s_Party__stand) .none kV37 dc37 pm37 an37 cd37 ct37), sl37⟩) (c37 : PySem.W.codeIn K cd37 "Party._stand" = true) (k37 : PySem.W.keepIn K (.ref f37) = true)
    {f38 : Addr} {od38 an38 : Option Addr} {sl38 : Array (Option Value)} {oc38 kV38 dc38 pm38 cd38 ct38 : Value}
    (a38 : PySem.W.findIn K (.ref C_Party) "__init__" = some (some (.ref f38))) (fn38 : PySem.W.isFn K (.ref f38) = true)
    (l38 : K.lookup f38 = some ⟨oc38, od38, .func (PySem.W.fnOf "__init__" "Party.__init__" (defArgs s_Party___init__) (defBody s_Party___init__) (defScope s_Party___init__) .none kV38 dc38 pm38 an38 cd38 ct38), sl38⟩) (c38 : PySem.W.codeIn K cd38 "Party.__init__" = true) (k38 : PySem.W.keepIn K (.ref f38) = true)
    {f39 : Addr} {od39 an39 : Option Addr} {sl39 : Array (Option Value)} {oc39 kV39 dc39 pm39 cd39 ct39 : Value}
    (a39 : PySem.W.findIn K (.ref C_Party) "_ask_idle" = some (some (.ref f39))) (fn39 : PySem.W.isFn K (.ref f39) = true)
    (l39 : K.lookup f39 = some ⟨oc39, od39, .func (PySem.W.fnOf "_ask_idle" "Party._ask_idle" (defArgs s_Party__ask_idle) (defBody s_Party__ask_idle) (defScope s_Party__ask_idle) .none kV39 dc39 pm39 an39 cd39 ct39), sl39⟩) (c39 : PySem.W.codeIn K cd39 "Party._ask_idle" = true) (k39 : PySem.W.keepIn K (.ref f39) = true)
    {f40 : Addr} {od40 an40 : Option Addr} {sl40 : Array (Option Value)} {oc40 kV40 dc40 pm40 cd40 ct40 : Value}
    (a40 : PySem.W.findIn K (.ref C_Party) "_ask_pledge" = some (some (.ref f40))) (fn40 : PySem.W.isFn K (.ref f40) = true)
    (l40 : K.lookup f40 = some ⟨oc40, od40, .func (PySem.W.fnOf "_ask_pledge" "Party._ask_pledge" (defArgs s_Party__ask_pledge) (defBody s_Party__ask_pledge) (defScope s_Party__ask_pledge) .none kV40 dc40 pm40 an40 cd40 ct40), sl40⟩) (c40 : PySem.W.codeIn K cd40 "Party._ask_pledge" = true) (k40 : PySem.W.keepIn K (.ref f40) = true)
    {f41 : Addr} {od41 an41 : Option Addr} {sl41 : Array (Option Value)} {oc41 kV41 dc41 pm41 cd41 ct41 : Value}
    (a41 : PySem.W.findIn K (.ref C_Party) "_do" = some (some (.ref f41))) (fn41 : PySem.W.isFn K (.ref f41) = true)
    (l41 : K.lookup f41 = some ⟨oc41, od41, .func (PySem.W.fnOf "_do" "Party._do" (defArgs s_Party__do) (defBody s_Party__do) (defScope s_Party__do) .none kV41 dc41 pm41 an41 cd41 ct41), sl41⟩) (c41 : PySem.W.codeIn K cd41 "Party._do" = true) (k41 : PySem.W.keepIn K (.ref f41) = true)
    {f42 : Addr} {od42 an42 : Option Addr} {sl42 : Array (Option Value)} {oc42 kV42 dc42 pm42 cd42 ct42 : Value}
    (a42 : PySem.W.findIn K (.ref C_Party) "_edit" = some (some (.ref f42))) (fn42 : PySem.W.isFn K (.ref f42) = true)
    (l42 : K.lookup f42 = some ⟨oc42, od42, .func (PySem.W.fnOf "_edit" "Party._edit" (defArgs s_Party__edit) (defBody s_Party__edit) (defScope s_Party__edit) .none kV42 dc42 pm42 an42 cd42 ct42), sl42⟩) (c42 : PySem.W.codeIn K cd42 "Party._edit" = true) (k42 : PySem.W.keepIn K (.ref f42) = true)
    {f43 : Addr} {od43 an43 : Option Addr} {sl43 : Array (Option Value)} {oc43 kV43 dc43 pm43 cd43 ct43 : Value}
    (a43 : PySem.W.findIn K (.ref C_Party) "take" = some (some (.ref f43))) (fn43 : PySem.W.isFn K (.ref f43) = true)
    (l43 : K.lookup f43 = some ⟨oc43, od43, .func (PySem.W.fnOf "take" "Party.take" (defArgs s_Party_take) (defBody s_Party_take) (defScope s_Party_take) .none kV43 dc43 pm43 an43 cd43 ct43), sl43⟩) (c43 : PySem.W.codeIn K cd43 "Party.take" = true) (k43 : PySem.W.keepIn K (.ref f43) = true)
    {f44 : Addr} {od44 an44 : Option Addr} {sl44 : Array (Option Value)} {oc44 kV44 dc44 pm44 cd44 ct44 : Value}
    (a44 : PySem.W.findIn K (.ref C_Party) "come" = some (some (.ref f44))) (fn44 : PySem.W.isFn K (.ref f44) = true)
    (l44 : K.lookup f44 = some ⟨oc44, od44, .func (PySem.W.fnOf "come" "Party.come" (defArgs s_Party_come) (defBody s_Party_come) (defScope s_Party_come) .none kV44 dc44 pm44 an44 cd44 ct44), sl44⟩) (c44 : PySem.W.codeIn K cd44 "Party.come" = true) (k44 : PySem.W.keepIn K (.ref f44) = true)
    {f45 : Addr} {od45 an45 : Option Addr} {sl45 : Array (Option Value)} {oc45 kV45 dc45 pm45 cd45 ct45 : Value}
    (a45 : PySem.W.findIn K (.ref C_Party) "leave" = some (some (.ref f45))) (fn45 : PySem.W.isFn K (.ref f45) = true)
    (l45 : K.lookup f45 = some ⟨oc45, od45, .func (PySem.W.fnOf "leave" "Party.leave" (defArgs s_Party_leave) (defBody s_Party_leave) (defScope s_Party_leave) .none kV45 dc45 pm45 an45 cd45 ct45), sl45⟩) (c45 : PySem.W.codeIn K cd45 "Party.leave" = true) (k45 : PySem.W.keepIn K (.ref f45) = true)
    {f46 : Addr} {od46 an46 : Option Addr} {sl46 : Array (Option Value)} {oc46 kV46 dc46 pm46 cd46 ct46 : Value}
    (a46 : PySem.W.findIn K (.ref C_Party) "put" = some (some (.ref f46))) (fn46 : PySem.W.isFn K (.ref f46) = true)
    (l46 : K.lookup f46 = some ⟨oc46, od46, .func (PySem.W.fnOf "put" "Party.put" (defArgs s_Party_put) (defBody s_Party_put) (defScope s_Party_put) .none kV46 dc46 pm46 an46 cd46 ct46), sl46⟩) (c46 : PySem.W.codeIn K cd46 "Party.put" = true) (k46 : PySem.W.keepIn K (.ref f46) = true)
    {f47 : Addr} {od47 an47 : Option Addr} {sl47 : Array (Option Value)} {oc47 kV47 dc47 pm47 cd47 ct47 : Value}
    (a47 : PySem.W.findIn K (.ref C_Party) "_hall_at" = some (some (.ref f47))) (fn47 : PySem.W.isFn K (.ref f47) = true)
    (l47 : K.lookup f47 = some ⟨oc47, od47, .func (PySem.W.fnOf "_hall_at" "Party._hall_at" (defArgs s_Party__hall_at) (defBody s_Party__hall_at) (defScope s_Party__hall_at) .none kV47 dc47 pm47 an47 cd47 ct47), sl47⟩) (c47 : PySem.W.codeIn K cd47 "Party._hall_at" = true) (k47 : PySem.W.keepIn K (.ref f47) = true)
    {f48 : Addr} {od48 an48 : Option Addr} {sl48 : Array (Option Value)} {oc48 dc48 pm48 cd48 ct48 : Value}
    (a48 : PySem.W.findIn K (.ref C_Party) "certificate" = some (some (.ref f48))) (fn48 : PySem.W.isFn K (.ref f48) = true)
    {D48 : Addr}
    (l48 : K.lookup f48 = some ⟨oc48, od48, .func (PySem.W.fnOf "certificate" "Party.certificate" (defArgs s_Party_certificate) (defBody s_Party_certificate) (defScope s_Party_certificate) .none (.ref D48) dc48 pm48 an48 cd48 ct48), sl48⟩) (c48 : PySem.W.codeIn K cd48 "Party.certificate" = true) (k48 : PySem.W.keepIn K (.ref f48) = true)
    (kd48 : PySem.W.nsIn K D48 "version" = some (some .none))
    {f49 : Addr} {od49 an49 : Option Addr} {sl49 : Array (Option Value)} {oc49 dc49 pm49 cd49 ct49 : Value}
    (a49 : PySem.W.findIn K (.ref C_Party) "state" = some (some (.ref f49))) (fn49 : PySem.W.isFn K (.ref f49) = true)
    {D49 : Addr}
    (l49 : K.lookup f49 = some ⟨oc49, od49, .func (PySem.W.fnOf "state" "Party.state" (defArgs s_Party_state) (defBody s_Party_state) (defScope s_Party_state) .none (.ref D49) dc49 pm49 an49 cd49 ct49), sl49⟩) (c49 : PySem.W.codeIn K cd49 "Party.state" = true) (k49 : PySem.W.keepIn K (.ref f49) = true)
    (kd49 : PySem.W.nsIn K D49 "version" = some (some .none))
    {f50 : Addr} {od50 an50 : Option Addr} {sl50 : Array (Option Value)} {oc50 dc50 pm50 cd50 ct50 : Value}
    (a50 : PySem.W.findIn K (.ref C_Party) "walk" = some (some (.ref f50))) (fn50 : PySem.W.isFn K (.ref f50) = true)
    {D50 : Addr}
    (l50 : K.lookup f50 = some ⟨oc50, od50, .func (PySem.W.fnOf "walk" "Party.walk" (defArgs s_Party_walk) (defBody s_Party_walk) (defScope s_Party_walk) .none (.ref D50) dc50 pm50 an50 cd50 ct50), sl50⟩) (c50 : PySem.W.codeIn K cd50 "Party.walk" = true) (k50 : PySem.W.keepIn K (.ref f50) = true)
    (kd50 : PySem.W.nsIn K D50 "version" = some (some .none))
    {f51 : Addr} {od51 an51 : Option Addr} {sl51 : Array (Option Value)} {oc51 kV51 dc51 pm51 cd51 ct51 : Value}
    (a51 : PySem.W.findIn K (.ref C_Party) "undo" = some (some (.ref f51))) (fn51 : PySem.W.isFn K (.ref f51) = true)
    (l51 : K.lookup f51 = some ⟨oc51, od51, .func (PySem.W.fnOf "undo" "Party.undo" (defArgs s_Party_undo) (defBody s_Party_undo) (defScope s_Party_undo) .none kV51 dc51 pm51 an51 cd51 ct51), sl51⟩) (c51 : PySem.W.codeIn K cd51 "Party.undo" = true) (k51 : PySem.W.keepIn K (.ref f51) = true)
    {f52 : Addr} {od52 an52 : Option Addr} {sl52 : Array (Option Value)} {oc52 kV52 dc52 pm52 cd52 ct52 : Value}
    (a52 : PySem.W.findIn K (.ref C_BadHall) "__init__" = some (some (.ref f52))) (tI52 : PySem.W.typeIn K (.ref f52) = some (.type "function"))
    (l52 : K.lookup f52 = some ⟨oc52, od52, .func (PySem.W.fnOf "__init__" "BadHall.__init__" (defArgs s_BadHall_init) (defBody s_BadHall_init) (defScope s_BadHall_init) .none kV52 dc52 pm52 an52 cd52 ct52), sl52⟩) (c52 : PySem.W.codeIn K cd52 "BadHall.__init__" = true) (k52 : PySem.W.keepIn K (.ref f52) = true)
    {f53 : Addr} {od53 an53 : Option Addr} {sl53 : Array (Option Value)} {oc53 kV53 dc53 pm53 cd53 ct53 : Value}
    (a53 : PySem.W.findIn K (.ref C_BadFoot) "__init__" = some (some (.ref f53))) (tI53 : PySem.W.typeIn K (.ref f53) = some (.type "function"))
    (l53 : K.lookup f53 = some ⟨oc53, od53, .func (PySem.W.fnOf "__init__" "BadFoot.__init__" (defArgs s_BadFoot_init) (defBody s_BadFoot_init) (defScope s_BadFoot_init) .none kV53 dc53 pm53 an53 cd53 ct53), sl53⟩) (c53 : PySem.W.codeIn K cd53 "BadFoot.__init__" = true) (k53 : PySem.W.keepIn K (.ref f53) = true)
    {f54 : Addr} {od54 an54 : Option Addr} {sl54 : Array (Option Value)} {oc54 kV54 dc54 pm54 cd54 ct54 : Value}
    (a54 : PySem.W.findIn K (.ref C_NoGuest) "__init__" = some (some (.ref f54))) (tI54 : PySem.W.typeIn K (.ref f54) = some (.type "function"))
    (l54 : K.lookup f54 = some ⟨oc54, od54, .func (PySem.W.fnOf "__init__" "NoGuest.__init__" (defArgs s_NoGuest_init) (defBody s_NoGuest_init) (defScope s_NoGuest_init) .none kV54 dc54 pm54 an54 cd54 ct54), sl54⟩) (c54 : PySem.W.codeIn K cd54 "NoGuest.__init__" = true) (k54 : PySem.W.keepIn K (.ref f54) = true)
    {f55 : Addr} {od55 an55 : Option Addr} {sl55 : Array (Option Value)} {oc55 kV55 dc55 pm55 cd55 ct55 : Value}
    (a55 : PySem.W.findIn K (.ref C_BadSize) "__init__" = some (some (.ref f55))) (tI55 : PySem.W.typeIn K (.ref f55) = some (.type "function"))
    (l55 : K.lookup f55 = some ⟨oc55, od55, .func (PySem.W.fnOf "__init__" "BadSize.__init__" (defArgs s_BadSize_init) (defBody s_BadSize_init) (defScope s_BadSize_init) .none kV55 dc55 pm55 an55 cd55 ct55), sl55⟩) (c55 : PySem.W.codeIn K cd55 "BadSize.__init__" = true) (k55 : PySem.W.keepIn K (.ref f55) = true)
    {f56 : Addr} {od56 an56 : Option Addr} {sl56 : Array (Option Value)} {oc56 kV56 dc56 pm56 cd56 ct56 : Value}
    (a56 : PySem.W.findIn K (.ref C_NoPair) "__init__" = some (some (.ref f56))) (tI56 : PySem.W.typeIn K (.ref f56) = some (.type "function"))
    (l56 : K.lookup f56 = some ⟨oc56, od56, .func (PySem.W.fnOf "__init__" "NoPair.__init__" (defArgs s_NoPair_init) (defBody s_NoPair_init) (defScope s_NoPair_init) .none kV56 dc56 pm56 an56 cd56 ct56), sl56⟩) (c56 : PySem.W.codeIn K cd56 "NoPair.__init__" = true) (k56 : PySem.W.keepIn K (.ref f56) = true)
    {f57 : Addr} {od57 an57 : Option Addr} {sl57 : Array (Option Value)} {oc57 kV57 dc57 pm57 cd57 ct57 : Value}
    (a57 : PySem.W.findIn K (.ref C_NoVersion) "__init__" = some (some (.ref f57))) (tI57 : PySem.W.typeIn K (.ref f57) = some (.type "function"))
    (l57 : K.lookup f57 = some ⟨oc57, od57, .func (PySem.W.fnOf "__init__" "NoVersion.__init__" (defArgs s_NoVersion_init) (defBody s_NoVersion_init) (defScope s_NoVersion_init) .none kV57 dc57 pm57 an57 cd57 ct57), sl57⟩) (c57 : PySem.W.codeIn K cd57 "NoVersion.__init__" = true) (k57 : PySem.W.keepIn K (.ref f57) = true)
    {f58 : Addr} {od58 an58 : Option Addr} {sl58 : Array (Option Value)} {oc58 kV58 dc58 pm58 cd58 ct58 : Value}
    (a58 : PySem.W.findIn K (.ref C_BadNumber) "__init__" = some (some (.ref f58))) (tI58 : PySem.W.typeIn K (.ref f58) = some (.type "function"))
    (l58 : K.lookup f58 = some ⟨oc58, od58, .func (PySem.W.fnOf "__init__" "BadNumber.__init__" (defArgs s_BadNumber_init) (defBody s_BadNumber_init) (defScope s_BadNumber_init) .none kV58 dc58 pm58 an58 cd58 ct58), sl58⟩) (c58 : PySem.W.codeIn K cd58 "BadNumber.__init__" = true) (k58 : PySem.W.keepIn K (.ref f58) = true)
    (z_LookupError : PySem.W.nsIn K mainGlobals "LookupError" = some none)
    (z_ValueError : PySem.W.nsIn K mainGlobals "ValueError" = some none)
    (z_abs : PySem.W.nsIn K mainGlobals "abs" = some none)
    (z_all : PySem.W.nsIn K mainGlobals "all" = some none)
    (z_bool : PySem.W.nsIn K mainGlobals "bool" = some none)
    (z_enumerate : PySem.W.nsIn K mainGlobals "enumerate" = some none)
    (z_int : PySem.W.nsIn K mainGlobals "int" = some none)
    (z_isinstance : PySem.W.nsIn K mainGlobals "isinstance" = some none)
    (z_len : PySem.W.nsIn K mainGlobals "len" = some none)
    (z_list : PySem.W.nsIn K mainGlobals "list" = some none)
    (z_max : PySem.W.nsIn K mainGlobals "max" = some none)
    (z_min : PySem.W.nsIn K mainGlobals "min" = some none)
    (z_range : PySem.W.nsIn K mainGlobals "range" = some none)
    (z_repr : PySem.W.nsIn K mainGlobals "repr" = some none)
    (z_set : PySem.W.nsIn K mainGlobals "set" = some none)
    (z_sorted : PySem.W.nsIn K mainGlobals "sorted" = some none)
    (z_str : PySem.W.nsIn K mainGlobals "str" = some none)
    (z_sum : PySem.W.nsIn K mainGlobals "sum" = some none)
    (z_tuple : PySem.W.nsIn K mainGlobals "tuple" = some none)
    (z_zip : PySem.W.nsIn K mainGlobals "zip" = some none)
    {t_LIMIT : Tok} (y_LIMIT : PySem.W.nsIn K mainGlobals "LIMIT" = some (some (.int (1000) t_LIMIT)))
    {t_MAX_SIZE : Tok} (y_MAX_SIZE : PySem.W.nsIn K mainGlobals "MAX_SIZE" = some (some (.int (1000000) t_MAX_SIZE)))
    {t_MAX_GUESTS : Tok} (y_MAX_GUESTS : PySem.W.nsIn K mainGlobals "MAX_GUESTS" = some (some (.int (20) t_MAX_GUESTS)))
    {t_MAX_PAIRS : Tok} (y_MAX_PAIRS : PySem.W.nsIn K mainGlobals "MAX_PAIRS" = some (some (.int (20) t_MAX_PAIRS)))
    {t_NO_PAIR : Tok} (y_NO_PAIR : PySem.W.nsIn K mainGlobals "NO_PAIR" = some (some (.int (-1) t_NO_PAIR)))
    {t_SLASH : Tok} (y_SLASH : PySem.W.nsIn K mainGlobals "SLASH" = some (some (.str "/" t_SLASH)))
    {t_NO_PAIRS : Tok} (y_NO_PAIRS : PySem.W.nsIn K mainGlobals "NO_PAIRS" = some (some (.str "-" t_NO_PAIRS)))
    {t_WORDS : Tok} (y_WORDS : PySem.W.nsIn K mainGlobals "WORDS" = some (some (.int (3) t_WORDS)))
    (h_cg : PySem.W.specialIn K (.builtin "object.__class__") "__get__" = some (some (.builtin "getset_descriptor.__get__")))
    (h_ct : PySem.W.takesIn K (.builtin "object.__class__") = some true)
    (h_a_PartyError : PySem.W.nsIn K mainGlobals "PartyError" = some (some (.ref C_PartyError)))
    (h_ty_PartyError : PySem.W.typeIn K (.ref C_PartyError) = some (.type "type"))
    (h_hd_PartyError : PySem.W.hasDictIn K C_PartyError = true)
    (h_a_TooManyPairs : PySem.W.nsIn K mainGlobals "TooManyPairs" = some (some (.ref C_TooManyPairs)))
    (h_ty_TooManyPairs : PySem.W.typeIn K (.ref C_TooManyPairs) = some (.type "type"))
    (h_k_TooManyPairs : PySem.W.keepIn K (.ref C_TooManyPairs) = true)
    (h_a_BadFoot : PySem.W.nsIn K mainGlobals "BadFoot" = some (some (.ref C_BadFoot)))
    (h_ty_BadFoot : PySem.W.typeIn K (.ref C_BadFoot) = some (.type "type"))
    (h_k_BadFoot : PySem.W.keepIn K (.ref C_BadFoot) = true)
    (h_sa_BadFoot : PySem.W.findIn K (.ref C_BadFoot) "__setattr__" = some (some (.builtin "object.__setattr__")))
    (h_a_BadHall : PySem.W.nsIn K mainGlobals "BadHall" = some (some (.ref C_BadHall)))
    (h_ty_BadHall : PySem.W.typeIn K (.ref C_BadHall) = some (.type "type"))
    (h_k_BadHall : PySem.W.keepIn K (.ref C_BadHall) = true)
    (h_sa_BadHall : PySem.W.findIn K (.ref C_BadHall) "__setattr__" = some (some (.builtin "object.__setattr__")))
    (h_a_Busy : PySem.W.nsIn K mainGlobals "Busy" = some (some (.ref C_Busy)))
    (h_ty_Busy : PySem.W.typeIn K (.ref C_Busy) = some (.type "type"))
    (h_k_Busy : PySem.W.keepIn K (.ref C_Busy) = true)
    (h_a_TooManyEdits : PySem.W.nsIn K mainGlobals "TooManyEdits" = some (some (.ref C_TooManyEdits)))
    (h_ty_TooManyEdits : PySem.W.typeIn K (.ref C_TooManyEdits) = some (.type "type"))
    (h_k_TooManyEdits : PySem.W.keepIn K (.ref C_TooManyEdits) = true)
    (h_a_TooManyGuests : PySem.W.nsIn K mainGlobals "TooManyGuests" = some (some (.ref C_TooManyGuests)))
    (h_ty_TooManyGuests : PySem.W.typeIn K (.ref C_TooManyGuests) = some (.type "type"))
    (h_k_TooManyGuests : PySem.W.keepIn K (.ref C_TooManyGuests) = true)
    (h_a_LastGuest : PySem.W.nsIn K mainGlobals "LastGuest" = some (some (.ref C_LastGuest)))
    (h_ty_LastGuest : PySem.W.typeIn K (.ref C_LastGuest) = some (.type "type"))
    (h_k_LastGuest : PySem.W.keepIn K (.ref C_LastGuest) = true)
    (h_a_BadSize : PySem.W.nsIn K mainGlobals "BadSize" = some (some (.ref C_BadSize)))
    (h_ty_BadSize : PySem.W.typeIn K (.ref C_BadSize) = some (.type "type"))
    (h_k_BadSize : PySem.W.keepIn K (.ref C_BadSize) = true)
    (h_sa_BadSize : PySem.W.findIn K (.ref C_BadSize) "__setattr__" = some (some (.builtin "object.__setattr__")))
    (h_a_NothingToUndo : PySem.W.nsIn K mainGlobals "NothingToUndo" = some (some (.ref C_NothingToUndo)))
    (h_ty_NothingToUndo : PySem.W.typeIn K (.ref C_NothingToUndo) = some (.type "type"))
    (h_k_NothingToUndo : PySem.W.keepIn K (.ref C_NothingToUndo) = true)
    (h_a_BadEdits : PySem.W.nsIn K mainGlobals "BadEdits" = some (some (.ref C_BadEdits)))
    (h_cl_BadEdits : PySem.W.isClsIn K C_BadEdits = true)
    (h_ty_BadEdits : PySem.W.typeIn K (.ref C_BadEdits) = some (.type "type"))
    (h_s_BadEdits_BadEdits : PySem.W.subIn K (.ref C_BadEdits) (.ref C_BadEdits) = some true)
    (h_a_BadNumber : PySem.W.nsIn K mainGlobals "BadNumber" = some (some (.ref C_BadNumber)))
    (h_cl_BadNumber : PySem.W.isClsIn K C_BadNumber = true)
    (h_ty_BadNumber : PySem.W.typeIn K (.ref C_BadNumber) = some (.type "type"))
    (h_k_BadNumber : PySem.W.keepIn K (.ref C_BadNumber) = true)
    (h_hd_BadNumber : PySem.W.hasDictIn K C_BadNumber = true)
    (h_ca_BadNumber : PySem.W.findIn K (.ref C_BadNumber) "__class__" = some (some (.builtin "object.__class__")))
    (h_mo_BadNumber : PySem.W.mroIn K C_BadNumber (.type "object") = some true)
    (h_sa_BadNumber : PySem.W.findIn K (.ref C_BadNumber) "__setattr__" = some (some (.builtin "object.__setattr__")))
    (h_s_BadNumber_PartyError : PySem.W.subIn K (.ref C_BadNumber) (.ref C_PartyError) = some true)
    (h_s_BadNumber_BadEdits : PySem.W.subIn K (.ref C_BadNumber) (.ref C_BadEdits) = some false)
    (h_s_BadNumber_BadNumber : PySem.W.subIn K (.ref C_BadNumber) (.ref C_BadNumber) = some true)
    (h_s_BadNumber_TooFewServed : PySem.W.subIn K (.ref C_BadNumber) (.ref C_TooFewServed) = some false)
    (h_s_BadNumber_NoVersion : PySem.W.subIn K (.ref C_BadNumber) (.ref C_NoVersion) = some false)
    (h_s_BadNumber_ValueError : PySem.W.subIn K (.ref C_BadNumber) (.type "ValueError") = some true)
    (h_a_TooFewServed : PySem.W.nsIn K mainGlobals "TooFewServed" = some (some (.ref C_TooFewServed)))
    (h_cl_TooFewServed : PySem.W.isClsIn K C_TooFewServed = true)
    (h_ty_TooFewServed : PySem.W.typeIn K (.ref C_TooFewServed) = some (.type "type"))
    (h_s_TooFewServed_TooFewServed : PySem.W.subIn K (.ref C_TooFewServed) (.ref C_TooFewServed) = some true)
    (h_a_BadText : PySem.W.nsIn K mainGlobals "BadText" = some (some (.ref C_BadText)))
    (h_a_NoPlace : PySem.W.nsIn K mainGlobals "NoPlace" = some (some (.ref C_NoPlace)))
    (h_cl_NoPlace : PySem.W.isClsIn K C_NoPlace = true)
    (h_ty_NoPlace : PySem.W.typeIn K (.ref C_NoPlace) = some (.type "type"))
    (h_s_NoPlace_NoPlace : PySem.W.subIn K (.ref C_NoPlace) (.ref C_NoPlace) = some true)
    (h_a_NoGuest : PySem.W.nsIn K mainGlobals "NoGuest" = some (some (.ref C_NoGuest)))
    (h_cl_NoGuest : PySem.W.isClsIn K C_NoGuest = true)
    (h_ty_NoGuest : PySem.W.typeIn K (.ref C_NoGuest) = some (.type "type"))
    (h_k_NoGuest : PySem.W.keepIn K (.ref C_NoGuest) = true)
    (h_sa_NoGuest : PySem.W.findIn K (.ref C_NoGuest) "__setattr__" = some (some (.builtin "object.__setattr__")))
    (h_s_NoGuest_NoGuest : PySem.W.subIn K (.ref C_NoGuest) (.ref C_NoGuest) = some true)
    (h_a_NoPair : PySem.W.nsIn K mainGlobals "NoPair" = some (some (.ref C_NoPair)))
    (h_cl_NoPair : PySem.W.isClsIn K C_NoPair = true)
    (h_ty_NoPair : PySem.W.typeIn K (.ref C_NoPair) = some (.type "type"))
    (h_k_NoPair : PySem.W.keepIn K (.ref C_NoPair) = true)
    (h_sa_NoPair : PySem.W.findIn K (.ref C_NoPair) "__setattr__" = some (some (.builtin "object.__setattr__")))
    (h_s_NoPair_NoPair : PySem.W.subIn K (.ref C_NoPair) (.ref C_NoPair) = some true)
    (h_a_NoVersion : PySem.W.nsIn K mainGlobals "NoVersion" = some (some (.ref C_NoVersion)))
    (h_cl_NoVersion : PySem.W.isClsIn K C_NoVersion = true)
    (h_ty_NoVersion : PySem.W.typeIn K (.ref C_NoVersion) = some (.type "type"))
    (h_k_NoVersion : PySem.W.keepIn K (.ref C_NoVersion) = true)
    (h_hd_NoVersion : PySem.W.hasDictIn K C_NoVersion = true)
    (h_ca_NoVersion : PySem.W.findIn K (.ref C_NoVersion) "__class__" = some (some (.builtin "object.__class__")))
    (h_mo_NoVersion : PySem.W.mroIn K C_NoVersion (.type "object") = some true)
    (h_sa_NoVersion : PySem.W.findIn K (.ref C_NoVersion) "__setattr__" = some (some (.builtin "object.__setattr__")))
    (h_s_NoVersion_NoPlace : PySem.W.subIn K (.ref C_NoVersion) (.ref C_NoPlace) = some false)
    (h_s_NoVersion_NoGuest : PySem.W.subIn K (.ref C_NoVersion) (.ref C_NoGuest) = some false)
    (h_s_NoVersion_NoPair : PySem.W.subIn K (.ref C_NoVersion) (.ref C_NoPair) = some false)
    (h_s_NoVersion_NoVersion : PySem.W.subIn K (.ref C_NoVersion) (.ref C_NoVersion) = some true)
    (h_s_NoVersion_ValueError : PySem.W.subIn K (.ref C_NoVersion) (.type "ValueError") = some false)
    (h_s_NoVersion_StopIteration : PySem.W.subIn K (.ref C_NoVersion) (.type "StopIteration") = some false)
    (h_a_Party : PySem.W.nsIn K mainGlobals "Party" = some (some (.ref C_Party)))
    (h_k_Party : PySem.W.keepIn K (.ref C_Party) = true)
    (h_hd_Party : PySem.W.hasDictIn K C_Party = true)
    (h_sa_Party : PySem.W.findIn K (.ref C_Party) "__setattr__" = some (some (.builtin "object.__setattr__")))
    (h_sb_PartyError : PySem.W.subIn K (.ref C_PartyError) (.type "BaseException") = some true)
    (h_sb_TooManyPairs : PySem.W.subIn K (.ref C_TooManyPairs) (.type "BaseException") = some true)
    (h_sb_BadFoot : PySem.W.subIn K (.ref C_BadFoot) (.type "BaseException") = some true)
    (h_n_BadFoot : PySem.W.findIn K (.ref C_BadFoot) "value" = some none)
    (h_sb_BadHall : PySem.W.subIn K (.ref C_BadHall) (.type "BaseException") = some true)
    (h_n_BadHall : PySem.W.findIn K (.ref C_BadHall) "error" = some none)
    (h_sb_Busy : PySem.W.subIn K (.ref C_Busy) (.type "BaseException") = some true)
    (h_sb_TooManyEdits : PySem.W.subIn K (.ref C_TooManyEdits) (.type "BaseException") = some true)
    (h_sb_TooManyGuests : PySem.W.subIn K (.ref C_TooManyGuests) (.type "BaseException") = some true)
    (h_sb_LastGuest : PySem.W.subIn K (.ref C_LastGuest) (.type "BaseException") = some true)
    (h_sb_BadSize : PySem.W.subIn K (.ref C_BadSize) (.type "BaseException") = some true)
    (h_n_BadSize : PySem.W.findIn K (.ref C_BadSize) "value" = some none)
    (h_sb_NothingToUndo : PySem.W.subIn K (.ref C_NothingToUndo) (.type "BaseException") = some true)
    (h_ga_BadNumber : PySem.W.findIn K (.ref C_BadNumber) "__getattribute__" = some (some (.builtin "BaseException.__getattribute__")))
    (h_gt_BadNumber : PySem.W.findIn K (.ref C_BadNumber) "__getattr__" = some none)
    (h_sb_BadNumber : PySem.W.subIn K (.ref C_BadNumber) (.type "BaseException") = some true)
    (h_n_BadNumber : PySem.W.findIn K (.ref C_BadNumber) "value" = some none)
    (h_sb_NoGuest : PySem.W.subIn K (.ref C_NoGuest) (.type "BaseException") = some true)
    (h_n_NoGuest : PySem.W.findIn K (.ref C_NoGuest) "value" = some none)
    (h_sb_NoPair : PySem.W.subIn K (.ref C_NoPair) (.type "BaseException") = some true)
    (h_n_NoPair : PySem.W.findIn K (.ref C_NoPair) "value" = some none)
    (h_ga_NoVersion : PySem.W.findIn K (.ref C_NoVersion) "__getattribute__" = some (some (.builtin "BaseException.__getattribute__")))
    (h_gt_NoVersion : PySem.W.findIn K (.ref C_NoVersion) "__getattr__" = some none)
    (h_sb_NoVersion : PySem.W.subIn K (.ref C_NoVersion) (.type "BaseException") = some true)
    (h_n_NoVersion : PySem.W.findIn K (.ref C_NoVersion) "value" = some none)
    {tv_cv_Party_MOST_EDITS : Tok} (h_cv_Party_MOST_EDITS : PySem.W.findIn K (.ref C_Party) "MOST_EDITS" = some (some (.int 60 tv_cv_Party_MOST_EDITS)))
    (h_a_CHANGES : PySem.W.nsIn K mainGlobals "CHANGES" = some (some (.ref C_CHANGES)))
    (h_pg_Party : PySem.W.plainGet K C_Party Str.empty = true)
    (h_po_Party : PySem.W.plainOver K C_Party = true)
    (h_mk_Party : PySem.W.makesIn K C_Party = true)
    (h_f_Party__busy : PySem.W.findIn K (.ref C_Party) "_busy" = some none)
    (h_f_Party_hall : PySem.W.findIn K (.ref C_Party) "hall" = some none)
    (h_f_Party_most : PySem.W.findIn K (.ref C_Party) "most" = some none)
    (h_f_Party_fewest : PySem.W.findIn K (.ref C_Party) "fewest" = some none)
    (h_f_Party__halls : PySem.W.findIn K (.ref C_Party) "_halls" = some none)
    (h_f_Party__done : PySem.W.findIn K (.ref C_Party) "_done" = some none)
    (hk_CHANGES_come : PySem.W.nsIn K C_CHANGES "come" = some (some (.ref f17)))
    (hk_CHANGES_leave : PySem.W.nsIn K C_CHANGES "leave" = some (some (.ref f18)))
    (hk_CHANGES_put : PySem.W.nsIn K C_CHANGES "put" = some (some (.ref f19)))
    (hk_CHANGES_take : PySem.W.nsIn K C_CHANGES "take" = some (some (.ref f20)))
    {es_CHANGES : Array DictEntry} {nd_CHANGES : Nat} (kd_CHANGES : K.lookup C_CHANGES = some ⟨.type "dict", none, .dict es_CHANGES nd_CHANGES, #[]⟩)
    (kl_CHANGES : PySem.W.KeysLit w.params es_CHANGES.toList) (ks_CHANGES : (C_CHANGES == sysModules) = false)
    {nm_BadHall q_BadHall : Str} {N_BadHall : Addr} {bs_BadHall bm_BadHall : List Value} {sn_BadHall : List Str} {sub_BadHall : List Value} {ab_BadHall : Bool} {col_BadHall : Option Bool} {dd_BadHall : Option Addr} {m0_BadHall m1_BadHall m2_BadHall m3_BadHall m5_BadHall : Option Value}
    (xL_BadHall : K.lookup C_BadHall = some (excClassObj nm_BadHall q_BadHall C_BadHall N_BadHall bs_BadHall bm_BadHall true sn_BadHall sub_BadHall ab_BadHall col_BadHall dd_BadHall m0_BadHall m1_BadHall m2_BadHall m3_BadHall m5_BadHall "ValueError.__new__")) (xr_BadHall : PySem.HandSPX.refsVE bm_BadHall = true)
    {nm_BadFoot q_BadFoot : Str} {N_BadFoot : Addr} {bs_BadFoot bm_BadFoot : List Value} {sn_BadFoot : List Str} {sub_BadFoot : List Value} {ab_BadFoot : Bool} {col_BadFoot : Option Bool} {dd_BadFoot : Option Addr} {m0_BadFoot m1_BadFoot m2_BadFoot m3_BadFoot m5_BadFoot : Option Value}
    (xL_BadFoot : K.lookup C_BadFoot = some (excClassObj nm_BadFoot q_BadFoot C_BadFoot N_BadFoot bs_BadFoot bm_BadFoot true sn_BadFoot sub_BadFoot ab_BadFoot col_BadFoot dd_BadFoot m0_BadFoot m1_BadFoot m2_BadFoot m3_BadFoot m5_BadFoot "ValueError.__new__")) (xr_BadFoot : PySem.HandSPX.refsVE bm_BadFoot = true)
    {nm_NoGuest q_NoGuest : Str} {N_NoGuest : Addr} {bs_NoGuest : List Value} {sn_NoGuest : List Str} {sub_NoGuest : List Value} {ab_NoGuest : Bool} {col_NoGuest : Option Bool} {dd_NoGuest : Option Addr} {m0_NoGuest m1_NoGuest m2_NoGuest m3_NoGuest m5_NoGuest : Option Value}
    (xL_NoGuest : K.lookup C_NoGuest = some (excClassObj nm_NoGuest q_NoGuest C_NoGuest N_NoGuest bs_NoGuest LkE.leT true sn_NoGuest sub_NoGuest ab_NoGuest col_NoGuest dd_NoGuest m0_NoGuest m1_NoGuest m2_NoGuest m3_NoGuest m5_NoGuest "LookupError.__new__"))
    {nm_BadSize q_BadSize : Str} {N_BadSize : Addr} {bs_BadSize bm_BadSize : List Value} {sn_BadSize : List Str} {sub_BadSize : List Value} {ab_BadSize : Bool} {col_BadSize : Option Bool} {dd_BadSize : Option Addr} {m0_BadSize m1_BadSize m2_BadSize m3_BadSize m5_BadSize : Option Value}
    (xL_BadSize : K.lookup C_BadSize = some (excClassObj nm_BadSize q_BadSize C_BadSize N_BadSize bs_BadSize bm_BadSize true sn_BadSize sub_BadSize ab_BadSize col_BadSize dd_BadSize m0_BadSize m1_BadSize m2_BadSize m3_BadSize m5_BadSize "ValueError.__new__")) (xr_BadSize : PySem.HandSPX.refsVE bm_BadSize = true)
    {nm_NoPair q_NoPair : Str} {N_NoPair : Addr} {bs_NoPair : List Value} {sn_NoPair : List Str} {sub_NoPair : List Value} {ab_NoPair : Bool} {col_NoPair : Option Bool} {dd_NoPair : Option Addr} {m0_NoPair m1_NoPair m2_NoPair m3_NoPair m5_NoPair : Option Value}
    (xL_NoPair : K.lookup C_NoPair = some (excClassObj nm_NoPair q_NoPair C_NoPair N_NoPair bs_NoPair LkE.leT true sn_NoPair sub_NoPair ab_NoPair col_NoPair dd_NoPair m0_NoPair m1_NoPair m2_NoPair m3_NoPair m5_NoPair "LookupError.__new__"))
    {nm_NoVersion q_NoVersion : Str} {N_NoVersion : Addr} {bs_NoVersion : List Value} {sn_NoVersion : List Str} {sub_NoVersion : List Value} {ab_NoVersion : Bool} {col_NoVersion : Option Bool} {dd_NoVersion : Option Addr} {m0_NoVersion m1_NoVersion m2_NoVersion m3_NoVersion m5_NoVersion : Option Value}
    (xL_NoVersion : K.lookup C_NoVersion = some (excClassObj nm_NoVersion q_NoVersion C_NoVersion N_NoVersion bs_NoVersion LkE.leT true sn_NoVersion sub_NoVersion ab_NoVersion col_NoVersion dd_NoVersion m0_NoVersion m1_NoVersion m2_NoVersion m3_NoVersion m5_NoVersion "LookupError.__new__"))
    {nm_BadNumber q_BadNumber : Str} {N_BadNumber : Addr} {bs_BadNumber bm_BadNumber : List Value} {sn_BadNumber : List Str} {sub_BadNumber : List Value} {ab_BadNumber : Bool} {col_BadNumber : Option Bool} {dd_BadNumber : Option Addr} {m0_BadNumber m1_BadNumber m2_BadNumber m3_BadNumber m5_BadNumber : Option Value}
    (xL_BadNumber : K.lookup C_BadNumber = some (excClassObj nm_BadNumber q_BadNumber C_BadNumber N_BadNumber bs_BadNumber bm_BadNumber true sn_BadNumber sub_BadNumber ab_BadNumber col_BadNumber dd_BadNumber m0_BadNumber m1_BadNumber m2_BadNumber m3_BadNumber m5_BadNumber "ValueError.__new__")) (xr_BadNumber : PySem.HandSPX.refsVE bm_BadNumber = true)
    (e0_PartyError : PySem.W.excIn K C_PartyError [.type "ValueError", .type "Exception", .type "BaseException", .type "object"] "ValueError.__new__" = true)
    (e0_TooManyPairs : PySem.W.excIn K C_TooManyPairs [.type "ValueError", .type "Exception", .type "BaseException", .type "object"] "ValueError.__new__" = true)
    (e0_Busy : PySem.W.excIn K C_Busy [.type "ValueError", .type "Exception", .type "BaseException", .type "object"] "ValueError.__new__" = true)
    (e0_TooManyEdits : PySem.W.excIn K C_TooManyEdits [.type "ValueError", .type "Exception", .type "BaseException", .type "object"] "ValueError.__new__" = true)
    (e0_TooManyGuests : PySem.W.excIn K C_TooManyGuests [.type "ValueError", .type "Exception", .type "BaseException", .type "object"] "ValueError.__new__" = true)
    (e0_LastGuest : PySem.W.excIn K C_LastGuest [.type "ValueError", .type "Exception", .type "BaseException", .type "object"] "ValueError.__new__" = true)
    (e0_NothingToUndo : PySem.W.excIn K C_NothingToUndo [.type "ValueError", .type "Exception", .type "BaseException", .type "object"] "ValueError.__new__" = true)
    (e0_BadEdits : PySem.W.excIn K C_BadEdits [.type "ValueError", .type "Exception", .type "BaseException", .type "object"] "ValueError.__new__" = true)
    : ∃ fd : FuncData, (∀ (s : Shared) (v : Value), BindsTo s fd ⟨[v], []⟩ [("script", v)]) ∧ ∀ base : Heap, K.In base → base.Ns mainGlobals mg → FnG l.prog w K mg base 10 fa fd ["script"] (spLaw K) :=
  all_mk (C := ⟨C_PartyError, C_TooManyPairs, C_BadFoot, C_BadHall, C_Busy, C_TooManyEdits, C_TooManyGuests, C_LastGuest, C_BadSize, C_NothingToUndo, C_BadEdits, C_BadNumber, C_TooFewServed, C_BadText, C_NoPlace, C_NoGuest, C_NoPair, C_NoVersion, C_Party, C_CHANGES⟩) X G hfa a0 l0 c0 k0 a1 l1 c1 k1 a2 l2 c2 k2 a3 l3 c3 k3 a4 l4 c4 k4 a5 l5 c5 k5 a6 l6 c6 k6 a7 l7 c7 k7 a8 l8 c8 k8 a9 l9 c9 k9 a10 l10 c10 k10 a11 l11 c11 k11 a12 l12 c12 k12 a13 l13 c13 k13 a14 l14 c14 k14 a15 l15 c15 k15 a16 l16 c16 k16 a17 l17 c17 k17 a18 l18 c18 k18 a19 l19 c19 k19 a20 l20 c20 k20 a21 l21 c21 k21 a22 l22 c22 k22 a23 l23 c23 k23 a24 l24 c24 k24 a25 l25 c25 k25 a26 l26 c26 k26 a27 l27 c27 k27 a28 l28 c28 k28 a29 l29 c29 k29 a30 l30 c30 k30 a31 l31 c31 k31 a32 l32 c32 k32 a33 l33 c33 k33 a34 l34 c34 k34 a35 l35 c35 k35 a36 l36 c36 k36 a37 fn37 l37 c37 k37 a38 fn38 l38 c38 k38 a39 fn39 l39 c39 k39 a40 fn40 l40 c40 k40 a41 fn41 l41 c41 k41 a42 fn42 l42 c42 k42 a43 fn43 l43 c43 k43 a44 fn44 l44 c44 k44 a45 fn45 l45 c45 k45 a46 fn46 l46 c46 k46 a47 fn47 l47 c47 k47 a48 fn48 l48 c48 k48 kd48 a49 fn49 l49 c49 k49 kd49 a50 fn50 l50 c50 k50 kd50 a51 fn51 l51 c51 k51 a52 tI52 l52 c52 k52 a53 tI53 l53 c53 k53 a54 tI54 l54 c54 k54 a55 tI55 l55 c55 k55 a56 tI56 l56 c56 k56 a57 tI57 l57 c57 k57 a58 tI58 l58 c58 k58 z_LookupError z_ValueError z_abs z_all z_bool z_enumerate z_int z_isinstance z_len z_list z_max z_min z_range z_repr z_set z_sorted z_str z_sum z_tuple z_zip y_LIMIT y_MAX_SIZE y_MAX_GUESTS y_MAX_PAIRS y_NO_PAIR y_SLASH y_NO_PAIRS y_WORDS h_cg h_ct h_a_PartyError h_ty_PartyError h_hd_PartyError h_a_TooManyPairs h_ty_TooManyPairs h_k_TooManyPairs h_a_BadFoot h_ty_BadFoot h_k_BadFoot h_sa_BadFoot h_a_BadHall h_ty_BadHall h_k_BadHall h_sa_BadHall h_a_Busy h_ty_Busy h_k_Busy h_a_TooManyEdits h_ty_TooManyEdits h_k_TooManyEdits h_a_TooManyGuests h_ty_TooManyGuests h_k_TooManyGuests h_a_LastGuest h_ty_LastGuest h_k_LastGuest h_a_BadSize h_ty_BadSize h_k_BadSize h_sa_BadSize h_a_NothingToUndo h_ty_NothingToUndo h_k_NothingToUndo h_a_BadEdits h_cl_BadEdits h_ty_BadEdits h_s_BadEdits_BadEdits h_a_BadNumber h_cl_BadNumber h_ty_BadNumber h_k_BadNumber h_hd_BadNumber h_ca_BadNumber h_mo_BadNumber h_sa_BadNumber h_s_BadNumber_PartyError h_s_BadNumber_BadEdits h_s_BadNumber_BadNumber h_s_BadNumber_TooFewServed h_s_BadNumber_NoVersion h_s_BadNumber_ValueError h_a_TooFewServed h_cl_TooFewServed h_ty_TooFewServed h_s_TooFewServed_TooFewServed h_a_BadText h_a_NoPlace h_cl_NoPlace h_ty_NoPlace h_s_NoPlace_NoPlace h_a_NoGuest h_cl_NoGuest h_ty_NoGuest h_k_NoGuest h_sa_NoGuest h_s_NoGuest_NoGuest h_a_NoPair h_cl_NoPair h_ty_NoPair h_k_NoPair h_sa_NoPair h_s_NoPair_NoPair h_a_NoVersion h_cl_NoVersion h_ty_NoVersion h_k_NoVersion h_hd_NoVersion h_ca_NoVersion h_mo_NoVersion h_sa_NoVersion h_s_NoVersion_NoPlace h_s_NoVersion_NoGuest h_s_NoVersion_NoPair h_s_NoVersion_NoVersion h_s_NoVersion_ValueError h_s_NoVersion_StopIteration h_a_Party h_k_Party h_hd_Party h_sa_Party h_sb_PartyError h_sb_TooManyPairs h_sb_BadFoot h_n_BadFoot h_sb_BadHall h_n_BadHall h_sb_Busy h_sb_TooManyEdits h_sb_TooManyGuests h_sb_LastGuest h_sb_BadSize h_n_BadSize h_sb_NothingToUndo h_ga_BadNumber h_gt_BadNumber h_sb_BadNumber h_n_BadNumber h_sb_NoGuest h_n_NoGuest h_sb_NoPair h_n_NoPair h_ga_NoVersion h_gt_NoVersion h_sb_NoVersion h_n_NoVersion h_cv_Party_MOST_EDITS h_a_CHANGES h_pg_Party h_po_Party h_mk_Party h_f_Party__busy h_f_Party_hall h_f_Party_most h_f_Party_fewest h_f_Party__halls h_f_Party__done hk_CHANGES_come hk_CHANGES_leave hk_CHANGES_put hk_CHANGES_take kd_CHANGES kl_CHANGES ks_CHANGES xL_BadHall xr_BadHall xL_BadFoot xr_BadFoot xL_NoGuest xL_BadSize xr_BadSize xL_NoPair xL_NoVersion xL_BadNumber xr_BadNumber e0_PartyError e0_TooManyPairs e0_Busy e0_TooManyEdits e0_TooManyGuests e0_LastGuest e0_NothingToUndo e0_BadEdits
end DL
open PySem PySem.W PyProof.Rows in
set_option maxRecDepth 100000 in
set_option maxHeartbeats 0 in
theorem PySem.Challenge.cw_shoeparty_k39_versions_and_numbers_holds : PySem.Challenge.rw_shoeparty_k39_versions_and_numbers.Holds :=
  DL.pre.2.2.2 DL.run1 DL.run2 (by
  delta DL.pre
  dsimp only
  k_fill
  refine DL.walk_g (l := PySem.Challenge.rw_shoeparty_k39_versions_and_numbers) (k := 10) (x := "script") rfl (by kernel_rfl) ⟨rfl, by decide, by decide⟩ (fun w h Y => PySem.W.kIn_of Y) ?F
  case F =>
    intro w mg fa h KX G hmg0
    have hmg : mg ("law" : PySem.Str) = some (.ref fa) := by
      have e : (DL.headD DL.headR.prog 78).name = ("law" : PySem.Str) := by kernel_rfl
      rw [← e]
      exact hmg0
    refine' DL.all_mk2 KX G hmg ?a0 ?l0 ?c0 ?k0 ?a1 ?l1 ?c1 ?k1 ?a2 ?l2 ?c2 ?k2 ?a3 ?l3 ?c3 ?k3 ?a4 ?l4 ?c4 ?k4 ?a5 ?l5 ?c5 ?k5 ?a6 ?l6 ?c6 ?k6 ?a7 ?l7 ?c7 ?k7 ?a8 ?l8 ?c8 ?k8 ?a9 ?l9 ?c9 ?k9 ?a10 ?l10 ?c10 ?k10 ?a11 ?l11 ?c11 ?k11 ?a12 ?l12 ?c12 ?k12 ?a13 ?l13 ?c13 ?k13 ?a14 ?l14 ?c14 ?k14 ?a15 ?l15 ?c15 ?k15 ?a16 ?l16 ?c16 ?k16 ?a17 ?l17 ?c17 ?k17 ?a18 ?l18 ?c18 ?k18 ?a19 ?l19 ?c19 ?k19 ?a20 ?l20 ?c20 ?k20 ?a21 ?l21 ?c21 ?k21 ?a22 ?l22 ?c22 ?k22 ?a23 ?l23 ?c23 ?k23 ?a24 ?l24 ?c24 ?k24 ?a25 ?l25 ?c25 ?k25 ?a26 ?l26 ?c26 ?k26 ?a27 ?l27 ?c27 ?k27 ?a28 ?l28 ?c28 ?k28 ?a29 ?l29 ?c29 ?k29 ?a30 ?l30 ?c30 ?k30 ?a31 ?l31 ?c31 ?k31 ?a32 ?l32 ?c32 ?k32 ?a33 ?l33 ?c33 ?k33 ?a34 ?l34 ?c34 ?k34 ?a35 ?l35 ?c35 ?k35 ?a36 ?l36 ?c36 ?k36 ?a37 ?fn37 ?l37 ?c37 ?k37 ?a38 ?fn38 ?l38 ?c38 ?k38 ?a39 ?fn39 ?l39 ?c39 ?k39 ?a40 ?fn40 ?l40 ?c40 ?k40 ?a41 ?fn41 ?l41 ?c41 ?k41 ?a42 ?fn42 ?l42 ?c42 ?k42 ?a43 ?fn43 ?l43 ?c43 ?k43 ?a44 ?fn44 ?l44 ?c44 ?k44 ?a45 ?fn45 ?l45 ?c45 ?k45 ?a46 ?fn46 ?l46 ?c46 ?k46 ?a47 ?fn47 ?l47 ?c47 ?k47 ?a48 ?fn48 ?l48 ?c48 ?k48 ?kd48 ?a49 ?fn49 ?l49 ?c49 ?k49 ?kd49 ?a50 ?fn50 ?l50 ?c50 ?k50 ?kd50 ?a51 ?fn51 ?l51 ?c51 ?k51 ?a52 ?tI52 ?l52 ?c52 ?k52 ?a53 ?tI53 ?l53 ?c53 ?k53 ?a54 ?tI54 ?l54 ?c54 ?k54 ?a55 ?tI55 ?l55 ?c55 ?k55 ?a56 ?tI56 ?l56 ?c56 ?k56 ?a57 ?tI57 ?l57 ?c57 ?k57 ?a58 ?tI58 ?l58 ?c58 ?k58 ?z_LookupError ?z_ValueError ?z_abs ?z_all ?z_bool ?z_enumerate ?z_int ?z_isinstance ?z_len ?z_list ?z_max ?z_min ?z_range ?z_repr ?z_set ?z_sorted ?z_str ?z_sum ?z_tuple ?z_zip ?y_LIMIT ?y_MAX_SIZE ?y_MAX_GUESTS ?y_MAX_PAIRS ?y_NO_PAIR ?y_SLASH ?y_NO_PAIRS ?y_WORDS ?h_cg ?h_ct ?h_a_PartyError ?h_ty_PartyError ?h_hd_PartyError ?h_a_TooManyPairs ?h_ty_TooManyPairs ?h_k_TooManyPairs ?h_a_BadFoot ?h_ty_BadFoot ?h_k_BadFoot ?h_sa_BadFoot ?h_a_BadHall ?h_ty_BadHall ?h_k_BadHall ?h_sa_BadHall ?h_a_Busy ?h_ty_Busy ?h_k_Busy ?h_a_TooManyEdits ?h_ty_TooManyEdits ?h_k_TooManyEdits ?h_a_TooManyGuests ?h_ty_TooManyGuests ?h_k_TooManyGuests ?h_a_LastGuest ?h_ty_LastGuest ?h_k_LastGuest ?h_a_BadSize ?h_ty_BadSize ?h_k_BadSize ?h_sa_BadSize ?h_a_NothingToUndo ?h_ty_NothingToUndo ?h_k_NothingToUndo ?h_a_BadEdits ?h_cl_BadEdits ?h_ty_BadEdits ?h_s_BadEdits_BadEdits ?h_a_BadNumber ?h_cl_BadNumber ?h_ty_BadNumber ?h_k_BadNumber ?h_hd_BadNumber ?h_ca_BadNumber ?h_mo_BadNumber ?h_sa_BadNumber ?h_s_BadNumber_PartyError ?h_s_BadNumber_BadEdits ?h_s_BadNumber_BadNumber ?h_s_BadNumber_TooFewServed ?h_s_BadNumber_NoVersion ?h_s_BadNumber_ValueError ?h_a_TooFewServed ?h_cl_TooFewServed ?h_ty_TooFewServed ?h_s_TooFewServed_TooFewServed ?h_a_BadText ?h_a_NoPlace ?h_cl_NoPlace ?h_ty_NoPlace ?h_s_NoPlace_NoPlace ?h_a_NoGuest ?h_cl_NoGuest ?h_ty_NoGuest ?h_k_NoGuest ?h_sa_NoGuest ?h_s_NoGuest_NoGuest ?h_a_NoPair ?h_cl_NoPair ?h_ty_NoPair ?h_k_NoPair ?h_sa_NoPair ?h_s_NoPair_NoPair ?h_a_NoVersion ?h_cl_NoVersion ?h_ty_NoVersion ?h_k_NoVersion ?h_hd_NoVersion ?h_ca_NoVersion ?h_mo_NoVersion ?h_sa_NoVersion ?h_s_NoVersion_NoPlace ?h_s_NoVersion_NoGuest ?h_s_NoVersion_NoPair ?h_s_NoVersion_NoVersion ?h_s_NoVersion_ValueError ?h_s_NoVersion_StopIteration ?h_a_Party ?h_k_Party ?h_hd_Party ?h_sa_Party ?h_sb_PartyError ?h_sb_TooManyPairs ?h_sb_BadFoot ?h_n_BadFoot ?h_sb_BadHall ?h_n_BadHall ?h_sb_Busy ?h_sb_TooManyEdits ?h_sb_TooManyGuests ?h_sb_LastGuest ?h_sb_BadSize ?h_n_BadSize ?h_sb_NothingToUndo ?h_ga_BadNumber ?h_gt_BadNumber ?h_sb_BadNumber ?h_n_BadNumber ?h_sb_NoGuest ?h_n_NoGuest ?h_sb_NoPair ?h_n_NoPair ?h_ga_NoVersion ?h_gt_NoVersion ?h_sb_NoVersion ?h_n_NoVersion ?h_cv_Party_MOST_EDITS ?h_a_CHANGES ?h_pg_Party ?h_po_Party ?h_mk_Party ?h_f_Party__busy ?h_f_Party_hall ?h_f_Party_most ?h_f_Party_fewest ?h_f_Party__halls ?h_f_Party__done ?hk_CHANGES_come ?hk_CHANGES_leave ?hk_CHANGES_put ?hk_CHANGES_take ?kd_CHANGES ?kl_CHANGES ?ks_CHANGES ?xL_BadHall ?xr_BadHall ?xL_BadFoot ?xr_BadFoot ?xL_NoGuest ?xL_BadSize ?xr_BadSize ?xL_NoPair ?xL_NoVersion ?xL_BadNumber ?xr_BadNumber ?e0_PartyError ?e0_TooManyPairs ?e0_Busy ?e0_TooManyEdits ?e0_TooManyGuests ?e0_LastGuest ?e0_NothingToUndo ?e0_BadEdits
    (case h_a_PartyError => k_is)
    (case h_a_TooManyPairs => k_is)
    (case h_a_BadFoot => k_is)
    (case h_a_BadHall => k_is)
    (case h_a_Busy => k_is)
    (case h_a_TooManyEdits => k_is)
    (case h_a_TooManyGuests => k_is)
    (case h_a_LastGuest => k_is)
    (case h_a_BadSize => k_is)
    (case h_a_NothingToUndo => k_is)
    (case h_a_BadEdits => k_is)
    (case h_a_BadNumber => k_is)
    (case h_a_TooFewServed => k_is)
    (case h_a_BadText => k_is)
    (case h_a_NoPlace => k_is)
    (case h_a_NoGuest => k_is)
    (case h_a_NoPair => k_is)
    (case h_a_NoVersion => k_is)
    (case h_a_Party => k_is)
    (case h_a_CHANGES => k_is)
    (case a0 => k_is)
    (case l0 => k_is)
    (case c0 => k_is)
    (case k0 => k_is)
    (case a1 => k_is)
    (case l1 => k_is)
    (case c1 => k_is)
    (case k1 => k_is)
    (case a2 => k_is)
    (case l2 => k_is)
    (case c2 => k_is)
    (case k2 => k_is)
    (case a3 => k_is)
    (case l3 => k_is)
    (case c3 => k_is)
    (case k3 => k_is)
    (case a4 => k_is)
    (case l4 => k_is)
    (case c4 => k_is)
    (case k4 => k_is)
    (case a5 => k_is)
    (case l5 => k_is)
    (case c5 => k_is)
    (case k5 => k_is)
    (case a6 => k_is)
    (case l6 => k_is)
    (case c6 => k_is)
    (case k6 => k_is)
    (case a7 => k_is)
    (case l7 => k_is)
    (case c7 => k_is)
    (case k7 => k_is)
    (case a8 => k_is)
    (case l8 => k_is)
    (case c8 => k_is)
    (case k8 => k_is)
    (case a9 => k_is)
    (case l9 => k_is)
    (case c9 => k_is)
    (case k9 => k_is)
    (case a10 => k_is)
    (case l10 => k_is)
    (case c10 => k_is)
    (case k10 => k_is)
    (case a11 => k_is)
    (case l11 => k_is)
    (case c11 => k_is)
    (case k11 => k_is)
    (case a12 => k_is)
    (case l12 => k_is)
    (case c12 => k_is)
    (case k12 => k_is)
    (case a13 => k_is)
    (case l13 => k_is)
    (case c13 => k_is)
    (case k13 => k_is)
    (case a14 => k_is)
    (case l14 => k_is)
    (case c14 => k_is)
    (case k14 => k_is)
    (case a15 => k_is)
    (case l15 => k_is)
    (case c15 => k_is)
    (case k15 => k_is)
    (case a16 => k_is)
    (case l16 => k_is)
    (case c16 => k_is)
    (case k16 => k_is)
    (case a17 => k_is)
    (case l17 => k_is)
    (case c17 => k_is)
    (case k17 => k_is)
    (case a18 => k_is)
    (case l18 => k_is)
    (case c18 => k_is)
    (case k18 => k_is)
    (case a19 => k_is)
    (case l19 => k_is)
    (case c19 => k_is)
    (case k19 => k_is)
    (case a20 => k_is)
    (case l20 => k_is)
    (case c20 => k_is)
    (case k20 => k_is)
    (case a21 => k_is)
    (case l21 => k_is)
    (case c21 => k_is)
    (case k21 => k_is)
    (case a22 => k_is)
    (case l22 => k_is)
    (case c22 => k_is)
    (case k22 => k_is)
    (case a23 => k_is)
    (case l23 => k_is)
    (case c23 => k_is)
    (case k23 => k_is)
    (case a24 => k_is)
    (case l24 => k_is)
    (case c24 => k_is)
    (case k24 => k_is)
    (case a25 => k_is)
    (case l25 => k_is)
    (case c25 => k_is)
    (case k25 => k_is)
    (case a26 => k_is)
    (case l26 => k_is)
    (case c26 => k_is)
    (case k26 => k_is)
    (case a27 => k_is)
    (case l27 => k_is)
    (case c27 => k_is)
    (case k27 => k_is)
    (case a28 => k_is)
    (case l28 => k_is)
    (case c28 => k_is)
    (case k28 => k_is)
    (case a29 => k_is)
    (case l29 => k_is)
    (case c29 => k_is)
    (case k29 => k_is)
    (case a30 => k_is)
    (case l30 => k_is)
    (case c30 => k_is)
    (case k30 => k_is)
    (case a31 => k_is)
    (case l31 => k_is)
    (case c31 => k_is)
    (case k31 => k_is)
    (case a32 => k_is)
    (case l32 => k_is)
    (case c32 => k_is)
    (case k32 => k_is)
    (case a33 => k_is)
    (case l33 => k_is)
    (case c33 => k_is)
    (case k33 => k_is)
    (case a34 => k_is)
    (case l34 => k_is)
    (case c34 => k_is)
    (case k34 => k_is)
    (case a35 => k_is)
    (case l35 => k_is)
    (case c35 => k_is)
    (case k35 => k_is)
    (case a36 => k_is)
    (case l36 => k_is)
    (case c36 => k_is)
    (case k36 => k_is)
    (case a37 => k_is)
    (case fn37 => k_is)
    (case l37 => k_is)
    (case c37 => k_is)
    (case k37 => k_is)
    (case a38 => k_is)
    (case fn38 => k_is)
    (case l38 => k_is)
    (case c38 => k_is)
    (case k38 => k_is)
    (case a39 => k_is)
    (case fn39 => k_is)
    (case l39 => k_is)
    (case c39 => k_is)
    (case k39 => k_is)
    (case a40 => k_is)
    (case fn40 => k_is)
    (case l40 => k_is)
    (case c40 => k_is)
    (case k40 => k_is)
    (case a41 => k_is)
    (case fn41 => k_is)
    (case l41 => k_is)
    (case c41 => k_is)
    (case k41 => k_is)
    (case a42 => k_is)
    (case fn42 => k_is)
    (case l42 => k_is)
    (case c42 => k_is)
    (case k42 => k_is)
    (case a43 => k_is)
    (case fn43 => k_is)
    (case l43 => k_is)
    (case c43 => k_is)
    (case k43 => k_is)
    (case a44 => k_is)
    (case fn44 => k_is)
    (case l44 => k_is)
    (case c44 => k_is)
    (case k44 => k_is)
    (case a45 => k_is)
    (case fn45 => k_is)
    (case l45 => k_is)
    (case c45 => k_is)
    (case k45 => k_is)
    (case a46 => k_is)
    (case fn46 => k_is)
    (case l46 => k_is)
    (case c46 => k_is)
    (case k46 => k_is)
    (case a47 => k_is)
    (case fn47 => k_is)
    (case l47 => k_is)
    (case c47 => k_is)
    (case k47 => k_is)
    (case a48 => k_is)
    (case fn48 => k_is)
    (case l48 => k_is)
    (case c48 => k_is)
    (case k48 => k_is)
    (case kd48 => k_is)
    (case a49 => k_is)
    (case fn49 => k_is)
    (case l49 => k_is)
    (case c49 => k_is)
    (case k49 => k_is)
    (case kd49 => k_is)
    (case a50 => k_is)
    (case fn50 => k_is)
    (case l50 => k_is)
    (case c50 => k_is)
    (case k50 => k_is)
    (case kd50 => k_is)
    (case a51 => k_is)
    (case fn51 => k_is)
    (case l51 => k_is)
    (case c51 => k_is)
    (case k51 => k_is)
    (case a52 => k_is)
    (case tI52 => k_is)
    (case l52 => k_is)
    (case c52 => k_is)
    (case k52 => k_is)
    (case a53 => k_is)
    (case tI53 => k_is)
    (case l53 => k_is)
    (case c53 => k_is)
    (case k53 => k_is)
    (case a54 => k_is)
    (case tI54 => k_is)
    (case l54 => k_is)
    (case c54 => k_is)
    (case k54 => k_is)
    (case a55 => k_is)
    (case tI55 => k_is)
    (case l55 => k_is)
    (case c55 => k_is)
    (case k55 => k_is)
    (case a56 => k_is)
    (case tI56 => k_is)
    (case l56 => k_is)
    (case c56 => k_is)
    (case k56 => k_is)
    (case a57 => k_is)
    (case tI57 => k_is)
    (case l57 => k_is)
    (case c57 => k_is)
    (case k57 => k_is)
    (case a58 => k_is)
    (case tI58 => k_is)
    (case l58 => k_is)
    (case c58 => k_is)
    (case k58 => k_is)
    (case z_LookupError => k_is)
    (case z_ValueError => k_is)
    (case z_abs => k_is)
    (case z_all => k_is)
    (case z_bool => k_is)
    (case z_enumerate => k_is)
    (case z_int => k_is)
    (case z_isinstance => k_is)
    (case z_len => k_is)
    (case z_list => k_is)
    (case z_max => k_is)
    (case z_min => k_is)
    (case z_range => k_is)
    (case z_repr => k_is)
    (case z_set => k_is)
    (case z_sorted => k_is)
    (case z_str => k_is)
    (case z_sum => k_is)
    (case z_tuple => k_is)
    (case z_zip => k_is)
    (case y_LIMIT => k_is)
    (case y_MAX_SIZE => k_is)
    (case y_MAX_GUESTS => k_is)
    (case y_MAX_PAIRS => k_is)
    (case y_NO_PAIR => k_is)
    (case y_SLASH => k_is)
    (case y_NO_PAIRS => k_is)
    (case y_WORDS => k_is)
    (case h_cg => k_is)
    (case h_ct => k_is)
    (case h_ty_PartyError => k_is)
    (case h_hd_PartyError => k_is)
    (case h_ty_TooManyPairs => k_is)
    (case h_k_TooManyPairs => k_is)
    (case h_ty_BadFoot => k_is)
    (case h_k_BadFoot => k_is)
    (case h_sa_BadFoot => k_is)
    (case h_ty_BadHall => k_is)
    (case h_k_BadHall => k_is)
    (case h_sa_BadHall => k_is)
    (case h_ty_Busy => k_is)
    (case h_k_Busy => k_is)
    (case h_ty_TooManyEdits => k_is)
    (case h_k_TooManyEdits => k_is)
    (case h_ty_TooManyGuests => k_is)
    (case h_k_TooManyGuests => k_is)
    (case h_ty_LastGuest => k_is)
    (case h_k_LastGuest => k_is)
    (case h_ty_BadSize => k_is)
    (case h_k_BadSize => k_is)
    (case h_sa_BadSize => k_is)
    (case h_ty_NothingToUndo => k_is)
    (case h_k_NothingToUndo => k_is)
    (case h_cl_BadEdits => k_is)
    (case h_ty_BadEdits => k_is)
    (case h_s_BadEdits_BadEdits => k_is)
    (case h_cl_BadNumber => k_is)
    (case h_ty_BadNumber => k_is)
    (case h_k_BadNumber => k_is)
    (case h_hd_BadNumber => k_is)
    (case h_ca_BadNumber => k_is)
    (case h_mo_BadNumber => k_is)
    (case h_sa_BadNumber => k_is)
    (case h_s_BadNumber_PartyError => k_is)
    (case h_s_BadNumber_BadEdits => k_is)
    (case h_s_BadNumber_BadNumber => k_is)
    (case h_s_BadNumber_TooFewServed => k_is)
    (case h_s_BadNumber_NoVersion => k_is)
    (case h_s_BadNumber_ValueError => k_is)
    (case h_cl_TooFewServed => k_is)
    (case h_ty_TooFewServed => k_is)
    (case h_s_TooFewServed_TooFewServed => k_is)
    (case h_cl_NoPlace => k_is)
    (case h_ty_NoPlace => k_is)
    (case h_s_NoPlace_NoPlace => k_is)
    (case h_cl_NoGuest => k_is)
    (case h_ty_NoGuest => k_is)
    (case h_k_NoGuest => k_is)
    (case h_sa_NoGuest => k_is)
    (case h_s_NoGuest_NoGuest => k_is)
    (case h_cl_NoPair => k_is)
    (case h_ty_NoPair => k_is)
    (case h_k_NoPair => k_is)
    (case h_sa_NoPair => k_is)
    (case h_s_NoPair_NoPair => k_is)
    (case h_cl_NoVersion => k_is)
    (case h_ty_NoVersion => k_is)
    (case h_k_NoVersion => k_is)
    (case h_hd_NoVersion => k_is)
    (case h_ca_NoVersion => k_is)
    (case h_mo_NoVersion => k_is)
    (case h_sa_NoVersion => k_is)
    (case h_s_NoVersion_NoPlace => k_is)
    (case h_s_NoVersion_NoGuest => k_is)
    (case h_s_NoVersion_NoPair => k_is)
    (case h_s_NoVersion_NoVersion => k_is)
    (case h_s_NoVersion_ValueError => k_is)
    (case h_s_NoVersion_StopIteration => k_is)
    (case h_k_Party => k_is)
    (case h_hd_Party => k_is)
    (case h_sa_Party => k_is)
    (case h_sb_PartyError => k_is)
    (case h_sb_TooManyPairs => k_is)
    (case h_sb_BadFoot => k_is)
    (case h_n_BadFoot => k_is)
    (case h_sb_BadHall => k_is)
    (case h_n_BadHall => k_is)
    (case h_sb_Busy => k_is)
    (case h_sb_TooManyEdits => k_is)
    (case h_sb_TooManyGuests => k_is)
    (case h_sb_LastGuest => k_is)
    (case h_sb_BadSize => k_is)
    (case h_n_BadSize => k_is)
    (case h_sb_NothingToUndo => k_is)
    (case h_ga_BadNumber => k_is)
    (case h_gt_BadNumber => k_is)
    (case h_sb_BadNumber => k_is)
    (case h_n_BadNumber => k_is)
    (case h_sb_NoGuest => k_is)
    (case h_n_NoGuest => k_is)
    (case h_sb_NoPair => k_is)
    (case h_n_NoPair => k_is)
    (case h_ga_NoVersion => k_is)
    (case h_gt_NoVersion => k_is)
    (case h_sb_NoVersion => k_is)
    (case h_n_NoVersion => k_is)
    (case h_cv_Party_MOST_EDITS => k_is)
    (case h_pg_Party => k_is)
    (case h_po_Party => k_is)
    (case h_mk_Party => k_is)
    (case h_f_Party__busy => k_is)
    (case h_f_Party_hall => k_is)
    (case h_f_Party_most => k_is)
    (case h_f_Party_fewest => k_is)
    (case h_f_Party__halls => k_is)
    (case h_f_Party__done => k_is)
    (case hk_CHANGES_come => k_is)
    (case hk_CHANGES_leave => k_is)
    (case hk_CHANGES_put => k_is)
    (case hk_CHANGES_take => k_is)
    (case kd_CHANGES => k_is)
    (case xL_BadHall => k_is)
    (case xL_BadFoot => k_is)
    (case xL_NoGuest => k_is)
    (case xL_BadSize => k_is)
    (case xL_NoPair => k_is)
    (case xL_NoVersion => k_is)
    (case xL_BadNumber => k_is)
    (case xr_BadHall => decide +kernel)
    (case xr_BadFoot => decide +kernel)
    (case xr_BadSize => decide +kernel)
    (case xr_BadNumber => decide +kernel)
    (case kl_CHANGES => exact ⟨⟨_, _, rfl, rfl⟩, ⟨_, _, rfl, rfl⟩, ⟨_, _, rfl, rfl⟩, ⟨_, _, rfl, rfl⟩, trivial⟩)
    (case ks_CHANGES => decide)
    (case e0_PartyError => k_exc)
    (case e0_TooManyPairs => k_exc)
    (case e0_Busy => k_exc)
    (case e0_TooManyEdits => k_exc)
    (case e0_TooManyGuests => k_exc)
    (case e0_LastGuest => k_exc)
    (case e0_NothingToUndo => k_exc)
    (case e0_BadEdits => k_exc)
  )
#print axioms PySem.Challenge.cw_shoeparty_k39_versions_and_numbers_holds
