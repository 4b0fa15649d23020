import PyProof.Rows.All
import Wide.All
import OpenK.AllK
import Wide.FinOn
import KE.OsRunLaw
import HandS.ForMost
import HandS.TupAny
import HandS.TupMul
import HandS.IsInst
import HandS.SortInts
import HandS.Wide
import HandS.Style
import HandS.Flow
import HandS.Deep
import HandS.SetFor
import HandS.Conv
import HandS.SortRule
import HandS.RaiseMore
import HandS.Zip
import KE.GoesMore
import KE.GoesEnum
import HandS.Strs
import HandS.NoneIn
import HandS.List
import HandS.SortOrd
import HandS.Text
import HandS.FStr
import KE.KDictZip
import PyProof.TupleOfGen
import HandS.DictEq
import HandS.ForExc
import HandS.ExcInit
import HandS.ExcField
import HandS.ExcIs
import HandS.TryMany
import KE.KExcIs
import KE.KIsAll
import KE.KCallOwn
import HandS.SlotsOwn
import HandS.MakeKwOnly
import HandS.More
import HandS.CallLocal
import HandS.HeadHook3
import HandS.TryOnly
import KE.KExcPX
import KE.KIndexOf
import HandS.GenBody
import PyProof.GenComp
import HandS.GenYield
import HandS.GenList
import KE.LtData
import HandS.StrMore
import HandS.Codes
import HandS.Iter
import HandS.ClsMeth
import PySem.Challenge.RW_shoeparty_k45_whole_parties_read
set_option Elab.async false
set_option linter.all false
set_option maxRecDepth 100000
namespace DL
open PySem PySem.W PySem.Calls PyProof.Rows
abbrev headR : OpenRow := OpenLaw.row PySem.Challenge.rw_shoeparty_k45_whole_parties_read
def headQ : Program := view headR.prog (([0, 1, 2, 3, 4, 6, 7, 8, 9, 10, 11, 12, 13, 14, 15, 16, 17, 18, 19, 20, 21, 22, 23, 25, 26, 27, 28, 29, 30, 31] : List Nat) ++ ([33, 34, 35, 36, 37, 38, 40, 41, 42, 43, 45, 47, 48, 49, 50, 51, 52, 53, 55, 56, 57, 59, 60, 61, 62, 63, 64, 65, 66, 67] : List Nat) ++ ([68, 69, 70, 71, 72] : List Nat))
def headL : List PySem.Str := (["CHANGES", "Party", "PledgedParty"] : List PySem.Str)
def headD (p : Program) (i : Nat) : DefRec := match p.main.body[i]? with
  | some (.FunctionDef n a b _ _ _ sc _ _ pos) => ⟨n, a, b, sc, pos⟩
  | _ => ⟨"law", ⟨[], [], none, [], [], none, []⟩, [], ⟨.function, [], false, false, []⟩, default⟩
theorem by_row {F : World → OsState → Prop} (row : String) (hf : ∀ (w : World) (os : OsState), F (w.withFollow row false) os) (ht : ∀ (w : World) (os : OsState), F (w.withFollow row true) os) : ∀ (w : World) (os : OsState), F w os := fun w => byRow2 row (P := fun w => ∀ os, F w os) hf ht w
end DL
namespace DL
theorem map3 {S A B C : Type} {o : Option S} {f : S → A} {g : S → B} {h : S → C} {a : A} {b : B} {c : C} (h1 : o.map f = some a) (h2 : o.map g = some b) (h3 : o.map h = some c) : o.map (fun s => (f s, g s, h s)) = some (a, b, c) := by
  cases o with
  | none => cases h1
  | some s =>
    cases Option.some.inj h1
    cases Option.some.inj h2
    cases Option.some.inj h3
    rfl
theorem spl1 {S A B : Type} {o : Option S} {f : S → A} {g : S → B} {a : A} {b : B} (h : o.map (fun s => (f s, g s)) = some (a, b)) : o.map f = some a := by
  cases o with
  | none => cases h
  | some s => exact congrArg some (Prod.mk.inj (Option.some.inj h)).1
theorem spl2 {S A B : Type} {o : Option S} {f : S → A} {g : S → B} {a : A} {b : B} (h : o.map (fun s => (f s, g s)) = some (a, b)) : o.map g = some b := by
  cases o with
  | none => cases h
  | some s => exact congrArg some (Prod.mk.inj (Option.some.inj h)).2
theorem comb9 {S A1 A2 A3 A4 A5 A6 A7 A8 A9 : Type} {F : S → A1 × A2 × A3 × A4 × A5 × A6 × A7 × A8 × A9} {o : Option S} {a1 : A1} {a2 : A2} {a3 : A3} {a4 : A4} {a5 : A5} {a6 : A6} {a7 : A7} {a8 : A8} {a9 : A9}
    (h1 : o.map (fun s => (F s).1) = some a1) (h2 : o.map (fun s => (F s).2.1) = some a2) (h3 : o.map (fun s => (F s).2.2.1) = some a3) (h4 : o.map (fun s => (F s).2.2.2.1) = some a4) (h5 : o.map (fun s => (F s).2.2.2.2.1) = some a5) (h6 : o.map (fun s => (F s).2.2.2.2.2.1) = some a6) (h7 : o.map (fun s => (F s).2.2.2.2.2.2.1) = some a7) (h8 : o.map (fun s => (F s).2.2.2.2.2.2.2.1) = some a8) (h9 : o.map (fun s => (F s).2.2.2.2.2.2.2.2) = some a9) :
    o.map F = some (a1, a2, a3, a4, a5, a6, a7, a8, a9) := by
  cases o with
  | none => cases h1
  | some s =>
    cases Option.some.inj h1
    cases Option.some.inj h2
    cases Option.some.inj h3
    cases Option.some.inj h4
    cases Option.some.inj h5
    cases Option.some.inj h6
    cases Option.some.inj h7
    cases Option.some.inj h8
    cases Option.some.inj h9
    rfl
end DL
open PySem PySem.W PySem.Calls PyProof.Rows in
set_option maxRecDepth 100000 in
set_option maxHeartbeats 0 in
theorem DL.part_false_a : ∀ (w : World) (os : OsState), (HeadRun.endF (HeadRun.stepQ (HeadRun.denQ HeadRun.tabQ) DL.headR.prog (w.withFollow "special-get-raises" false)) 14328 DL.headR.prog (w.withFollow "special-get-raises" false) os).map (fun s => (HeadRun.looksF DL.headR.prog (boot_heap (w.withFollow "special-get-raises" false).params) s.abs, (HeadRun.seenQ DL.headQ DL.headL (importedModules DL.headR.prog.main.body) (fun s => xlAt DL.headQ [] s && recOk (RowW.records (OpenRow.toRowW DL.headR)) s) s.abs).1, (HeadRun.seenQ DL.headQ DL.headL (importedModules DL.headR.prog.main.body) (fun s => xlAt DL.headQ [] s && recOk (RowW.records (OpenRow.toRowW DL.headR)) s) s.abs).2.1)) = some (true, expectedOf DL.headQ, bltViewBooted) := by
  intro w os
  kernel_rfl
open PySem PySem.W PySem.Calls PyProof.Rows in
set_option maxRecDepth 100000 in
set_option maxHeartbeats 0 in
theorem DL.part_false_b : ∀ (w : World) (os : OsState), (HeadRun.endF (HeadRun.stepQ (HeadRun.denQ HeadRun.tabQ) DL.headR.prog (w.withFollow "special-get-raises" false)) 14328 DL.headR.prog (w.withFollow "special-get-raises" false) os).map (fun s => ((HeadRun.seenQ DL.headQ DL.headL (importedModules DL.headR.prog.main.body) (fun s => xlAt DL.headQ [] s && recOk (RowW.records (OpenRow.toRowW DL.headR)) s) s.abs).2.2.1, (HeadRun.seenQ DL.headQ DL.headL (importedModules DL.headR.prog.main.body) (fun s => xlAt DL.headQ [] s && recOk (RowW.records (OpenRow.toRowW DL.headR)) s) s.abs).2.2.2.1)) = some (true, true) := by
  intro w os
  kernel_rfl
open PySem PySem.W PySem.Calls PyProof.Rows in
set_option maxRecDepth 100000 in
set_option maxHeartbeats 0 in
theorem DL.part_false_c : ∀ (w : World) (os : OsState), (HeadRun.endF (HeadRun.stepQ (HeadRun.denQ HeadRun.tabQ) DL.headR.prog (w.withFollow "special-get-raises" false)) 14328 DL.headR.prog (w.withFollow "special-get-raises" false) os).map (fun s => ((HeadRun.seenQ DL.headQ DL.headL (importedModules DL.headR.prog.main.body) (fun s => xlAt DL.headQ [] s && recOk (RowW.records (OpenRow.toRowW DL.headR)) s) s.abs).2.2.2.2.1, (HeadRun.seenQ DL.headQ DL.headL (importedModules DL.headR.prog.main.body) (fun s => xlAt DL.headQ [] s && recOk (RowW.records (OpenRow.toRowW DL.headR)) s) s.abs).2.2.2.2.2.1, (HeadRun.seenQ DL.headQ DL.headL (importedModules DL.headR.prog.main.body) (fun s => xlAt DL.headQ [] s && recOk (RowW.records (OpenRow.toRowW DL.headR)) s) s.abs).2.2.2.2.2.2.1)) = some (pinGoodD (drecsOf DL.headQ), plainGoodE DL.headQ (looseW DL.headQ DL.headL), plainGoodD DL.headQ DL.headL) := by
  intro w os
  kernel_rfl
open PySem PySem.W PySem.Calls PyProof.Rows in
set_option maxRecDepth 100000 in
set_option maxHeartbeats 0 in
theorem DL.part_false_d : ∀ (w : World) (os : OsState), (HeadRun.endF (HeadRun.stepQ (HeadRun.denQ HeadRun.tabQ) DL.headR.prog (w.withFollow "special-get-raises" false)) 14328 DL.headR.prog (w.withFollow "special-get-raises" false) os).map (fun s => ((HeadRun.seenQ DL.headQ DL.headL (importedModules DL.headR.prog.main.body) (fun s => xlAt DL.headQ [] s && recOk (RowW.records (OpenRow.toRowW DL.headR)) s) s.abs).2.2.2.2.2.2.2.1, (HeadRun.seenQ DL.headQ DL.headL (importedModules DL.headR.prog.main.body) (fun s => xlAt DL.headQ [] s && recOk (RowW.records (OpenRow.toRowW DL.headR)) s) s.abs).2.2.2.2.2.2.2.2)) = some (wideGood DL.headQ, clsGoodW DL.headQ DL.headL) := by
  intro w os
  kernel_rfl
open PySem PySem.W PySem.Calls PyProof.Rows in
set_option maxRecDepth 100000 in
set_option maxHeartbeats 0 in
theorem DL.part_true_a : ∀ (w : World) (os : OsState), (HeadRun.endF (HeadRun.stepQ (HeadRun.denQ HeadRun.tabQ) DL.headR.prog (w.withFollow "special-get-raises" true)) 14328 DL.headR.prog (w.withFollow "special-get-raises" true) os).map (fun s => (HeadRun.looksF DL.headR.prog (boot_heap (w.withFollow "special-get-raises" true).params) s.abs, (HeadRun.seenQ DL.headQ DL.headL (importedModules DL.headR.prog.main.body) (fun s => xlAt DL.headQ [] s && recOk (RowW.records (OpenRow.toRowW DL.headR)) s) s.abs).1, (HeadRun.seenQ DL.headQ DL.headL (importedModules DL.headR.prog.main.body) (fun s => xlAt DL.headQ [] s && recOk (RowW.records (OpenRow.toRowW DL.headR)) s) s.abs).2.1)) = some (true, expectedOf DL.headQ, bltViewBooted) := by
  intro w os
  kernel_rfl
open PySem PySem.W PySem.Calls PyProof.Rows in
set_option maxRecDepth 100000 in
set_option maxHeartbeats 0 in
theorem DL.part_true_b : ∀ (w : World) (os : OsState), (HeadRun.endF (HeadRun.stepQ (HeadRun.denQ HeadRun.tabQ) DL.headR.prog (w.withFollow "special-get-raises" true)) 14328 DL.headR.prog (w.withFollow "special-get-raises" true) os).map (fun s => ((HeadRun.seenQ DL.headQ DL.headL (importedModules DL.headR.prog.main.body) (fun s => xlAt DL.headQ [] s && recOk (RowW.records (OpenRow.toRowW DL.headR)) s) s.abs).2.2.1, (HeadRun.seenQ DL.headQ DL.headL (importedModules DL.headR.prog.main.body) (fun s => xlAt DL.headQ [] s && recOk (RowW.records (OpenRow.toRowW DL.headR)) s) s.abs).2.2.2.1)) = some (true, true) := by
  intro w os
  kernel_rfl
open PySem PySem.W PySem.Calls PyProof.Rows in
set_option maxRecDepth 100000 in
set_option maxHeartbeats 0 in
theorem DL.part_true_c : ∀ (w : World) (os : OsState), (HeadRun.endF (HeadRun.stepQ (HeadRun.denQ HeadRun.tabQ) DL.headR.prog (w.withFollow "special-get-raises" true)) 14328 DL.headR.prog (w.withFollow "special-get-raises" true) os).map (fun s => ((HeadRun.seenQ DL.headQ DL.headL (importedModules DL.headR.prog.main.body) (fun s => xlAt DL.headQ [] s && recOk (RowW.records (OpenRow.toRowW DL.headR)) s) s.abs).2.2.2.2.1, (HeadRun.seenQ DL.headQ DL.headL (importedModules DL.headR.prog.main.body) (fun s => xlAt DL.headQ [] s && recOk (RowW.records (OpenRow.toRowW DL.headR)) s) s.abs).2.2.2.2.2.1, (HeadRun.seenQ DL.headQ DL.headL (importedModules DL.headR.prog.main.body) (fun s => xlAt DL.headQ [] s && recOk (RowW.records (OpenRow.toRowW DL.headR)) s) s.abs).2.2.2.2.2.2.1)) = some (pinGoodD (drecsOf DL.headQ), plainGoodE DL.headQ (looseW DL.headQ DL.headL), plainGoodD DL.headQ DL.headL) := by
  intro w os
  kernel_rfl
open PySem PySem.W PySem.Calls PyProof.Rows in
set_option maxRecDepth 100000 in
set_option maxHeartbeats 0 in
theorem DL.part_true_d : ∀ (w : World) (os : OsState), (HeadRun.endF (HeadRun.stepQ (HeadRun.denQ HeadRun.tabQ) DL.headR.prog (w.withFollow "special-get-raises" true)) 14328 DL.headR.prog (w.withFollow "special-get-raises" true) os).map (fun s => ((HeadRun.seenQ DL.headQ DL.headL (importedModules DL.headR.prog.main.body) (fun s => xlAt DL.headQ [] s && recOk (RowW.records (OpenRow.toRowW DL.headR)) s) s.abs).2.2.2.2.2.2.2.1, (HeadRun.seenQ DL.headQ DL.headL (importedModules DL.headR.prog.main.body) (fun s => xlAt DL.headQ [] s && recOk (RowW.records (OpenRow.toRowW DL.headR)) s) s.abs).2.2.2.2.2.2.2.2)) = some (wideGood DL.headQ, clsGoodW DL.headQ DL.headL) := by
  intro w os
  kernel_rfl
open PySem PySem.W PySem.Calls PyProof.Rows in
set_option hygiene false in
local macro_rules | `(tactic| o_head $H:term) => `(tactic| (refine holds_open (r := DL.headR) (q := DL.headQ) (loose := DL.headL) (Xt := fun s => xlAt DL.headQ [] s && recOk (RowW.records (OpenRow.toRowW DL.headR)) s) (XP := XL DL.headQ []) (Yf := Hook.obs $H) (Ya := Hook.val $H) (YP := Hook.says $H) (d := DL.headD DL.headR.prog 72) (kwd := []) (N := 15028) ?hl (Hook.of $H) (Hook.keeps $H) (fun s e => xl_of s (Bool.and_eq_true_iff.mp e).1) XL.keeps (by kernel_rfl) (by kernel_rfl) (by kernel_rfl) (fun s e => recFacts_of (Bool.and_eq_true_iff.mp e).2) (by rfl) (by first | assumption | decide +kernel) (by decide +kernel) ⟨rfl, rfl, rfl, rfl, rfl, by decide +kernel⟩ ?hw ?hc; (case hl => (refine HeadRun.left_oneK (M := 14328) (by kernel_rfl) (by rfl) (fun s => by kernel_rfl) (by rfl) ?_; refine DL.by_row "special-get-raises" ?_ ?_; (exact h1); (exact h2)))))
open PySem PySem.W PySem.Calls PyProof.Rows in
set_option maxRecDepth 100000 in
set_option maxHeartbeats 0 in
def DL.pre : (P : Prop) ×' (Q : Prop) ×' (R : Prop) ×' (P → Q → R → PySem.Challenge.rw_shoeparty_k45_whole_parties_read.Holds) := ⟨_, _, _, fun h1 h2 h3 => by
  w_on; o_law; k_head; (case hw => w_witness2)
  exact h3
  ⟩
open PySem PySem.W PySem.Calls PyProof.Rows in
set_option maxRecDepth 100000 in
set_option maxHeartbeats 0 in
theorem DL.run1 : DL.pre.1 := by
  intro w os
  refine DL.map3 (DL.spl1 (DL.part_false_a w os)) (DL.comb9 (DL.spl1 (DL.spl2 (DL.part_false_a w os))) (DL.spl2 (DL.spl2 (DL.part_false_a w os))) (DL.spl1 (DL.part_false_b w os)) (DL.spl2 (DL.part_false_b w os)) (DL.spl1 (DL.part_false_c w os)) (DL.spl1 (DL.spl2 (DL.part_false_c w os))) (DL.spl2 (DL.spl2 (DL.part_false_c w os))) (DL.spl1 (DL.part_false_d w os)) (DL.spl2 (DL.part_false_d w os))) ?_
  kernel_rfl
open PySem PySem.W PySem.Calls PyProof.Rows in
set_option maxRecDepth 100000 in
set_option maxHeartbeats 0 in
theorem DL.run2 : DL.pre.2.1 := by
  intro w os
  refine DL.map3 (DL.spl1 (DL.part_true_a w os)) (DL.comb9 (DL.spl1 (DL.spl2 (DL.part_true_a w os))) (DL.spl2 (DL.spl2 (DL.part_true_a w os))) (DL.spl1 (DL.part_true_b w os)) (DL.spl2 (DL.part_true_b w os)) (DL.spl1 (DL.part_true_c w os)) (DL.spl1 (DL.spl2 (DL.part_true_c w os))) (DL.spl2 (DL.spl2 (DL.part_true_c w os))) (DL.spl1 (DL.part_true_d w os)) (DL.spl2 (DL.part_true_d w os))) ?_
  kernel_rfl
namespace DL
open PySem PySem.Spec PyProof.Rows L2
def keyD : Key → PyData
  | .inl i => .int i
  | .inr s => .str s
/-- a dict of ints under plain keys -/
def DctR (kvs : List (PyData × PyData)) (ks : List (Key × V)) : Prop :=
  ∃ ps : List (Key × Int), ks = ps.map (fun p => (p.1, V.int p.2)) ∧ kvs = ps.map (fun p => (keyD p.1, PyData.int p.2))
/-- a thing with a life of its own, named by its address -/
def refD (a : Addr) : PyData := .dict [(.none, .int (((2 : Nat) ^ 2000 + a : Nat) : Int))]
/-- a tuple of ints whose dict is known to be none -/
def clnD (ns : List Int) : PyData := .dict [(.none, .tuple (.int (((2 : Nat) ^ 2000 : Nat) : Int) :: ns.map .int))]
theorem rdS {F H : Hp} (e : Same F H) {a : Addr} {u : HO} (h : Rd F a u) : Rd H a u := h.imp (e _ _) fun ⟨o, q⟩ => ⟨o, e _ _ q⟩
theorem tupOk {X : Cx} {pins : List (Addr × Obj)} {σ : L2.St} {H : Hp} {s : Shared} (I : Inv X pins σ H s) {a : Addr} {xs : List V} (h : Rd H a (.tup xs)) : xs.length ≤ sizeLine ∧ ∃ its, Vals xs its ∧ IsTup s.heap a its.toArray := by
  rcases h with h | ⟨o, h⟩
  · exact I.hok a _ h
  · exact (I.hok a _ h).2
theorem sqtR {K : PySem.W.Frag} {H : Hp} {a : Addr} {xs : List V} (h : Rd H a (.tup xs)) : SqT K H a xs := .inl h
mutual
def Rp (K : PySem.W.Frag) (F : Hp) : PyData → V → Prop
  | .none, v => v = .non
  | .bool b, v => v = .bl b
  | .int i, v => v = .int i
  | .str s, v => v = .str s
  | .list ds, v => ∃ a xs, v = .ref a ∧ F a = some (.lst xs) ∧ Rps K F ds xs
  | .tuple ds, v => ∃ a xs, v = .ref a ∧ Rd F a (.tup xs) ∧ Rps K F ds xs
  | .dict kvs, v => (∃ a ks, v = .ref a ∧ F a = some (.dK ks) ∧ DctR kvs ks) ∨ (∃ a : Addr, PyData.dict kvs = refD a ∧ v = .ref a) ∨ ∃ (a : Addr) (ns : List Int) (o : Obj), PyData.dict kvs = clnD ns ∧ v = .ref a ∧ F a = some (.frz o (.tup (ns.map V.int))) ∧ o.cls = .type "tuple" ∧ o.dict = none
def Rps (K : PySem.W.Frag) (F : Hp) : List PyData → List V → Prop
  | [], vs => vs = []
  | d :: ds, vs => ∃ v r, vs = v :: r ∧ Rp K F d v ∧ Rps K F ds r
end
section
variable {K : PySem.W.Frag} {F F' H H' : Hp}
mutual
theorem Rp.mono (e : Same F F') : ∀ (d : PyData) (v : V), Rp K F d v → Rp K F' d v
  | .none, _, h => by simpa only [Rp] using h
  | .bool _, _, h => by simpa only [Rp] using h
  | .int _, _, h => by simpa only [Rp] using h
  | .str _, _, h => by simpa only [Rp] using h
  | .list ds, _, h => by
    simp only [Rp] at h ⊢
    obtain ⟨a, xs, rfl, h1, h2⟩ := h
    exact ⟨a, xs, rfl, e _ _ h1, Rps.mono e ds xs h2⟩
  | .tuple ds, _, h => by
    simp only [Rp] at h ⊢
    obtain ⟨a, xs, rfl, h1, h2⟩ := h
    exact ⟨a, xs, rfl, rdS e h1, Rps.mono e ds xs h2⟩
  | .dict kvs, _, h => by
    simp only [Rp] at h ⊢
    rcases h with ⟨a, ks, rfl, h1, h2⟩ | h | ⟨a, ns, o, e1, rfl, h1, h2⟩
    · exact .inl ⟨a, ks, rfl, e _ _ h1, h2⟩
    · exact .inr (.inl h)
    · exact .inr (.inr ⟨a, ns, o, e1, rfl, e _ _ h1, h2⟩)
theorem Rps.mono (e : Same F F') : ∀ (ds : List PyData) (vs : List V), Rps K F ds vs → Rps K F' ds vs
  | [], _, h => by simpa only [Rps] using h
  | d :: ds, _, h => by
    simp only [Rps] at h ⊢
    obtain ⟨v, r, rfl, h1, h2⟩ := h
    exact ⟨v, r, rfl, Rp.mono e d v h1, Rps.mono e ds r h2⟩
end
theorem rp_ref {a : Addr} : Rp K F (refD a) (.ref a) := by
  have : Rp K F (.dict [(.none, .int (((2 : Nat) ^ 2000 + a : Nat) : Int))]) (.ref a) := by
    simp only [Rp]
    exact .inr (.inl ⟨a, rfl, rfl⟩)
  exact this
theorem refD_inj {a b : Addr} (h : refD a = refD b) : a = b := by
  unfold refD at h
  injection h with h
  injection h with h
  injection h with _ h
  injection h with h
  exact Nat.add_left_cancel (Int.ofNat.inj h)
theorem keyD_ne {k : Key} : keyD k ≠ .none := by cases k <;> nofun
theorem ref_no {kvs : List (PyData × PyData)} {ks : List (Key × V)} {a : Addr} (h : DctR kvs ks) (e : PyData.dict kvs = refD a) : False := by
  obtain ⟨ps, _, e2⟩ := h
  unfold refD at e
  injection e with e
  rw [e2] at e
  cases ps with
  | nil => cases e
  | cons q ps =>
    rw [List.map_cons] at e
    injection e with e _
    injection e with e _
    exact absurd e keyD_ne
theorem Rp.ref {a : Addr} {v : V} (h : Rp K F (refD a) v) : v = .ref a := by
  have h : Rp K F (.dict [(.none, .int (((2 : Nat) ^ 2000 + a : Nat) : Int))]) v := h
  simp only [Rp] at h
  rcases h with ⟨_, _, _, _, q⟩ | ⟨b, e, rfl⟩ | ⟨_, _, _, e, _⟩
  · exact (ref_no (a := a) q rfl).elim
  · rw [refD_inj (show refD a = refD b from e)]
  · unfold clnD at e
    injection e with e
    injection e with e
    injection e with _ e
    cases e
def isRefD : PyData → Bool
  | .dict [(.none, _)] => true
  | _ => false
theorem rps_nil : Rps K F [] [] := by simp [Rps]
theorem rps_cons {d : PyData} {ds : List PyData} {v : V} {vs : List V} (h1 : Rp K F d v) (h2 : Rps K F ds vs) : Rps K F (d :: ds) (v :: vs) := by
  simp only [Rps]; exact ⟨v, vs, rfl, h1, h2⟩
theorem Rps.length : ∀ {ds : List PyData} {vs : List V}, Rps K F ds vs → ds.length = vs.length
  | [], _, h => by simp only [Rps] at h; subst h; rfl
  | d :: ds, _, h => by
    simp only [Rps] at h
    obtain ⟨v, r, rfl, _, h2⟩ := h
    simp [Rps.length h2]
theorem Rps.get : ∀ {ds : List PyData} {vs : List V} {i : Nat} {d : PyData}, Rps K F ds vs → ds[i]? = some d → ∃ v, vs[i]? = some v ∧ Rp K F d v
  | [], _, i, d, _, e => by simp at e
  | d :: ds, _, 0, d', h, e => by
    simp only [Rps] at h
    obtain ⟨v, r, rfl, h1, _⟩ := h
    simp at e; subst e
    exact ⟨v, rfl, h1⟩
  | d :: ds, _, i + 1, d', h, e => by
    simp only [Rps] at h
    obtain ⟨v, r, rfl, _, h2⟩ := h
    obtain ⟨w, e1, e2⟩ := Rps.get (i := i) h2 (by simpa using e)
    exact ⟨w, by simpa using e1, e2⟩
theorem Rps.append : ∀ {ds es : List PyData} {vs us : List V}, Rps K F ds vs → Rps K F es us → Rps K F (ds ++ es) (vs ++ us)
  | [], _, _, _, h, h' => by simp only [Rps] at h; subst h; exact h'
  | d :: ds, es, _, us, h, h' => by
    simp only [Rps] at h
    obtain ⟨v, r, rfl, h1, h2⟩ := h
    exact rps_cons h1 (Rps.append h2 h')
theorem Rps.take : ∀ (n : Nat) {ds : List PyData} {vs : List V}, Rps K F ds vs → Rps K F (ds.take n) (vs.take n)
  | 0, _, _, _ => by simp [Rps]
  | n + 1, [], _, h => by simp only [Rps] at h; subst h; simp [Rps]
  | n + 1, d :: ds, _, h => by
    simp only [Rps] at h
    obtain ⟨v, r, rfl, h1, h2⟩ := h
    exact rps_cons h1 (Rps.take n h2)
theorem Rps.drop : ∀ (n : Nat) {ds : List PyData} {vs : List V}, Rps K F ds vs → Rps K F (ds.drop n) (vs.drop n)
  | 0, _, _, h => h
  | n + 1, [], _, h => by simp only [Rps] at h; subst h; simp [Rps]
  | n + 1, d :: ds, _, h => by
    simp only [Rps] at h
    obtain ⟨v, r, rfl, h1, h2⟩ := h
    exact Rps.drop n h2
theorem Rps.rev : ∀ {ds : List PyData} {vs : List V}, Rps K F ds vs → Rps K F ds.reverse vs.reverse
  | [], _, h => by simp only [Rps] at h; subst h; simp [Rps]
  | d :: ds, _, h => by
    simp only [Rps] at h
    obtain ⟨v, r, rfl, h1, h2⟩ := h
    rw [List.reverse_cons, List.reverse_cons]
    exact (Rps.rev h2).append (rps_cons h1 rps_nil)
theorem rps_ints : ∀ (ns : List Int), Rps K F (ns.map PyData.int) (ns.map V.int)
  | [] => rps_nil
  | n :: ns => rps_cons (by simp [Rp]) (rps_ints ns)
theorem Rps.ints : ∀ {ns : List Int} {vs : List V}, Rps K F (ns.map PyData.int) vs → vs = ns.map V.int
  | [], _, h => by simpa only [List.map_nil, Rps] using h
  | n :: ns, _, h => by
    simp only [List.map_cons, Rps, Rp] at h
    obtain ⟨v, r, rfl, rfl, h2⟩ := h
    rw [Rps.ints h2]; rfl
end
/-- an object: its class, its fields -/
structure Ob where
  C : Addr
  fs : List (Str × PyData)
/-- an error that is being handled: its class, its own dict, its fields -/
structure Xo where
  cls : Value
  d : Option Addr
  fs : List (Str × PyData)
/-- the world: how many draws, what objects there are -/
structure Wo where
  n : Nat
  ob : Addr → Option Ob
  xs : Addr → Option Xo
def Wo.put (w : Wo) (a : Addr) (o : Ob) : Wo := { w with ob := fun b => if b = a then some o else w.ob b }
def Wo.putX (w : Wo) (a : Addr) (o : Xo) : Wo := { w with xs := fun b => if b = a then some o else w.xs b }
instance : HAdd Wo Nat Wo := ⟨fun w k => { w with n := w.n + k }⟩
/-- later: some draws more -/
instance : LE Wo := ⟨fun w w' => w.n ≤ w'.n ∧ w.ob = w'.ob ∧ w.xs = w'.xs⟩
theorem Wo.add0 (w : Wo) (d : Nat) : w = w + 0 * d := by rw [Nat.zero_mul]; rfl
theorem Wo.le0 (w : Wo) (d : Nat) : w ≤ w + 0 * d := by
  rw [← Wo.add0]
  exact ⟨Nat.le_refl _, rfl, rfl⟩
abbrev FsR (K : PySem.W.Frag) (F : Hp) : List (Str × PyData) → List (Str × V) → Prop := Paired fun p q => p.1 = q.1 ∧ Rp K F p.2 q.2
structure DkS where
  own : List Addr
  at0 : Hp → Nat → Prop
  stay : ∀ (H H' : Hp) (n : Nat), (∀ a, a ∈ own → H' a = H a) → at0 H n → at0 H' n
  lsts : ∀ (H : Hp) (n : Nat), at0 H n → ∀ a, a ∈ own → ∃ xs, H a = some (.lst xs)
def XoAt (K : PySem.W.Frag) (F : Hp) (x : Xo) : Prop := (x.d = none ∧ x.fs = []) ∨ ∃ dd vs, x.d = some dd ∧ F dd = some (.xd vs) ∧ FsR K F x.fs vs
def Obs (K : PySem.W.Frag) (F H : Hp) (w : Wo) : Prop := (∀ a o, w.ob a = some o → F a = none ∧ ∃ dx vs, H a = some (.ins o.C dx vs) ∧ FsR K F o.fs vs) ∧ ∀ a x, w.xs a = some x → XoAt K F x
def DkS.at_ (δ : DkS) (K : PySem.W.Frag) (F H : Hp) (w : Wo) : Prop := δ.at0 H w.n ∧ Obs K F H w
/-- [cells, count] -/
def dkA (a b : Addr) : DkS := ⟨[a, b], fun H n => ∃ cells : List Int, H a = some (.lst [.ref b, .int n]) ∧ H b = some (.lst (cells.map V.int)) ∧ cells.length ≤ 63 ∧ ∀ c ∈ cells, 0 ≤ c, fun H H' n h ⟨cells, h1, h2, h3⟩ =>
  ⟨cells, by rw [h a (by simp)]; exact h1, by rw [h b (by simp)]; exact h2, h3⟩, fun H n ⟨cells, h1, h2, _⟩ x hx => by
  rcases List.mem_cons.mp hx with rfl | hx
  · exact ⟨_, h1⟩
  · rw [List.mem_singleton.mp hx]; exact ⟨_, h2⟩⟩
/-- [cells, count, rests] -/
def dkB (a b c : Addr) : DkS := ⟨[a, b, c], fun H n => ∃ cells rests : List Int, H a = some (.lst [.ref b, .int n, .ref c]) ∧ H b = some (.lst (cells.map V.int)) ∧ H c = some (.lst (rests.map V.int)) ∧ rests.length = cells.length ∧ 1 ≤ cells.length ∧ cells.length ≤ 63 ∧ (∀ c ∈ cells, c = c) ∧ ∀ c ∈ rests, 0 ≤ c,
  fun H H' n h ⟨cells, rests, h1, h2, h3, h4⟩ => ⟨cells, rests, by rw [h a (by simp)]; exact h1, by rw [h b (by simp)]; exact h2, by rw [h c (by simp)]; exact h3, h4⟩, fun H n ⟨cells, rests, h1, h2, h3, _⟩ x hx => by
  rcases List.mem_cons.mp hx with rfl | hx
  · exact ⟨_, h1⟩
  rcases List.mem_cons.mp hx with rfl | hx
  · exact ⟨_, h2⟩
  · rw [List.mem_singleton.mp hx]; exact ⟨_, h3⟩⟩
def IsDk : Bool → DkS → Addr → Prop
  | false, δ, a => ∃ b, δ = dkA a b
  | true, δ, a => ∃ b c, δ = dkB a b c
/-- F0, H0: the entry; δ: the deck -/
structure Fx where
  F0 : Hp
  H0 : Hp
  δ : DkS
inductive Dv where
  | dat (d : PyData) | vw (ds : List PyData) | mt (ds : List PyData) | deck (b : Bool) | md (a : Addr) (ks : List (Key × V))
def Dv.toD : Dv → PyData
  | .dat d => d
  | .vw ds => .list ds
  | .mt ds => .list ds
  | .deck _ => .none
  | .md _ _ => .none
def Dv.isL : Dv → Bool
  | .vw _ => true
  | .mt _ => true
  | _ => false
def Dv.isDk : Dv → Bool
  | .deck _ => true
  | _ => false
abbrev Rho := List (Option Dv)
/-- a value that an expression hands on -/
def VR (K : PySem.W.Frag) (δ : DkS) (F H : Hp) : Dv → V → Prop
  | .dat d, v => Rp K F d v
  | .vw ds, v => ∃ a vs, v = .ref a ∧ H a = some (.lst vs) ∧ Rps K F ds vs ∧ a ∉ δ.own
  | .mt _, _ => False
  | .deck k, v => ∃ a, v = .ref a ∧ IsDk k δ a
  | .md _ _, _ => False
def SlotV (K : PySem.W.Frag) (Z : Fx) (F H : Hp) : Dv → V → Prop
  | .mt ds, v => ∃ a vs, v = .ref a ∧ Z.H0 a = none ∧ F a = none ∧ H a = some (.lst vs) ∧ Rps K F ds vs ∧ a ∉ Z.δ.own
  | .md a ks, v => v = .ref a ∧ Z.H0 a = none ∧ F a = none ∧ H a = some (.dK ks) ∧ a ∉ Z.δ.own
  | .dat d, v => VR K Z.δ F H (.dat d) v
  | .vw ds, v => VR K Z.δ F H (.vw ds) v
  | .deck k, v => VR K Z.δ F H (.deck k) v
def isIns : HO → Bool
  | .ins _ _ _ => true
  | _ => false
/-- one expression's growth -/
structure Gr (δ : DkS) (F H F' H' : Hp) : Prop where
  sF : Same F F'
  nF : ∀ a, H a ≠ none → F a = none → F' a = none
  kH : ∀ a o, a ∉ δ.own → H a = some o → isIns o = false → H' a = some o
  iH : ∀ a C dx fs, H a = some (.ins C dx fs) → ∃ fs', H' a = some (.ins C dx fs')
  dH : ∀ a, H a ≠ none → H' a ≠ none
structure Base (K : PySem.W.Frag) (Z : Fx) (F H : Hp) (n : Wo) : Prop where
  sub : Same F H
  dk : Z.δ.at_ K F H n
  dkF : ∀ a, a ∈ Z.δ.own → F a = none ∧ H a ≠ none
  gF : Same Z.F0 F
  gN : ∀ a, Z.H0 a ≠ none → Z.F0 a = none → F a = none
  gH : ∀ a o, a ∉ Z.δ.own → Z.H0 a = some o → isIns o = false → H a = some o
  gI : ∀ a C dx fs, Z.H0 a = some (.ins C dx fs) → ∃ fs', H a = some (.ins C dx fs')
structure SR (Y : Fx) (K : PySem.W.Frag) (Z : Fx) (F H : Hp) (σ : L2.St) (ρ : Rho) (n : Wo) : Prop where
  b : Base K Z F H n
  de : Z.δ = Y.δ
  he : Z.H0 = Y.H0
  gr : Gr Y.δ Y.F0 Y.H0 F H
  len : ρ.length = σ.length
  slot : ∀ (i : Nat) (x : Dv), ρ[i]? = some (some x) → ∃ v, σ[i]? = some (some v) ∧ SlotV K Z F H x v
  apart : ∀ (i j : Nat) (a : Addr) (ds : List PyData) (y : Dv), i ≠ j → ρ[i]? = some (some (.mt ds)) → σ[i]? = some (some (.ref a)) → ρ[j]? = some (some y) → y.isL = true → σ[j]? ≠ some (some (.ref a))
/-- .. that changes nothing -/
structure Gp (F H F' H' : Hp) : Prop where
  sF : Same F F'
  nF : ∀ a, H a ≠ none → F a = none → F' a = none
  sH : Same H H'
section
variable {K : PySem.W.Frag} {Y Z : Fx} {δ : DkS} {F F' F'' H H' H'' : Hp} {σ : L2.St} {ρ : Rho} {n n' : Wo}
theorem some_of_ne {H : Hp} {a : Addr} (h : H a ≠ none) : ∃ o, H a = some o := by
  cases e : H a with
  | none => exact absurd e h
  | some o => exact ⟨o, rfl⟩
theorem Gr.refl : Gr δ F H F H := ⟨Same.refl _, fun _ _ h => h, fun _ _ _ h _ => h, fun _ _ _ _ h => ⟨_, h⟩, fun _ h => h⟩
theorem Gr.trans (a : Gr δ F H F' H') (b : Gr δ F' H' F'' H'') : Gr δ F H F'' H'' :=
  ⟨a.sF.trans b.sF, fun x h1 h2 => b.nF x (a.dH x h1) (a.nF x h1 h2), fun x o h1 h2 h3 => b.kH x o h1 (a.kH x o h1 h2 h3) h3, fun x C dx fs h => by
    obtain ⟨fs', h'⟩ := a.iH x C dx fs h
    exact b.iH x C dx fs' h', fun x h => b.dH x (a.dH x h)⟩
theorem Gp.refl : Gp F H F H := ⟨Same.refl _, fun _ _ h => h, Same.refl _⟩
theorem Gp.ne (g : Gp F H F' H') {a : Addr} (h : H a ≠ none) : H' a ≠ none := by
  obtain ⟨o, e⟩ := some_of_ne h
  rw [g.sH _ _ e]; nofun
theorem Gp.trans (a : Gp F H F' H') (b : Gp F' H' F'' H'') : Gp F H F'' H'' :=
  ⟨a.sF.trans b.sF, fun x h1 h2 => b.nF x (a.ne h1) (a.nF x h1 h2), a.sH.trans b.sH⟩
theorem Gp.gr (g : Gp F H F' H') : Gr δ F H F' H' := ⟨g.sF, g.nF, fun _ _ _ h _ => g.sH _ _ h, fun _ _ _ _ h => ⟨_, g.sH _ _ h⟩, fun _ h => g.ne h⟩
theorem FsR.mono (e : Same F F') {fs : List (Str × PyData)} {vs : List (Str × V)} (h : FsR K F fs vs) : FsR K F' fs vs := Paired.mapP h fun p q r => ⟨r.1, Rp.mono e _ _ r.2⟩
theorem XoAt.mono (e : Same F F') {x : Xo} (h : XoAt K F x) : XoAt K F' x := by
  rcases h with h | ⟨dd, vs, h1, h2, h3⟩
  · exact .inl h
  · exact .inr ⟨dd, vs, h1, e _ _ h2, h3.mono e⟩
theorem Obs.grow (h : Obs K F H n) (hn : ∀ a, H a ≠ none → F a = none → F' a = none) (hF : Same F F') (hH : ∀ a C dx fs, H a = some (.ins C dx fs) → H' a = some (.ins C dx fs)) : Obs K F' H' n := ⟨fun a o e => by
  obtain ⟨h1, dx, vs, h2, h3⟩ := h.1 a o e
  exact ⟨hn a (by rw [h2]; nofun) h1, dx, vs, hH _ _ _ _ h2, h3.mono hF⟩, fun a x e => (h.2 a x e).mono hF⟩
theorem Gp.dk (g : Gp F H F' H') (b : Base K Z F H n) : Z.δ.at_ K F' H' n := ⟨Z.δ.stay H H' n.n (fun a ha => by
  obtain ⟨o, e⟩ := some_of_ne (b.dkF a ha).2
  rw [e]; exact g.sH _ _ e) b.dk.1, b.dk.2.grow g.nF g.sF fun _ _ _ _ h => g.sH _ _ h⟩
/-- a frozen new object -/
theorem Gp.new {p : Addr} {o : HO} (h : H p = none) (hs : Same F H) : Gp F H (upd F p o) (upd H p o) ∧ Same (upd F p o) (upd H p o) := by
  have hF : F p = none := hs.free h
  refine ⟨⟨fun a u e => ?_, fun a h1 h2 => ?_, fun a u e => ?_⟩, fun a u e => ?_⟩
  · rw [upd_ne (ne_of_none e hF)]; exact e
  · rw [upd_ne (fun q => h1 (by rw [q]; exact h))]; exact h2
  · rw [upd_ne (ne_of_none e h)]; exact e
  · by_cases q : a = p
    · subst q; rw [upd_same] at e ⊢; exact e
    · rw [upd_ne q] at e ⊢; exact hs _ _ e
/-- a new object, not frozen -/
theorem Gp.newM {p : Addr} {o : HO} (h : H p = none) (hs : Same F H) : Gp F H F (upd H p o) ∧ Same F (upd H p o) := by
  refine ⟨⟨Same.refl _, fun _ _ h => h, fun a u e => ?_⟩, fun a u e => ?_⟩
  · rw [upd_ne (ne_of_none e h)]; exact e
  · rw [upd_ne (ne_of_none (hs _ _ e) h)]; exact hs _ _ e
theorem VR.step {x : Dv} {v : V} (g : Gr δ F H F' H') (h : VR K δ F H x v) : VR K δ F' H' x v := by
  cases x with
  | dat d => exact Rp.mono g.sF d v h
  | vw ds =>
    obtain ⟨a, vs, rfl, h1, h2, h3⟩ := h
    exact ⟨a, vs, rfl, g.kH _ _ h3 h1 rfl, Rps.mono g.sF ds vs h2, h3⟩
  | mt ds => exact h
  | deck _ => exact h
  | md _ _ => exact h
theorem SlotV.step {x : Dv} {v : V} (g : Gr Z.δ F H F' H') (h : SlotV K Z F H x v) : SlotV K Z F' H' x v := by
  cases x with
  | mt ds =>
    obtain ⟨a, vs, rfl, h0, h1, h2, h3, h4⟩ := h
    exact ⟨a, vs, rfl, h0, g.nF a (by rw [h2]; nofun) h1, g.kH _ _ h4 h2 rfl, Rps.mono g.sF ds vs h3, h4⟩
  | dat d => exact VR.step (x := .dat d) g h
  | vw ds => exact VR.step (x := .vw ds) g h
  | deck _ => exact h
  | md a ks =>
    obtain ⟨e, h0, h1, h2, h3⟩ := h
    exact ⟨e, h0, g.nF a (by rw [h2]; nofun) h1, g.kH _ _ h3 h2 rfl, h3⟩
theorem Base.gD (b : Base K Z F H n) (a : Addr) (h : Z.H0 a ≠ none) : H a ≠ none := by
  by_cases ha : a ∈ Z.δ.own
  · exact (b.dkF a ha).2
  · obtain ⟨o, e⟩ := some_of_ne h
    by_cases hi : isIns o = false
    · rw [b.gH a o ha e hi]; nofun
    · cases o with
      | ins C dx fs =>
        obtain ⟨fs', h'⟩ := b.gI a C dx fs e
        rw [h']; nofun
      | _ => exact absurd rfl hi
theorem Base.step (b : Base K Z F H n) (g : Gr Z.δ F H F' H') (hs : Same F' H') (hd : Z.δ.at_ K F' H' n') : Base K Z F' H' n' where
  sub := hs
  dk := hd
  dkF := fun a ha => ⟨g.nF a (b.dkF a ha).2 (b.dkF a ha).1, g.dH a (b.dkF a ha).2⟩
  gF := b.gF.trans g.sF
  gN := fun a h1 h2 => by
    by_cases ha : a ∈ Z.δ.own
    · exact g.nF a (b.dkF a ha).2 (b.dkF a ha).1
    · exact g.nF a (b.gD a h1) (b.gN a h1 h2)
  gH := fun a o h1 h2 h3 => g.kH a o h1 (b.gH a o h1 h2 h3) h3
  gI := fun a C dx fs h => by
    obtain ⟨fs', h'⟩ := b.gI a C dx fs h
    exact g.iH a C dx fs' h'
theorem SR.step (r : SR Y K Z F H σ ρ n) (g : Gr Z.δ F H F' H') (hs : Same F' H') (hd : Z.δ.at_ K F' H' n') : SR Y K Z F' H' σ ρ n' where
  b := r.b.step g hs hd
  de := r.de
  he := r.he
  gr := r.gr.trans (r.de ▸ g)
  len := r.len
  slot := fun i x e => by
    obtain ⟨v, e1, e2⟩ := r.slot i x e
    exact ⟨v, e1, e2.step g⟩
  apart := r.apart
/-- what stands as data -/
def needD (x : Dv) (R : PyData → Prop) : Prop :=
  match x with
  | .dat d => R d
  | _ => False
/-- a view is data in the heap itself -/
theorem VR.rp {x : Dv} {v : V} (h : VR K δ F H x v) (hs : Same F H) (hx : x.isDk = false) : Rp K H x.toD v := by
  cases x with
  | dat d => exact Rp.mono hs d v h
  | vw ds =>
    obtain ⟨a, vs, rfl, h1, h2, _⟩ := h
    simp only [Dv.toD, Rp]
    exact ⟨a, vs, rfl, h1, Rps.mono hs ds vs h2⟩
  | mt ds => exact h.elim
  | deck _ => exact absurd hx (by simp [Dv.isDk])
  | md _ _ => exact h.elim
end
abbrev DTE := Rho → Wo → (Dv → Wo → Prop) → Prop
abbrev DTA := Rho → Wo → (List Dv → Wo → Prop) → Prop
abbrev DTT := Rho → Wo → (Bool → Wo → Prop) → Prop
def up (Y : Fx) (K : PySem.W.Frag) (t : DTE) : TE := fun σ H Q => ∃ Z F ρ n R, SR Y K Z F H σ ρ n ∧ t ρ n R ∧
  ∀ x n' F' H' v, R x n' → Gr Z.δ F H F' H' → Same F' H' → Z.δ.at_ K F' H' n' → VR K Z.δ F' H' x v → Q v H'
def VRs (K : PySem.W.Frag) (δ : DkS) (F H : Hp) : List Dv → List V → Prop := Paired (VR K δ F H)
def upA (Y : Fx) (K : PySem.W.Frag) (t : DTA) : TA := fun σ H Q => ∃ Z F ρ n R, SR Y K Z F H σ ρ n ∧ t ρ n R ∧
  ∀ xs n' F' H' vs, R xs n' → Gr Z.δ F H F' H' → Same F' H' → Z.δ.at_ K F' H' n' → VRs K Z.δ F' H' xs vs → Q vs H'
def upT (Y : Fx) (K : PySem.W.Frag) (t : DTT) : TT := fun σ H Q => ∃ Z F ρ n R, SR Y K Z F H σ ρ n ∧ t ρ n R ∧
  ∀ c n' F' H', R c n' → Gr Z.δ F H F' H' → Same F' H' → Z.δ.at_ K F' H' n' → Q c H'
/-- a fresh list -/
abbrev DTM := Rho → Wo → (List PyData → Wo → Prop) → Prop
def upM (Y : Fx) (K : PySem.W.Frag) (t : DTM) : TE := fun σ H Q => ∃ Z F ρ n R, SR Y K Z F H σ ρ n ∧ t ρ n R ∧
  ∀ ds n' F' H' p vs, R ds n' → Gr Z.δ F H F' H' → Same F' H' → Z.δ.at_ K F' H' n' → H p = none → F' p = none → H' p = some (.lst vs) → Rps K F' ds vs → Q (.ref p) H'
abbrev WE (Y : Fx) (X : Cx) (e : Expr) (t : DTE) : Prop := PE X e (up Y X.K t)
abbrev WA (Y : Fx) (X : Cx) (es : List Expr) (t : DTA) : Prop := PA X es (upA Y X.K t)
abbrev WT (Y : Fx) (X : Cx) (e : Expr) (t : DTT) : Prop := PT X e (upT Y X.K t)
abbrev ME (Y : Fx) (X : Cx) (e : Expr) (t : DTM) : Prop := PE X e (upM Y X.K t)
theorem pe_imp {X : Cx} {e : Expr} {t t' : TE} (h : PE X e t) (q : ∀ σ H Q, t' σ H Q → t σ H Q) : PE X e t' := ⟨fun p s σ H Q I w => h.run p s σ H Q I (q σ H Q w)⟩
theorem pa_imp {X : Cx} {es : List Expr} {t t' : TA} (h : PA X es t) (q : ∀ σ H Q, t' σ H Q → t σ H Q) : PA X es t' := ⟨fun c p s σ H Q I w => h.run c p s σ H Q I (q σ H Q w)⟩
theorem pt_imp {X : Cx} {e : Expr} {t t' : TT} (h : PT X e t) (q : ∀ σ H Q, t' σ H Q → t σ H Q) : PT X e t' := ⟨fun p s σ H Q I w => h.run p s σ H Q I (q σ H Q w)⟩
theorem ps_imp {X : Cx} {st : Stmt} {t t' : TS} (h : PS X st t) (q : ∀ D σ H, t' D σ H → t D σ H) : PS X st t' := ⟨fun p s σ H D I w => h.run p s σ H D I (q D σ H w)⟩
theorem pss_imp {X : Cx} {st : List Stmt} {t t' : TS} (h : PSs X st t) (q : ∀ D σ H, t' D σ H → t D σ H) : PSs X st t' := ⟨fun p s σ H D I w => h.run p s σ H D I (q D σ H w)⟩
theorem DkS.at_.fz {K : PySem.W.Frag} {δ : DkS} {F H : Hp} {n : Wo} {p : Addr} {o : HO} (h : δ.at_ K F H n) (hp : H p = some o) (ho : isIns o = false) (hF : F p = none) : δ.at_ K (upd F p o) H n :=
  ⟨h.1, ⟨fun a ob e => by
    obtain ⟨h1, dx, vs, h2, h3⟩ := h.2.1 a ob e
    have ne : a ≠ p := fun q => by
      rw [q, hp] at h2
      cases h2
      cases ho
    exact ⟨by rw [upd_ne ne]; exact h1, dx, vs, h2, h3.mono fun b u e => by rw [upd_ne (ne_of_none e hF)]; exact e⟩, fun a x e => (h.2.2 a x e).mono fun b u e => by rw [upd_ne (ne_of_none e hF)]; exact e⟩⟩
/-- a thing of one's own (no object) is changed -/
theorem DkS.at_.chg {K : PySem.W.Frag} {δ : DkS} {F H : Hp} {n : Wo} {p : Addr} {o u : HO} (h : δ.at_ K F H n) (na : p ∉ δ.own) (hp : H p = some o) (ho : isIns o = false) : δ.at_ K F (upd H p u) n :=
  ⟨δ.stay H _ n.n (fun b hb => upd_ne fun q => na (by rw [← q]; exact hb)) h.1, ⟨fun a ob e => by
    obtain ⟨h1, dx, vs, h2, h3⟩ := h.2.1 a ob e
    have ne : a ≠ p := fun q => by
      rw [q, hp] at h2
      cases h2
      cases ho
    exact ⟨h1, dx, vs, by rw [upd_ne ne]; exact h2, h3⟩, h.2.2⟩⟩
theorem DkS.at_.lay {K : PySem.W.Frag} {δ : DkS} {F H : Hp} {n : Wo} {p : Addr} {u : HO} (h : δ.at_ K F H n) (na : p ∉ δ.own) (hp : H p = none) : δ.at_ K F (upd H p u) n :=
  ⟨δ.stay H _ n.n (fun b hb => upd_ne fun q => na (by rw [← q]; exact hb)) h.1, ⟨fun a ob e => by
    obtain ⟨h1, dx, vs, h2, h3⟩ := h.2.1 a ob e
    exact ⟨h1, dx, vs, by rw [upd_ne (ne_of_none h2 hp)]; exact h2, h3⟩, h.2.2⟩⟩
theorem Gr.chg {δ : DkS} {F H F' H' : Hp} {p : Addr} {u : HO} (g : Gr δ F H F' H') (hp : H p = none) : Gr δ F H F' (upd H' p u) :=
  ⟨g.sF, g.nF, fun a o na e hi => by rw [upd_ne (ne_of_none e hp)]; exact g.kH a o na e hi, fun a C dx fs e => by rw [upd_ne (ne_of_none e hp)]; exact g.iH a C dx fs e, fun a e => by
    rw [upd_ne (fun q => e (by rw [q]; exact hp))]; exact g.dH a e⟩
/-- a fresh list, frozen -/
def dOfM (t : DTM) : DTE := fun ρ n R => t ρ n fun ds n' => R (.dat (.list ds)) n'
theorem freeze {K : PySem.W.Frag} {δ : DkS} {F H F' H' : Hp} {p : Addr} {vs : List V} {ds : List PyData} (g : Gr δ F H F' H') (hs : Same F' H') (hp : H p = none) (hF : F' p = none) (hH : H' p = some (.lst vs)) (r : Rps K F' ds vs) :
    Gr δ F H (upd F' p (.lst vs)) H' ∧ Same (upd F' p (.lst vs)) H' ∧ Rp K (upd F' p (.lst vs)) (.list ds) (.ref p) := by
  have s1 : Same F' (upd F' p (.lst vs)) := fun a o e => by rw [upd_ne (ne_of_none e hF)]; exact e
  refine ⟨⟨g.sF.trans s1, fun a h1 h2 => ?_, g.kH, g.iH, g.dH⟩, fun a o e => ?_, ?_⟩
  · rw [upd_ne (fun q => h1 (by rw [q]; exact hp))]; exact g.nF a h1 h2
  · by_cases q : a = p
    · subst q; rw [upd_same] at e; cases e; exact hH
    · rw [upd_ne q] at e; exact hs _ _ e
  · simp only [Rp]
    exact ⟨p, vs, rfl, upd_same, Rps.mono s1 ds vs r⟩
theorem we_ofM {X : Cx} {e : Expr} {t : DTM} (h : ME Y X e t) : WE Y X e (dOfM t) := pe_imp h fun σ H Q ⟨Z, F, ρ, n, R, r, ht, k⟩ =>
  ⟨Z, F, ρ, n, _, r, ht, fun ds n' F' H' p vs hR g hs hd hp hF hH hr => by
    obtain ⟨g2, s2, r2⟩ := freeze g hs hp hF hH hr
    exact k _ _ _ _ _ hR g2 s2 (hd.fz hH rfl hF) r2⟩
end DL
namespace DL
open PySem PySem.Spec PyProof.Rows L2
variable {X : Cx} {Y : Fx}
def dView (x : Dv) (R : Dv → Prop) : Prop :=
  match x with
  | .mt ds => R (.vw ds)
  | .md _ _ => False
  | y => R y
def dVar (i : Nat) : DTE := fun ρ n R => ∃ x, ρ[i]? = some (some x) ∧ dView x fun y => R y n
theorem we_var (i : Nat) {x : Str} {pos : Pos} (hN : X.N[i]? = some x := by rfl) (hv : Vis X.env.scope x := by first | exact Or.inl rfl | exact Or.inr (Or.inl rfl) | exact Or.inr (Or.inr rfl))
    (hd : (x == ("__debug__" : Str)) = false := by decide) (hcd : (x == ("__classdict__" : Str)) = false := by decide) : WE Y X (.Name x pos) (dVar i) :=
  pe_imp (pe_var hN hv hd hcd) fun σ H Q ⟨Z, F, ρ, n, R, r, ⟨y, e, hy⟩, k⟩ => by
    obtain ⟨v, e1, e2⟩ := r.slot i y e
    refine ⟨v, e1, ?_⟩
    cases y with
    | mt ds =>
      obtain ⟨a, vs, rfl, _, _, h2, h3, h4⟩ := e2
      exact k _ _ _ _ _ hy Gr.refl r.b.sub r.b.dk ⟨a, vs, rfl, h2, h3, h4⟩
    | dat d => exact k _ _ _ _ _ hy Gr.refl r.b.sub r.b.dk e2
    | vw ds => exact k _ _ _ _ _ hy Gr.refl r.b.sub r.b.dk e2
    | deck _ => exact k _ _ _ _ _ hy Gr.refl r.b.sub r.b.dk e2
    | md _ _ => exact hy.elim
def dC (d : PyData) : DTE := fun _ n R => R (.dat d) n
theorem we_c {e : Expr} {v : V} {d : PyData} (h : PE X e (tC v)) (hd : ∀ F, Rp X.K F d v) : WE Y X e (dC d) :=
  pe_imp h fun σ H Q ⟨Z, F, ρ, n, R, r, hr, k⟩ => k _ _ _ _ _ hr Gr.refl r.b.sub r.b.dk (hd F)
theorem we_int {i j pos} : WE Y X (.Constant (.int i) j pos) (dC (.int i)) := we_c pe_int fun _ => by simp [Rp]
theorem we_bl {i j pos} : WE Y X (.Constant (.bool i) j pos) (dC (.bool i)) := we_c pe_bl fun _ => by simp [Rp]
theorem we_non {j pos} : WE Y X (.Constant .none j pos) (dC .none) := we_c pe_non fun _ => by simp [Rp]
theorem we_str {i j pos} : WE Y X (.Constant (.str i) j pos) (dC (.str i)) := we_c pe_str fun _ => by simp [Rp]
/-- a module's int -/
theorem we_gint {x : Str} {i : Int} {t : Tok} {pos : Pos} (hg : Gl X x) (hm : X.mg x = some (.int i t)) (hd : (x == ("__debug__" : Str)) = false := by decide) : WE Y X (.Name x pos) (dC (.int i)) :=
  we_c (pe_glob (v := .int i) hg hm ⟨_, rfl⟩ hd) fun _ => by simp [Rp]
def dNil : DTA := fun _ n R => R [] n
def dCons (t : DTE) (u : DTA) : DTA := fun ρ n R => t ρ n fun x n1 => u ρ n1 fun xs n2 => R (x :: xs) n2
theorem wa_nil : WA Y X [] dNil := pa_imp pa_nil fun σ H Q ⟨Z, F, ρ, n, R, r, hr, k⟩ => k _ _ _ _ _ hr Gr.refl r.b.sub r.b.dk .nil
theorem wa_cons {e : Expr} {es : List Expr} {t : DTE} {u : DTA} (ha : WE Y X e t) (hr : WA Y X es u) (hs : starEach (e :: es) X.env = (false, eval e X.env) :: starEach es X.env := by rfl) : WA Y X (e :: es) (dCons t u) :=
  pa_imp (pa_cons ha hr hs) fun σ H Q ⟨Z, F, ρ, n, R, r, ht, k⟩ =>
    ⟨Z, F, ρ, n, _, r, ht, fun x n1 F1 H1 v hx g1 s1 d1 w1 => ⟨Z, F1, ρ, n1, _, r.step g1 s1 d1, hx, fun xs n2 F2 H2 vs hxs g2 s2 d2 w2 =>
      k _ _ _ _ _ hxs (g1.trans g2) s2 d2 (.cons (w1.step g2) w2)⟩⟩
/-- all of them data -/
def needDs : List Dv → (List PyData → Prop) → Prop
  | [], R => R []
  | x :: xs, R => needD x fun d => needDs xs fun ds => R (d :: ds)
theorem needD_is {x : Dv} {R : PyData → Prop} (h : needD x R) : ∃ d, x = .dat d ∧ R d := by
  cases x with
  | dat d => exact ⟨d, rfl, h⟩
  | vw _ => exact h.elim
  | mt _ => exact h.elim
  | deck _ => exact h.elim
  | md _ _ => exact h.elim
theorem needDs_is {K : PySem.W.Frag} {δ : DkS} {F H : Hp} : ∀ {xs : List Dv} {vs : List V} {R : List PyData → Prop}, VRs K δ F H xs vs → needDs xs R → ∃ ds, R ds ∧ Rps K F ds vs
  | [], _, R, .nil, h => ⟨[], h, rps_nil⟩
  | x :: xs, _, R, .cons a b, h => by
    obtain ⟨d, rfl, h⟩ := needD_is h
    obtain ⟨ds, h1, h2⟩ := needDs_is b h
    exact ⟨d :: ds, h1, rps_cons a h2⟩
def dTup (t : DTA) : DTE := fun ρ n R => t ρ n fun xs n' => needDs xs fun ds => ds.length ≤ sizeLine ∧ R (.dat (.tuple ds)) n'
theorem we_tup {es : List Expr} {t : DTA} {x1} {pos : Pos} (h : WA Y X es t) : WE Y X (.Tuple es x1 pos) (dTup t) :=
  pe_imp (pe_tup h) fun σ H Q ⟨Z, F, ρ, n, R, r, ht, k⟩ => ⟨Z, F, ρ, n, _, r, ht, fun xs n1 F1 H1 vs hx g1 s1 d1 w1 => by
    obtain ⟨ds, ⟨hl, hR⟩, hr⟩ := needDs_is w1 hx
    refine ⟨by rw [← hr.length]; exact hl, fun p hp => ?_⟩
    obtain ⟨g2, s2⟩ := Gp.new (o := .tup vs) hp s1
    refine k _ _ _ _ _ hR (g1.trans g2.gr) s2 (g2.dk ((r.step g1 s1 d1).b)) ?_
    simp only [VR, Rp]
    exact ⟨p, vs, rfl, .inl upd_same, Rps.mono g2.sF ds vs hr⟩⟩
def mLst (t : DTA) : DTM := fun ρ n R => t ρ n fun xs n' => needDs xs fun ds => ds.length ≤ sizeLine ∧ R ds n'
theorem me_lst {es : List Expr} {t : DTA} {pos : Pos} (h : WA Y X es t) : ME Y X (.List es pos) (mLst t) :=
  pe_imp (pe_lst h) fun σ H Q ⟨Z, F, ρ, n, R, r, ht, k⟩ => ⟨Z, F, ρ, n, _, r, ht, fun xs n1 F1 H1 vs hx g1 s1 d1 w1 => by
    obtain ⟨ds, ⟨hl, hR⟩, hr⟩ := needDs_is w1 hx
    refine ⟨by rw [← hr.length]; exact hl, fun p hp => ?_⟩
    obtain ⟨g2, s2⟩ := Gp.newM (o := .lst vs) hp s1
    have hp0 : H p = none := by
      cases e : H p with
      | none => rfl
      | some o => exact absurd hp (g1.dH p (by rw [e]; nofun))
    exact k _ _ _ _ _ _ hR (g1.trans g2.gr) s2 (g2.dk ((r.step g1 s1 d1).b)) hp0 (s1.free hp) upd_same hr⟩
abbrev D2 := Dv → Dv → (PyData → Prop) → Prop
abbrev Back (K : PySem.W.Frag) (F H : Hp) (R : PyData → Prop) (Q : VK) : Prop := ∀ d F' H' v, R d → Gp F H F' H' → Same F' H' → Rp K F' d v → Q v H'
def BinOk (K : PySem.W.Frag) (r : R2) (o : D2) : Prop := ∀ δ F H x y v u R Q, Same F H → VR K δ F H x v → VR K δ F H y u → o x y R → Back K F H R Q → r v u H Q
theorem Back.here {K : PySem.W.Frag} {F H : Hp} {R : PyData → Prop} {Q : VK} (b : Back K F H R Q) (hs : Same F H) {d : PyData} {v : V} (h : R d) (r : Rp K F d v) : Q v H := b d F H v h Gp.refl hs r
theorem Back.int {K : PySem.W.Frag} {F H : Hp} {R : PyData → Prop} {Q : VK} (b : Back K F H R Q) (hs : Same F H) {i : Int} (h : R (.int i)) : Q (.int i) H := b.here hs h (by simp [Rp])
theorem Back.bl {K : PySem.W.Frag} {F H : Hp} {R : PyData → Prop} {Q : VK} (b : Back K F H R Q) (hs : Same F H) {i : Bool} (h : R (.bool i)) : Q (.bl i) H := b.here hs h (by simp [Rp])
theorem Back.tup {K : PySem.W.Frag} {F H : Hp} {R : PyData → Prop} {Q : VK} (b : Back K F H R Q) (hs : Same F H) {ds : List PyData} {vs : List V} (h : R (.tuple ds)) (r : Rps K F ds vs) {p : Addr} (hp : H p = none) : Q (.ref p) (upd H p (.tup vs)) := by
  obtain ⟨g, s⟩ := Gp.new (o := .tup vs) hp hs
  refine b _ _ _ _ h g s ?_
  simp only [Rp]
  exact ⟨p, vs, rfl, .inl upd_same, Rps.mono g.sF ds vs r⟩
theorem Back.lst {K : PySem.W.Frag} {F H : Hp} {R : PyData → Prop} {Q : VK} (b : Back K F H R Q) (hs : Same F H) {ds : List PyData} {vs : List V} (h : R (.list ds)) (r : Rps K F ds vs) {p : Addr} (hp : H p = none) : Q (.ref p) (upd H p (.lst vs)) := by
  obtain ⟨g, s⟩ := Gp.new (o := .lst vs) hp hs
  refine b _ _ _ _ h g s ?_
  simp only [Rp]
  exact ⟨p, vs, rfl, upd_same, Rps.mono g.sF ds vs r⟩
def dBin (o : D2) (t u : DTE) : DTE := fun ρ n R => t ρ n fun x n1 => u ρ n1 fun y n2 => o x y fun z => R (.dat z) n2
/-- the two operands, then o -/
theorem two {K : PySem.W.Frag} {r : R2} {o : D2} {t u : DTE} (hr : BinOk K r o) : ∀ σ H Q, up Y K (dBin o t u) σ H Q → tOp r (up Y K t) (up Y K u) σ H Q := fun σ H Q ⟨Z, F, ρ, n, R, s, ht, k⟩ =>
  ⟨Z, F, ρ, n, _, s, ht, fun x n1 F1 H1 v hx g1 s1 d1 w1 => ⟨Z, F1, ρ, n1, _, s.step g1 s1 d1, hx, fun y n2 F2 H2 u hy g2 s2 d2 w2 =>
    hr Z.δ F2 H2 x y v u _ Q s2 (w1.step g2) w2 hy fun d F3 H3 v3 h3 g3 s3 w3 =>
      k _ _ _ _ _ h3 ((g1.trans g2).trans g3.gr) s3 (g3.dk (((s.step g1 s1 d1).step g2 s2 d2).b)) w3⟩⟩
theorem we_bin {op : Operator} {r : R2} {o : D2} {a b : Expr} {t u : DTE} {pos : Pos} (ho : OpR X (binaryOp op) r) (hr : BinOk X.K r o) (ha : WE Y X a t) (hb : WE Y X b u) : WE Y X (.BinOp a op b pos) (dBin o t u) :=
  pe_imp (pe_op ho ha hb) (two hr)
theorem we_cmp {op : CmpOp} {r : R2} {o : D2} {a b : Expr} {t u : DTE} {pos : Pos} (ho : OpR X (compareOp op) r) (hr : BinOk X.K r o) (ha : WE Y X a t) (hb : WE Y X b u) (hm : behindInMarks op b = false) : WE Y X (.Compare a [op] [b] pos) (dBin o t u) :=
  pe_imp (pe_cmpR ho ha hb hm) (two hr)
def dTst (t : DTE) : DTT := fun ρ n R => t ρ n fun x n1 => ∃ c, x = .dat (.bool c) ∧ R c n1
theorem tst {K : PySem.W.Frag} {te : TE} {t : DTE} (h : ∀ σ H Q, up Y K t σ H Q → te σ H Q) : ∀ σ H Q, upT Y K (dTst t) σ H Q → tTest te σ H Q := fun σ H Q ⟨Z, F, ρ, n, R, s, ht, k⟩ => by
  refine h _ _ _ ⟨Z, F, ρ, n, _, s, ht, fun x n1 F1 H1 v ⟨c, e, hx⟩ g1 s1 d1 w1 => ?_⟩
  subst e
  simp only [VR, Rp] at w1
  exact ⟨c, w1, k _ _ _ _ hx g1 s1 d1⟩
theorem wt_cmp {op : CmpOp} {r : R2} {o : D2} {a b : Expr} {t u : DTE} {pos : Pos} (ho : OpR X (compareOp op) r) (hr : BinOk X.K r o) (ha : WE Y X a t) (hb : WE Y X b u) (hm : behindInMarks op b = false) : WT Y X (.Compare a [op] [b] pos) (dTst (dBin o t u)) :=
  pt_imp (pt_cmpR ho ha hb hm) (tst (two hr))
def dChain (o o' : D2) (t u w : DTE) : DTE := fun ρ n R => t ρ n fun x n1 => u ρ n1 fun y n2 => o x y fun c => ∃ k, c = .bool k ∧ (if k = true then w ρ n2 fun z n3 => o' y z fun d => R (.dat d) n3 else R (.dat (.bool false)) n2)
theorem chn {K : PySem.W.Frag} {r r' : R2} {o o' : D2} {t u w : DTE} (hr : BinOk K r o) (hr' : BinOk K r' o') : ∀ σ H Q, up Y K (dChain o o' t u w) σ H Q → tChain r r' (up Y K t) (up Y K u) (up Y K w) σ H Q := fun σ H Q ⟨Z, F, ρ, n, R, s, ht, k⟩ =>
  ⟨Z, F, ρ, n, _, s, ht, fun x n1 F1 H1 v hx g1 s1 d1 w1 => ⟨Z, F1, ρ, n1, _, s.step g1 s1 d1, hx, fun y n2 F2 H2 u hy g2 s2 d2 w2 => by
    refine hr Z.δ F2 H2 x y v u _ _ s2 (w1.step g2) w2 hy fun d F3 H3 v3 ⟨c, e, h3⟩ g3 s3 w3 => ?_
    subst e
    simp only [Rp] at w3
    refine ⟨c, w3, ?_⟩
    have S3 := ((s.step g1 s1 d1).step g2 s2 d2).step g3.gr s3 (g3.dk (((s.step g1 s1 d1).step g2 s2 d2).b))
    cases c with
    | false => exact k _ _ _ _ _ h3 ((g1.trans g2).trans g3.gr) s3 S3.b.dk (by simp [VR, Rp])
    | true =>
      refine ⟨Z, F3, ρ, n2, _, S3, h3, fun z n4 F4 H4 v4 h4 g4 s4 d4 w4 => ?_⟩
      refine hr' Z.δ F4 H4 y z u v4 _ Q s4 ((w2.step g3.gr).step g4) w4 h4 fun d F5 H5 v5 h5 g5 s5 w5 => ?_
      exact k _ _ _ _ _ h5 ((((g1.trans g2).trans g3.gr).trans g4).trans g5.gr) s5 (g5.dk ((S3.step g4 s4 d4).b)) w5⟩⟩
theorem we_chain {op op' : CmpOp} {r r' : R2} {o o' : D2} {a b c : Expr} {t u w : DTE} {pos : Pos} (ho : OpR X (compareOp op) r) (ho' : OpR X (compareOp op') r') (hr : BinOk X.K r o) (hr' : BinOk X.K r' o') (ha : WE Y X a t) (hb : WE Y X b u) (hc : WE Y X c w)
    (hm : lastMarks [op, op'] [b, c] = false := by with_unfolding_all rfl) : WE Y X (.Compare a [op, op'] [b, c] pos) (dChain o o' t u w) :=
  pe_imp (pe_chain ho ho' ha hb hc hm) (chn hr hr')
def oI0 (g : Int → Int → PyData) : D2 := fun x y R =>
  match x, y with
  | .dat (.int i), .dat (.int j) => R (g i j)
  | _, _ => False
def oI (C : Int → Int → Prop) (g : Int → Int → PyData) : D2 := fun x y R =>
  match x, y with
  | .dat (.int i), .dat (.int j) => C i j ∧ R (g i j)
  | _, _ => False
theorem oI_is {C : Int → Int → Prop} {g : Int → Int → PyData} {x y : Dv} {R : PyData → Prop} (h : oI C g x y R) : ∃ i j, x = .dat (.int i) ∧ y = .dat (.int j) ∧ C i j ∧ R (g i j) := by
  unfold oI at h
  split at h
  · exact ⟨_, _, rfl, rfl, h⟩
  · exact h.elim
theorem oI0_is {g : Int → Int → PyData} {x y : Dv} {R : PyData → Prop} (h : oI0 g x y R) : ∃ i j, x = .dat (.int i) ∧ y = .dat (.int j) ∧ R (g i j) := by
  unfold oI0 at h
  split at h
  · exact ⟨_, _, rfl, rfl, h⟩
  · exact h.elim
section
variable {K : PySem.W.Frag}
theorem bi_I {C : Int → Int → Prop} {g : Int → Int → Int} : BinOk K (rI C fun i j => .int (g i j)) (oI C fun i j => .int (g i j)) := fun δ F H x y v u R Q hs hx hy h b => by
  obtain ⟨i, j, rfl, rfl, hc, hr⟩ := oI_is h
  simp only [VR, Rp] at hx hy
  exact ⟨i, j, hx, hy, hc, b.int hs hr⟩
theorem bi_I0 {g : Int → Int → Int} : BinOk K (rI0 fun i j => .int (g i j)) (oI0 fun i j => .int (g i j)) := fun δ F H x y v u R Q hs hx hy h b => by
  obtain ⟨i, j, rfl, rfl, hr⟩ := oI0_is h
  simp only [VR, Rp] at hx hy
  exact ⟨i, j, hx, hy, b.int hs hr⟩
theorem bi_B0 {g : Int → Int → Bool} : BinOk K (rI0 fun i j => .bl (g i j)) (oI0 fun i j => .bool (g i j)) := fun δ F H x y v u R Q hs hx hy h b => by
  obtain ⟨i, j, rfl, rfl, hr⟩ := oI0_is h
  simp only [VR, Rp] at hx hy
  exact ⟨i, j, hx, hy, b.bl hs hr⟩
end
end DL
namespace DL
open PySem PySem.Spec PyProof.Rows L2
variable {X : Cx} {Y : Fx}
section
variable {K : PySem.W.Frag} {F H : Hp}
mutual
theorem Rp.dp : ∀ (d : PyData) (v : V), d.canLay0 = true → Rp K H d v → Dp K H v d
  | .none, _, _, h => by simp only [Rp] at h; subst h; exact .non
  | .bool _, _, _, h => by simp only [Rp] at h; subst h; exact .bl _
  | .int _, _, _, h => by simp only [Rp] at h; subst h; exact .int _
  | .str _, _, _, h => by simp only [Rp] at h; subst h; exact .str _
  | .list ds, _, c, h => by
    simp only [Rp] at h
    obtain ⟨a, xs, rfl, h1, h2⟩ := h
    exact .lst (SqL.of h1) (Rps.dp ds xs (by simpa only [PyData.canLay0] using c) h2)
  | .tuple ds, _, c, h => by
    simp only [Rp] at h
    obtain ⟨a, xs, rfl, h1, h2⟩ := h
    exact .tup (sqtR h1) (Rps.dp ds xs (by simpa only [PyData.canLay0] using c) h2)
  | .dict _, _, c, _ => by simp [PyData.canLay0] at c
theorem Rps.dp : ∀ (ds : List PyData) (vs : List V), PyData.canLayAll0 ds = true → Rps K H ds vs → DpAll K H vs ds
  | [], _, _, h => by simp only [Rps] at h; subst h; exact .nil
  | d :: ds, _, c, h => by
    simp only [Rps] at h
    obtain ⟨v, r, rfl, h1, h2⟩ := h
    simp only [PyData.canLayAll0, Bool.and_eq_true] at c
    exact .cons (Rp.dp d v c.1 h1) (Rps.dp ds r c.2 h2)
end
end
/-- what may be compared: no dict, not too deep -/
abbrev Sh (d : PyData) : Prop := SeqAt.shaped d = true
def oEq (neg : Bool) : D2 := fun x y R => x.isDk = false ∧ y.isDk = false ∧ Sh x.toD ∧ Sh y.toD ∧ R (.bool (if neg then !PyData.eqv x.toD y.toD else PyData.eqv x.toD y.toD))
section
variable {K : PySem.W.Frag}
theorem bi_eq : BinOk K (rEqD K) (oEq false) := fun δ F H x y v u R Q hs hx hy ⟨n1, n2, s1, s2, hr⟩ b =>
  ⟨_, _, Rp.dp _ _ (SeqAt.canLay_of_shaped s1) (hx.rp hs n1), Rp.dp _ _ (SeqAt.canLay_of_shaped s2) (hy.rp hs n2), s1, s2, b.bl hs hr⟩
theorem bi_ne : BinOk K (rNeD K) (oEq true) := fun δ F H x y v u R Q hs hx hy ⟨n1, n2, s1, s2, hr⟩ b =>
  ⟨_, _, Rp.dp _ _ (SeqAt.canLay_of_shaped s1) (hx.rp hs n1), Rp.dp _ _ (SeqAt.canLay_of_shaped s2) (hy.rp hs n2), s1, s2, b.bl hs hr⟩
/-- is None, is not None; bools -/
def isN : PyData → Bool
  | .none => true
  | _ => false
def oIsN (neg : Bool) : D2 := fun x y R => y = .dat .none ∧ x.isDk = false ∧ R (.bool (if neg then !isN x.toD else isN x.toD))
theorem isN_of {F : Hp} {d : PyData} {v : V} (h : Rp K F d v) : isN d = decide (v = .non) := by
  cases d <;> simp only [Rp] at h
  case list => obtain ⟨a, xs, rfl, _⟩ := h; rfl
  case tuple => obtain ⟨a, xs, rfl, _⟩ := h; rfl
  case dict => rcases h with ⟨a, xs, rfl, _⟩ | ⟨a, _, rfl⟩ | ⟨a, _, _, _, rfl, _⟩ <;> rfl
  all_goals (subst h; rfl)
theorem bi_isN : BinOk K (fun x y H Q => y = .non ∧ Q (.bl (decide (x = .non))) H) (oIsN false) := fun δ F H x y v u R Q hs hx hy ⟨e, n, hr⟩ b => by
  subst e
  simp only [VR, Rp] at hy
  refine ⟨hy, b.bl hs ?_⟩
  rw [← isN_of (hx.rp hs n)]; exact hr
theorem bi_notN : BinOk K (fun x y H Q => y = .non ∧ Q (.bl (!decide (x = .non))) H) (oIsN true) := fun δ F H x y v u R Q hs hx hy ⟨e, n, hr⟩ b => by
  subst e
  simp only [VR, Rp] at hy
  refine ⟨hy, b.bl hs ?_⟩
  rw [← isN_of (hx.rp hs n)]; exact hr
/-- + : ints, tuples, lists -/
def oAdd : D2 := fun x y R =>
  match x.toD, y.toD with
  | .int i, .int j => R (.int (i + j))
  | .tuple xs, .tuple ys => xs.length + ys.length ≤ sizeLine ∧ R (.tuple (xs ++ ys))
  | .list xs, .list ys => xs.length + ys.length ≤ sizeLine ∧ R (.list (xs ++ ys))
  | _, _ => False
abbrev rAddA (K : PySem.W.Frag) : R2 := fun x y H Q => (rI0 (fun i j => .int (i + j)) x y H Q ∨ rCatA K x y H Q) ∨ rCat x y H Q
theorem or_addA : OpR X (binaryOp .Add) (rAddA X.K) := OpR.or (OpR.or op_add op_catA) op_cat
theorem notDeck_of {x : Dv} {d : PyData} (h : x.toD = d) (hd : d ≠ .none) : x.isDk = false := by
  cases x with
  | deck _ => exact absurd h.symm hd
  | _ => rfl
theorem bi_add : BinOk K (rAddA K) oAdd := fun δ F H x y v u R Q hs hx hy h b => by
  unfold oAdd at h
  split at h
  · rename_i i j e1 e2
    have r1 := hx.rp hs (notDeck_of e1 nofun); have r2 := hy.rp hs (notDeck_of e2 nofun)
    rw [e1] at r1; rw [e2] at r2
    simp only [Rp] at r1 r2
    exact .inl (.inl ⟨i, j, r1, r2, b.int hs h⟩)
  · rename_i xs ys e1 e2
    cases x with
    | dat d =>
      cases y with
      | dat d' =>
        simp only [Dv.toD] at e1 e2
        subst e1 e2
        simp only [VR, Rp] at hx hy
        obtain ⟨a1, l1, rfl, h1, p1⟩ := hx
        obtain ⟨a2, l2, rfl, h2, p2⟩ := hy
        have z1 := p1.length; have z2 := p2.length
        refine .inl (.inr ⟨a1, a2, l1, l2, rfl, rfl, sqtR (rdS hs h1), sqtR (rdS hs h2), by omega, fun e => ?_, fun _ e => ?_, fun _ _ p hp => ?_⟩)
        · subst e
          have : xs = [] := by simpa using z1
          subst this
          exact b.here hs h.2 (by simp only [Rp]; exact ⟨a2, l2, rfl, h2, p2⟩)
        · subst e
          have : ys = [] := by simpa using z2
          subst this
          exact b.here hs (by simpa using h.2) (by simp only [Rp]; exact ⟨a1, l1, rfl, h1, p1⟩)
        · exact b.tup hs h.2 (p1.append p2) hp
      | vw _ => simp [Dv.toD] at e2
      | mt _ => simp [Dv.toD] at e2
      | deck _ => simp [Dv.toD] at e2
      | md _ _ => simp [Dv.toD] at e2
    | vw _ => simp [Dv.toD] at e1
    | mt _ => simp [Dv.toD] at e1
    | deck _ => simp [Dv.toD] at e1
    | md _ _ => simp [Dv.toD] at e1
  · rename_i xs ys e1 e2
    have lst : ∀ {z : Dv} {w : V} {zs : List PyData}, VR K δ F H z w → z.toD = .list zs → ∃ a l, w = .ref a ∧ H a = some (.lst l) ∧ Rps K F zs l := by
      intro z w zs hz e
      cases z with
      | dat d =>
        simp only [Dv.toD] at e; subst e
        simp only [VR, Rp] at hz
        obtain ⟨a, l, e1, e2, e3⟩ := hz
        exact ⟨a, l, e1, hs _ _ e2, e3⟩
      | vw ds =>
        simp only [Dv.toD, PyData.list.injEq] at e; subst e
        obtain ⟨a, l, e1, e2, e3, _⟩ := hz
        exact ⟨a, l, e1, e2, e3⟩
      | mt _ => exact hz.elim
      | deck _ => simp [Dv.toD] at e
      | md _ _ => exact hz.elim
    obtain ⟨a1, l1, rfl, h1, p1⟩ := lst hx e1
    obtain ⟨a2, l2, rfl, h2, p2⟩ := lst hy e2
    have z1 := p1.length; have z2 := p2.length
    exact .inr ⟨a1, a2, l1, l2, rfl, rfl, h1, h2, by omega, fun p hp => b.lst hs h.2 (p1.append p2) hp⟩
  · exact h.elim
/-- the list that a value is -/
theorem VR.lst {δ : DkS} {F H : Hp} {z : Dv} {w : V} {zs : List PyData} (hs : Same F H) (hz : VR K δ F H z w) (e : z.toD = .list zs) : ∃ a l, w = .ref a ∧ H a = some (.lst l) ∧ Rps K F zs l := by
  cases z with
  | dat d =>
    simp only [Dv.toD] at e; subst e
    simp only [VR, Rp] at hz
    obtain ⟨a, l, e1, e2, e3⟩ := hz
    exact ⟨a, l, e1, hs _ _ e2, e3⟩
  | vw ds =>
    simp only [Dv.toD, PyData.list.injEq] at e; subst e
    obtain ⟨a, l, e1, e2, e3, _⟩ := hz
    exact ⟨a, l, e1, e2, e3⟩
  | mt _ => exact hz.elim
  | deck _ => simp [Dv.toD] at e
  | md _ _ => exact hz.elim
theorem VR.tpl {δ : DkS} {F H : Hp} {z : Dv} {w : V} {zs : List PyData} (hs : Same F H) (hz : VR K δ F H z w) (e : z.toD = .tuple zs) : ∃ a l, w = .ref a ∧ Rd F a (.tup l) ∧ Rps K F zs l := by
  cases z with
  | dat d =>
    simp only [Dv.toD] at e; subst e
    simpa only [VR, Rp] using hz
  | vw ds => simp [Dv.toD] at e
  | mt _ => exact hz.elim
  | deck _ => simp [Dv.toD] at e
  | md _ _ => exact hz.elim
/-- * : ints (one of them small), a list, a tuple by a number -/
def oMul : D2 := fun x y R =>
  match x.toD, y.toD with
  | .int i, .int j => CMul i j ∧ R (.int (i * j))
  | .list xs, .int k => -(2 ^ 63) ≤ k ∧ k < 2 ^ 63 ∧ xs.length * k.toNat ≤ sizeLine ∧ R (.list (List.replicate k.toNat xs).flatten)
  | _, _ => False
theorem Rps.at {F : Hp} {ds : List PyData} {vs : List V} (r : Rps K F ds vs) {i : Int} {d : PyData} (h : atI ds i = some d) : ∃ v, atI vs i = some v ∧ Rp K F d v := by
  unfold atI at h ⊢
  rw [← r.length]
  obtain ⟨j, e1, e2⟩ := Option.bind_eq_some_iff.mp h
  obtain ⟨v, e3, e4⟩ := r.get e2
  exact ⟨v, by rw [e1]; exact e3, e4⟩
def oIx : D2 := fun x y R =>
  match x.toD with
  | .list ds => ∃ i d, y = .dat (.int i) ∧ atI ds i = some d ∧ R d
  | .tuple ds => ∃ i d, y = .dat (.int i) ∧ atI ds i = some d ∧ R d
  | _ => False
theorem bi_ix : BinOk K (rIx K) oIx := fun δ F H x y v u R Q hs hx hy h b => by
  unfold oIx at h
  split at h
  · rename_i ds e
    obtain ⟨a, l, rfl, h1, h2⟩ := hx.lst hs e
    obtain ⟨i, d, rfl, h3, hr⟩ := h
    simp only [VR, Rp] at hy
    obtain ⟨w, e1, e2⟩ := h2.at h3
    exact .inl ⟨a, l, i, w, rfl, hy, SqL.of h1, e1, b.here hs hr e2⟩
  · rename_i ds e
    obtain ⟨a, l, rfl, h1, h2⟩ := hx.tpl hs e
    obtain ⟨i, d, rfl, h3, hr⟩ := h
    simp only [VR, Rp] at hy
    obtain ⟨w, e1, e2⟩ := h2.at h3
    exact .inr (.inl ⟨a, l, i, w, rfl, hy, sqtR (rdS hs h1), e1, b.here hs hr e2⟩)
  · exact h.elim
end
theorem we_ix {a b : Expr} {t u : DTE} {pos : Pos} (ha : WE Y X a t) (hb : WE Y X b u) (hs : PlainIx b) : WE Y X (.Subscript a b pos) (dBin oIx t u) := pe_imp (pe_ix ix_seq ha hb hs) (two bi_ix)
abbrev DTO := Rho → Wo → (Option Int → Wo → Prop) → Prop
def upO (Y : Fx) (K : PySem.W.Frag) (t : DTO) : TO := fun σ H Q => ∃ Z F ρ n R, SR Y K Z F H σ ρ n ∧ t ρ n R ∧
  ∀ x n' F' H', R x n' → Gr Z.δ F H F' H' → Same F' H' → Z.δ.at_ K F' H' n' → Q x H'
abbrev WO (Y : Fx) (X : Cx) (e : Option Expr) (t : DTO) : Prop := PO X e (upO Y X.K t)
theorem po_imp {e : Option Expr} {t t' : TO} (h : PO X e t) (q : ∀ σ H Q, t' σ H Q → t σ H Q) : PO X e t' := ⟨fun p s σ H Q I w => h.run p s σ H Q I (q σ H Q w)⟩
def dNo : DTO := fun _ n R => R none n
def dSome (t : DTE) : DTO := fun ρ n R => t ρ n fun x n' => ∃ i, x = .dat (.int i) ∧ R (some i) n'
theorem wo_none : WO Y X none dNo := po_imp po_none fun σ H Q ⟨Z, F, ρ, n, R, r, hr, k⟩ => k _ _ _ _ hr Gr.refl r.b.sub r.b.dk
theorem wo_some {e : Expr} {t : DTE} (h : WE Y X e t) : WO Y X (some e) (dSome t) := po_imp (po_some h) fun σ H Q ⟨Z, F, ρ, n, R, r, ht, k⟩ =>
  ⟨Z, F, ρ, n, _, r, ht, fun x n1 F1 H1 v ⟨i, e, hx⟩ g1 s1 d1 w1 => by
    subst e
    simp only [VR, Rp] at w1
    exact ⟨i, w1, k _ _ _ _ hx g1 s1 d1⟩⟩
def cutG {α : Type} (xs : List α) (lo hi : Option Int) : List α := (xs.drop (HT.sIx xs.length 0 lo)).take (HT.sIx xs.length xs.length hi - HT.sIx xs.length 0 lo)
theorem Rps.cut {K : PySem.W.Frag} {F : Hp} {ds : List PyData} {vs : List V} (r : Rps K F ds vs) (lo hi : Option Int) : Rps K F (cutG ds lo hi) (cutV vs lo hi) := by
  unfold cutG cutV
  rw [r.length]
  exact Rps.take _ (Rps.drop _ r)
def oSl (x : Dv) (lo hi : Option Int) (R : PyData → Prop) : Prop :=
  match x.toD with
  | .list ds => R (.list (cutG ds lo hi))
  | .tuple ds => R (.tuple (cutG ds lo hi))
  | _ => False
def dSl (t : DTE) (l h : DTO) : DTE := fun ρ n R => t ρ n fun x n1 => l ρ n1 fun lo n2 => h ρ n2 fun hi n3 => oSl x lo hi fun d => R (.dat d) n3
theorem cut_whole {α : Type} {xs : List α} {lo hi : Option Int} (h : HT.sIx xs.length 0 lo = 0 ∧ HT.sIx xs.length xs.length hi = xs.length) : cutG xs lo hi = xs := by
  unfold cutG
  rw [h.1, h.2]
  simp
theorem we_slice {e : Expr} {lo hi : Option Expr} {t : DTE} {l h : DTO} {pos p2 : Pos} (he : WE Y X e t) (hl : WO Y X lo l) (hh : WO Y X hi h) : WE Y X (.Subscript e (.Slice lo hi none p2) pos) (dSl t l h) :=
  pe_imp (pe_slice (SlR.or sl_list sl_tupA) he hl hh) fun σ H Q ⟨Z, F, ρ, n, R, r, ht, k⟩ =>
    ⟨Z, F, ρ, n, _, r, ht, fun x n1 F1 H1 v hx g1 s1 d1 w1 => ⟨Z, F1, ρ, n1, _, r.step g1 s1 d1, hx, fun lo n2 F2 H2 hlo g2 s2 d2 => ⟨Z, F2, ρ, n2, _, (r.step g1 s1 d1).step g2 s2 d2, hlo, fun hi n3 F3 H3 hhi g3 s3 d3 => by
      have w3 : VR X.K Z.δ F3 H3 x v := (w1.step g2).step g3
      have b : Back X.K F3 H3 (fun d => R (.dat d) n3) Q := fun d F4 H4 v4 h4 g4 s4 w4 =>
        k _ _ _ _ _ h4 (((g1.trans g2).trans g3).trans g4.gr) s4 (g4.dk ((((r.step g1 s1 d1).step g2 s2 d2).step g3 s3 d3).b)) w4
      unfold oSl at hhi
      split at hhi
      · rename_i ds e
        obtain ⟨a, xs, rfl, h1, h2⟩ := w3.lst s3 e
        exact .inl ⟨a, xs, rfl, SqL.of h1, fun p hp => b.lst s3 hhi (h2.cut lo hi) hp⟩
      · rename_i ds e
        obtain ⟨a, xs, rfl, h1, h2⟩ := w3.tpl s3 e
        refine .inr ⟨a, xs, rfl, sqtR (rdS s3 h1), fun q => ?_, fun _ p hp => b.tup s3 hhi (h2.cut lo hi) hp⟩
        rw [cut_whole (by rw [h2.length]; exact q)] at hhi
        exact b.here s3 hhi (by simp only [Rp]; exact ⟨a, xs, rfl, h1, h2⟩)
      · exact hhi.elim⟩⟩⟩
/-- xs[::-1] of a list -/
def oRevL (x : Dv) (R : PyData → Prop) : Prop := ∃ ds, x.toD = .list ds ∧ R (.list ds.reverse)
def dUn (o : Dv → (PyData → Prop) → Prop) (t : DTE) : DTE := fun ρ n R => t ρ n fun x n1 => o x fun d => R (.dat d) n1
theorem one {K : PySem.W.Frag} {r : V → Hp → VK → Prop} {o : Dv → (PyData → Prop) → Prop} {t : DTE} (hr : ∀ δ F H x v R Q, Same F H → VR K δ F H x v → o x R → Back K F H R Q → r v H Q) :
    ∀ σ H Q, up Y K (dUn o t) σ H Q → up Y K t σ H fun x H1 => r x H1 Q := fun σ H Q ⟨Z, F, ρ, n, R, s, ht, k⟩ =>
  ⟨Z, F, ρ, n, _, s, ht, fun x n1 F1 H1 v hx g1 s1 d1 w1 => hr Z.δ F1 H1 x v _ Q s1 w1 hx fun d F2 H2 v2 h2 g2 s2 w2 =>
    k _ _ _ _ _ h2 (g1.trans g2.gr) s2 (g2.dk ((s.step g1 s1 d1).b)) w2⟩
theorem we_revL {e : Expr} {t : DTE} {pos p1 p2 p3 : Pos} {k : Nat} (he : WE Y X e t) : WE Y X (.Subscript e (.Slice none none (some (.UnaryOp .USub (.Constant (.int 1) k p1) p2)) p3) pos) (dUn oRevL t) :=
  pe_imp (pe_revL he) (one (r := fun x H1 Q => ∃ a xs, x = .ref a ∧ SqL X.K H1 a xs ∧ ∀ p, H1 p = none → Q (.ref p) (upd H1 p (.lst xs.reverse))) fun δ F H x v R Q hs hx ⟨ds, e, hr⟩ b => by
    obtain ⟨a, xs, rfl, h1, h2⟩ := hx.lst hs e
    exact ⟨a, xs, rfl, SqL.of h1, fun p hp => b.lst hs hr h2.rev hp⟩)
def asB (x : Dv) (R : Bool → Prop) : Prop :=
  match x with
  | .dat (.bool c) => R c
  | _ => False
theorem asB_is {x : Dv} {R : Bool → Prop} (h : asB x R) : ∃ c, x = .dat (.bool c) ∧ R c := by
  unfold asB at h
  split at h
  · exact ⟨_, rfl, h⟩
  · exact h.elim
def dAnd (t u : DTE) : DTE := fun ρ n R => t ρ n fun x n1 => asB x fun c => if c = true then u ρ n1 R else R (.dat (.bool false)) n1
theorem we_one {op} {a : Expr} {t : DTE} {pos : Pos} (h : WE Y X a t) : WE Y X (.BoolOp op [a] pos) t := pe_one h
theorem we_and {a b : Expr} {rest : List Expr} {t u : DTE} {pos : Pos} (ha : WE Y X a t) (hb : WE Y X (.BoolOp .And (b :: rest) pos) u) : WE Y X (.BoolOp .And (a :: b :: rest) pos) (dAnd t u) :=
  pe_imp (pe_and ha hb) fun σ H Q ⟨Z, F, ρ, n, R, r, ht, k⟩ => ⟨Z, F, ρ, n, _, r, ht, fun x n1 F1 H1 v hx g1 s1 d1 w1 => by
    obtain ⟨c, rfl, hx⟩ := asB_is hx
    simp only [VR, Rp] at w1
    refine ⟨c, w1, ?_⟩
    cases c with
    | true => exact ⟨Z, F1, ρ, n1, _, r.step g1 s1 d1, hx, fun y n2 F2 H2 v2 hy g2 s2 d2 w2 => k _ _ _ _ _ hy (g1.trans g2) s2 d2 w2⟩
    | false => exact k _ _ _ _ _ hx g1 s1 d1 (by simp [VR, Rp])⟩
def oNot (x : Dv) (R : PyData → Prop) : Prop := asB x fun c => R (.bool (!c))
theorem we_not {a : Expr} {t : DTE} {pos : Pos} (ha : WE Y X a t) : WE Y X (.UnaryOp .Not a pos) (dUn oNot t) :=
  pe_imp (pe_not ha) (one (r := fun x H1 Q => ∃ c, x = .bl c ∧ Q (.bl (!c)) H1) fun δ F H x v R Q hs hx h b => by
    obtain ⟨c, rfl, hr⟩ := asB_is h
    simp only [VR, Rp] at hx
    exact ⟨c, hx, b.bl hs hr⟩)
def dIf (c : DTT) (t u : DTE) : DTE := fun ρ n R => c ρ n fun b n1 => if b = true then t ρ n1 R else u ρ n1 R
theorem we_if {c a b : Expr} {tc : DTT} {t u : DTE} {pos : Pos} (hc : WT Y X c tc) (ha : WE Y X a t) (hb : WE Y X b u) : WE Y X (.IfExp c a b pos) (dIf tc t u) :=
  pe_imp (pe_ifExp hc ha hb) fun σ H Q ⟨Z, F, ρ, n, R, r, ht, k⟩ => ⟨Z, F, ρ, n, _, r, ht, fun c n1 F1 H1 hx g1 s1 d1 => by
    cases c with
    | true => exact ⟨Z, F1, ρ, n1, _, r.step g1 s1 d1, hx, fun y n2 F2 H2 v2 hy g2 s2 d2 w2 => k _ _ _ _ _ hy (g1.trans g2) s2 d2 w2⟩
    | false => exact ⟨Z, F1, ρ, n1, _, r.step g1 s1 d1, hx, fun y n2 F2 H2 v2 hy g2 s2 d2 w2 => k _ _ _ _ _ hy (g1.trans g2) s2 d2 w2⟩⟩
abbrev WW (Y : Fx) (X : Cx) (e : Expr) (t : DTT) : Prop := PW X e (upT Y X.K t)
theorem pw_imp {e : Expr} {t t' : TT} (h : PW X e t) (q : ∀ σ H Q, t' σ H Q → t σ H Q) : PW X e t' := ⟨fun wh p s σ H Q I w => h.run wh p s σ H Q I (q σ H Q w)⟩
theorem wt_val {e : Expr} {t : DTE} (h : WE Y X e t) (he : ∀ whole, isTrue e X.env whole = (do let v ← whole; standAt e.pos; holding [v] (truthy v)) := by intro _; rfl) : WT Y X e (dTst t) :=
  pt_imp (pt_val h he) fun σ H Q ⟨Z, F, ρ, n, R, s, ht, k⟩ => ⟨Z, F, ρ, n, _, s, ht, fun x n1 F1 H1 v ⟨c, e, hx⟩ g1 s1 d1 w1 => by
    subst e
    simp only [VR, Rp] at w1
    exact ⟨c, w1, k _ _ _ _ hx g1 s1 d1⟩⟩
def oTru (x : Dv) (R : Bool → Prop) : Prop :=
  match x.toD with
  | .list ds => R (!ds.isEmpty)
  | .tuple ds => R (!ds.isEmpty)
  | .bool b => R b
  | .int i => R (i != 0)
  | _ => False
def dTru (t : DTE) : DTT := fun ρ n R => t ρ n fun x n1 => oTru x fun c => R c n1
theorem Rps.isEmpty {K : PySem.W.Frag} {F : Hp} {ds : List PyData} {vs : List V} (r : Rps K F ds vs) : ds.isEmpty = vs.isEmpty := by
  have h := r.length
  cases ds <;> cases vs <;> simp at h ⊢
theorem wt_tru {e : Expr} {t : DTE} (h : WE Y X e t) (he : ∀ whole, isTrue e X.env whole = (do let v ← whole; standAt e.pos; holding [v] (truthy v)) := by intro _; rfl) : WT Y X e (dTru t) :=
  pt_imp (pt_truth h he) fun σ H Q ⟨Z, F, ρ, n, R, s, ht, k⟩ => ⟨Z, F, ρ, n, _, s, ht, fun x n1 F1 H1 v hx g1 s1 d1 w1 => by
    unfold oTru at hx
    split at hx
    · rename_i ds e
      obtain ⟨a, xs, rfl, h1, h2⟩ := w1.lst s1 e
      exact ⟨_, .inl ⟨xs, SqL.of h1, rfl⟩, by rw [← h2.isEmpty]; exact k _ _ _ _ hx g1 s1 d1⟩
    · rename_i ds e
      obtain ⟨a, xs, rfl, h1, h2⟩ := w1.tpl s1 e
      exact ⟨_, .inr (.inl ⟨xs, sqtR (rdS s1 h1), rfl⟩), by rw [← h2.isEmpty]; exact k _ _ _ _ hx g1 s1 d1⟩
    · rename_i b e
      have r1 := w1.rp s1 (notDeck_of e nofun)
      rw [e] at r1; simp only [Rp] at r1; subst r1
      exact ⟨_, rfl, k _ _ _ _ hx g1 s1 d1⟩
    · rename_i i e
      have r1 := w1.rp s1 (notDeck_of e nofun)
      rw [e] at r1; simp only [Rp] at r1; subst r1
      exact ⟨_, rfl, k _ _ _ _ hx g1 s1 d1⟩
    · exact hx.elim⟩
def dTAnd (t u : DTT) : DTT := fun ρ n R => t ρ n fun c n1 => if c = true then u ρ n1 R else R false n1
def dTOr (t u : DTT) : DTT := fun ρ n R => t ρ n fun c n1 => if c = true then R true n1 else u ρ n1 R
def dTNot (t : DTT) : DTT := fun ρ n R => t ρ n fun c n1 => R (!c) n1
theorem ww_and1 {a : Expr} {t : DTT} {pos : Pos} (ha : WT Y X a t) : WW Y X (.BoolOp .And [a] pos) t := pw_and1 ha
theorem ww_or1 {a : Expr} {t : DTT} {pos : Pos} (ha : WT Y X a t) : WW Y X (.BoolOp .Or [a] pos) t := pw_or1 ha
theorem ww_and {a b : Expr} {rest : List Expr} {t u : DTT} {pos : Pos} (ha : WT Y X a t) (hb : WW Y X (.BoolOp .And (b :: rest) pos) u) : WW Y X (.BoolOp .And (a :: b :: rest) pos) (dTAnd t u) :=
  pw_imp (pw_and ha hb) fun σ H Q ⟨Z, F, ρ, n, R, r, ht, k⟩ => ⟨Z, F, ρ, n, _, r, ht, fun c n1 F1 H1 hx g1 s1 d1 => by
    cases c with
    | true => exact ⟨Z, F1, ρ, n1, _, r.step g1 s1 d1, hx, fun y n2 F2 H2 hy g2 s2 d2 => k _ _ _ _ hy (g1.trans g2) s2 d2⟩
    | false => exact k _ _ _ _ hx g1 s1 d1⟩
theorem ww_or {a b : Expr} {rest : List Expr} {t u : DTT} {pos : Pos} (ha : WT Y X a t) (hb : WW Y X (.BoolOp .Or (b :: rest) pos) u) : WW Y X (.BoolOp .Or (a :: b :: rest) pos) (dTOr t u) :=
  pw_imp (pw_or ha hb) fun σ H Q ⟨Z, F, ρ, n, R, r, ht, k⟩ => ⟨Z, F, ρ, n, _, r, ht, fun c n1 F1 H1 hx g1 s1 d1 => by
    cases c with
    | false => exact ⟨Z, F1, ρ, n1, _, r.step g1 s1 d1, hx, fun y n2 F2 H2 hy g2 s2 d2 => k _ _ _ _ hy (g1.trans g2) s2 d2⟩
    | true => exact k _ _ _ _ hx g1 s1 d1⟩
theorem wt_w {e : Expr} {t : DTT} (h : WW Y X e t) : WT Y X e t := h.pt
theorem wt_not {a : Expr} {t : DTT} {pos : Pos} (ha : WT Y X a t) : WT Y X (.UnaryOp .Not a pos) (dTNot t) :=
  pt_imp (pt_not ha) fun σ H Q ⟨Z, F, ρ, n, R, r, ht, k⟩ => ⟨Z, F, ρ, n, _, r, ht, fun c n1 F1 H1 hx g1 s1 d1 => k _ _ _ _ hx g1 s1 d1⟩
end DL
namespace DL
open PySem PySem.Spec PyProof.Rows L2
variable {X : Cx} {Y : Fx}
def VX (K : PySem.W.Frag) (Hs F H : Hp) : Dv → V → Prop
  | .dat d, v => Rp K F d v
  | .mt ds, v => ∃ p vs, v = .ref p ∧ Hs p = none ∧ F p = none ∧ H p = some (.lst vs) ∧ Rps K F ds vs
  | .md a ks, v => v = .ref a ∧ Hs a = none ∧ F a = none ∧ H a = some (.dK ks)
  | _, _ => False
def upX (Y : Fx) (K : PySem.W.Frag) (t : DTE) : TE := fun σ H Q => ∃ Z F ρ n R, SR Y K Z F H σ ρ n ∧ t ρ n R ∧
  ∀ x n' F' H' v, R x n' → Gr Z.δ F H F' H' → Same F' H' → Z.δ.at_ K F' H' n' → VX K H F' H' x v → Q v H'
abbrev XE (Y : Fx) (X : Cx) (e : Expr) (t : DTE) : Prop := PE X e (upX Y X.K t)
def xD (t : DTE) : DTE := fun ρ n R => t ρ n fun x n' => needD x fun d => R (.dat d) n'
def xM (t : DTM) : DTE := fun ρ n R => t ρ n fun ds n' => R (.mt ds) n'
theorem xe_d {e : Expr} {t : DTE} (h : WE Y X e t) : XE Y X e (xD t) := pe_imp h fun σ H Q ⟨Z, F, ρ, n, R, r, ht, k⟩ =>
  ⟨Z, F, ρ, n, _, r, ht, fun x n1 F1 H1 v hx g1 s1 d1 w1 => by
    obtain ⟨d, rfl, hx⟩ := needD_is hx
    exact k _ _ _ _ _ hx g1 s1 d1 w1⟩
theorem xe_m {e : Expr} {t : DTM} (h : ME Y X e t) : XE Y X e (xM t) := pe_imp h fun σ H Q ⟨Z, F, ρ, n, R, r, ht, k⟩ =>
  ⟨Z, F, ρ, n, _, r, ht, fun ds n1 F1 H1 p vs hx g1 s1 d1 a b c d => k _ _ _ _ _ hx g1 s1 d1 ⟨p, vs, rfl, a, b, c, d⟩⟩
theorem VX.step {K : PySem.W.Frag} {δ : DkS} {Hs F H F' H' : Hp} {x : Dv} {v : V} (hs : ∀ a, a ∈ δ.own → Hs a ≠ none) (g : Gr δ F H F' H') (h : VX K Hs F H x v) : VX K Hs F' H' x v := by
  cases x with
  | dat d => exact Rp.mono g.sF d v h
  | mt ds =>
    obtain ⟨p, vs, rfl, a, b, c, d⟩ := h
    exact ⟨p, vs, rfl, a, g.nF p (by rw [c]; nofun) b, g.kH p _ (fun q => hs p q a) c rfl, Rps.mono g.sF ds vs d⟩
  | vw _ => exact h
  | deck _ => exact h
  | md a ks =>
    obtain ⟨e, h1, h2, h3⟩ := h
    exact ⟨e, h1, g.nF a (by rw [h3]; nofun) h2, g.kH a _ (fun q => hs a q h1) h3 rfl⟩
section
variable {K : PySem.W.Frag} {Y Z : Fx} {F H : Hp} {σ : L2.St} {ρ : Rho} {n : Wo}
theorem SR.set (r : SR Y K Z F H σ ρ n) (i : Nat) {x : Dv} {v : V} {Hs : Hp} (hx : VX K Hs F H x v) (h0 : ∀ p, Hs p = none → Z.H0 p = none ∧ p ∉ Z.δ.own) (hi : ∀ p, Hs p = none → ∀ (j : Nat) (y : Dv), j ≠ i → ρ[j]? = some (some y) → y.isL = true → σ[j]? ≠ some (some (.ref p))) :
    SR Y K Z F H (σ.set i (some v)) (ρ.set i (some x)) n where
  b := r.b
  de := r.de
  he := r.he
  gr := r.gr
  len := by simp [r.len]
  slot := fun j y e => by
    by_cases q : i = j
    · subst q
      by_cases hl : i < ρ.length
      · rw [List.getElem?_set_self hl] at e
        cases e
        refine ⟨v, List.getElem?_set_self (by rw [← r.len]; exact hl), ?_⟩
        cases x with
        | dat d => exact hx
        | mt ds =>
          obtain ⟨p, vs, rfl, a, b, c, d⟩ := hx
          exact ⟨p, vs, rfl, (h0 p a).1, b, c, d, (h0 p a).2⟩
        | vw _ => exact hx.elim
        | deck _ => exact hx.elim
        | md a ks =>
          obtain ⟨e, h1, h2, h3⟩ := hx
          exact ⟨e, (h0 a h1).1, h2, h3, (h0 a h1).2⟩
      · rw [List.getElem?_eq_none (by rw [List.length_set]; omega)] at e
        cases e
    · rw [List.getElem?_set_ne q] at e
      obtain ⟨w, e1, e2⟩ := r.slot j y e
      exact ⟨w, by rw [List.getElem?_set_ne q]; exact e1, e2⟩
  apart := fun j k a ds y hjk e1 e2 e3 hy e4 => by
    by_cases q : i = j
    · subst q
      by_cases hl : i < ρ.length
      · rw [List.getElem?_set_self hl] at e1
        rw [List.getElem?_set_self (by rw [← r.len]; exact hl)] at e2
        cases e1; cases e2
        rw [List.getElem?_set_ne hjk] at e3 e4
        obtain ⟨p, vs, e5, a', b, c, d⟩ := hx
        cases e5
        exact hi _ a' k y (Ne.symm hjk) e3 hy e4
      · rw [List.getElem?_eq_none (by rw [List.length_set]; omega)] at e1
        cases e1
    · rw [List.getElem?_set_ne q] at e1 e2
      by_cases q2 : i = k
      · subst q2
        by_cases hl : i < ρ.length
        · rw [List.getElem?_set_self hl] at e3
          rw [List.getElem?_set_self (by rw [← r.len]; exact hl)] at e4
          cases e3; cases e4
          cases x with
          | dat d => simp [Dv.isL] at hy
          | mt ds' =>
            obtain ⟨p, vs, e5, a', b, c, d⟩ := hx
            cases e5
            exact hi _ a' j (.mt ds) hjk e1 rfl e2
          | vw _ => exact hx.elim
          | deck _ => exact hx.elim
          | md _ _ => simp [Dv.isL] at hy
        · rw [List.getElem?_eq_none (by rw [List.length_set]; omega)] at e3
          cases e3
      · rw [List.getElem?_set_ne q2] at e3 e4
        exact r.apart j k a ds y hjk e1 e2 e3 hy e4
/-- a slot that is a list's lies in the heap -/
theorem SR.inH (r : SR Y K Z F H σ ρ n) {j : Nat} {y : Dv} {p : Addr} (e : ρ[j]? = some (some y)) (hy : y.isL = true) (e2 : σ[j]? = some (some (.ref p))) : H p ≠ none := by
  obtain ⟨v, e3, e4⟩ := r.slot j y e
  rw [e2] at e3; cases e3
  cases y with
  | dat _ => simp [Dv.isL] at hy
  | deck _ => simp [Dv.isL] at hy
  | md _ _ => simp [Dv.isL] at hy
  | vw ds =>
    obtain ⟨a, vs, q, h, _⟩ := e4
    cases q; rw [h]; nofun
  | mt ds =>
    obtain ⟨a, vs, q, _, _, h, _⟩ := e4
    cases q; rw [h]; nofun
/-- .. where it was made in an expression that began at Hs -/
theorem SR.fresh (r : SR Y K Z F H σ ρ n) {p : Addr} (h : H p = none) : Z.H0 p = none ∧ p ∉ Z.δ.own := by
  have n1 : p ∉ Z.δ.own := fun q => (r.b.dkF p q).2 h
  refine ⟨?_, n1⟩
  cases e : Z.H0 p with
  | none => rfl
  | some o => exact absurd h (r.b.gD p (by rw [e]; nofun))
theorem SR.setX (r0 : SR Y K Z F H σ ρ n) {F' H' : Hp} {n' : Wo} (r : SR Y K Z F' H' σ ρ n') (i : Nat) {x : Dv} {v : V} (hx : VX K H F' H' x v) : SR Y K Z F' H' (σ.set i (some v)) (ρ.set i (some x)) n' :=
  r.set i hx (fun p h => r0.fresh h) fun p h j y _ e hy e2 => r0.inH e hy e2 h
end
structure DEnds where
  nx : Rho → Wo → Prop
  rt : PyData → Wo → Prop
  bk : Rho → Wo → Prop := fun _ _ => False
  ct : Rho → Wo → Prop := fun _ _ => False
abbrev DTS := DEnds → Rho → Wo → Prop
structure EndsOk (Y : Fx) (K : PySem.W.Frag) (Z : Fx) (E : DEnds) (D : Ends) : Prop where
  nx : ∀ F H σ ρ n, E.nx ρ n → SR Y K Z F H σ ρ n → D.nx σ H
  rt : ∀ d n F H v, E.rt d n → Base K Z F H n → Rp K F d v → D.rt v H
  bk : ∀ F H σ ρ n, E.bk ρ n → SR Y K Z F H σ ρ n → D.bk σ H
  ct : ∀ F H σ ρ n, E.ct ρ n → SR Y K Z F H σ ρ n → D.ct σ H
def upS (Y : Fx) (K : PySem.W.Frag) (t : DTS) : TS := fun D σ H => ∃ Z F ρ n E, SR Y K Z F H σ ρ n ∧ t E ρ n ∧ EndsOk Y K Z E D
abbrev DS (Y : Fx) (X : Cx) (st : Stmt) (t : DTS) : Prop := PS X st (upS Y X.K t)
abbrev DSs (Y : Fx) (X : Cx) (st : List Stmt) (t : DTS) : Prop := PSs X st (upS Y X.K t)
def dSkip : DTS := fun E ρ n => E.nx ρ n
def dSeq (t u : DTS) : DTS := fun E ρ n => t { E with nx := u E } ρ n
theorem dss_nil : DSs Y X [] dSkip := pss_imp pss_nil fun D σ H ⟨Z, F, ρ, n, E, r, ht, k⟩ => k.nx _ _ _ _ _ ht r
theorem dss_cons {st : Stmt} {rest : List Stmt} {t u : DTS} (h1 : DS Y X st t) (h2 : DSs Y X rest u) : DSs Y X (st :: rest) (dSeq t u) :=
  pss_imp (pss_cons h1 h2) fun D σ H ⟨Z, F, ρ, n, E, r, ht, k⟩ => ⟨Z, F, ρ, n, _, r, ht, ⟨fun F' H' σ' ρ' n' h r' => ⟨Z, F', ρ', n', E, r', h, k⟩, k.rt, k.bk, k.ct⟩⟩
theorem dss_one {st : Stmt} {t : DTS} (h : DS Y X st t) : DSs Y X [st] t := pss_one h
theorem ds_pass {pos : Pos} : DS Y X (.Pass pos) dSkip := ps_imp ps_pass fun D σ H ⟨Z, F, ρ, n, E, r, ht, k⟩ => k.nx _ _ _ _ _ ht r
def dRet (t : DTE) : DTS := fun E ρ n => t ρ n fun x n' => needD x fun d => E.rt d n'
theorem ds_ret {e : Expr} {t : DTE} {pos : Pos} (he : WE Y X e t) : DS Y X (.Return (some e) pos) (dRet t) :=
  ps_imp (ps_ret he) fun D σ H ⟨Z, F, ρ, n, E, r, ht, k⟩ => ⟨Z, F, ρ, n, _, r, ht, fun x n1 F1 H1 v hx g1 s1 d1 w1 => by
    obtain ⟨d, rfl, hx⟩ := needD_is hx
    exact k.rt _ _ _ _ _ hx (r.b.step g1 s1 d1) w1⟩
def dDrop (t : DTE) : DTS := fun E ρ n => t ρ n fun _ n' => E.nx ρ n'
theorem ds_expr {e : Expr} {t : DTE} {pos : Pos} (he : WE Y X e t) (hs : swapsWith e none pos.line X.env = pure false := by rfl) : DS Y X (.Expr e pos) (dDrop t) :=
  ps_imp (ps_expr he hs) fun D σ H ⟨Z, F, ρ, n, E, r, ht, k⟩ => ⟨Z, F, ρ, n, _, r, ht, fun x n1 F1 H1 v hx g1 s1 d1 w1 => k.nx _ _ _ _ _ hx (r.step g1 s1 d1)⟩
def dIfS (c : DTT) (t u : DTS) : DTS := fun E ρ n => c ρ n fun b n' => if b = true then t E ρ n' else u E ρ n'
theorem ds_if {c : Expr} {a b : List Stmt} {tc : DTT} {t u : DTS} {pos : Pos} (hc : WT Y X c tc) (ha : DSs Y X a t) (hb : DSs Y X b u) : DS Y X (.If c a b pos) (dIfS tc t u) :=
  ps_imp (ps_if hc ha hb) fun D σ H ⟨Z, F, ρ, n, E, r, ht, k⟩ => ⟨Z, F, ρ, n, _, r, ht, fun c n1 F1 H1 hx g1 s1 d1 => by
    cases c with
    | true => exact ⟨Z, F1, ρ, n1, E, r.step g1 s1 d1, hx, k⟩
    | false => exact ⟨Z, F1, ρ, n1, E, r.step g1 s1 d1, hx, k⟩⟩
/-- name = value -/
def dAsg (i : Nat) (t : DTE) : DTS := fun E ρ n => t ρ n fun x n' => E.nx (ρ.set i (some x)) n'
theorem asg_im {i : Nat} {K : PySem.W.Frag} {t : DTE} : ∀ D σ H, upS Y K (dAsg i t) D σ H → tAsg (upX Y K t) (gName i) D σ H := fun D σ H ⟨Z, F, ρ, n, E, r, ht, k⟩ =>
  ⟨Z, F, ρ, n, _, r, ht, fun x n1 F1 H1 v hx g1 s1 d1 w1 => k.nx _ _ _ _ _ hx (r.setX (r.step g1 s1 d1) i w1)⟩
theorem ds_set {i : Nat} {x : Str} {e : Expr} {t : DTE} {pos pos' : Pos} (hN : X.N.Nodup) (hi : X.N[i]? = some x) (hx : Loc X.env.scope x) (he : XE Y X e t) (hs : swapsWith e (some (.Name x pos')) pos.line X.env = pure false := by rfl)
    (hf : X.fn x = true ∨ X.env.scope.names.lookup x = some .local := by first | exact .inl rfl | exact .inr rfl | assumption) : DS Y X (.Assign [.Name x pos'] e pos) (dAsg i t) := ps_imp (ps_set hN hi hx he hs hf) asg_im
theorem SR.freeze {K : PySem.W.Frag} {Y Z : Fx} {F H : Hp} {σ : L2.St} {ρ : Rho} {n : Wo} (r : SR Y K Z F H σ ρ n) {j : Nat} {ds : List PyData} (e : ρ[j]? = some (some (.mt ds))) :
    ∃ F' a, σ[j]? = some (some (.ref a)) ∧ SR Y K Z F' H σ (ρ.set j (some (.dat (.list ds)))) n ∧ Rp K F' (.list ds) (.ref a) ∧ Same F F' := by
  obtain ⟨v, e1, a, vs, rfl, h0, hF, hH, hr, na⟩ := r.slot j _ e
  have s1 : Same F (upd F a (.lst vs)) := fun b o q => by rw [upd_ne (ne_of_none q hF)]; exact q
  have hrp : Rp K (upd F a (.lst vs)) (.list ds) (.ref a) := by
    simp only [Rp]
    exact ⟨a, vs, rfl, upd_same, Rps.mono s1 ds vs hr⟩
  refine ⟨upd F a (.lst vs), a, e1, ⟨⟨fun b o q => ?_, r.b.dk.fz hH rfl hF, fun b hb => ⟨?_, (r.b.dkF b hb).2⟩, r.b.gF.trans s1, fun b q1 q2 => ?_, r.b.gH, r.b.gI⟩, r.de, r.he, ⟨r.gr.sF.trans s1, fun b q1 q2 => by rw [upd_ne (fun z => q1 (by rw [z, ← r.he]; exact h0))]; exact r.gr.nF b q1 q2, r.gr.kH, r.gr.iH, r.gr.dH⟩, by simp [r.len], fun k y q => ?_, fun k l b es y hkl q1 q2 q3 hy q4 => ?_⟩, hrp, s1⟩
  · by_cases z : b = a
    · subst z; rw [upd_same] at q; cases q; exact hH
    · rw [upd_ne z] at q; exact r.b.sub _ _ q
  · rw [upd_ne (fun z => na (by rw [← z]; exact hb))]; exact (r.b.dkF b hb).1
  · rw [upd_ne (fun z => q1 (by rw [z]; exact h0))]; exact r.b.gN b q1 q2
  · by_cases z : j = k
    · subst z
      have hl : j < ρ.length := (List.getElem?_eq_some_iff.mp e).1
      rw [List.getElem?_set_self hl] at q
      cases q
      exact ⟨_, e1, hrp⟩
    · rw [List.getElem?_set_ne z] at q
      obtain ⟨w, w1, w2⟩ := r.slot k y q
      refine ⟨w, w1, ?_⟩
      cases y with
      | dat d => exact Rp.mono s1 d w w2
      | vw es =>
        obtain ⟨b, us, rfl, p1, p2, p3⟩ := w2
        exact ⟨b, us, rfl, p1, Rps.mono s1 es us p2, p3⟩
      | mt es =>
        obtain ⟨b, us, rfl, p1, p2, p3, p4, p5⟩ := w2
        refine ⟨b, us, rfl, p1, ?_, p3, Rps.mono s1 es us p4, p5⟩
        rw [upd_ne (fun zz => r.apart j k a ds (.mt es) z e e1 q rfl (by rw [w1, zz]))]; exact p2
      | deck _ => exact w2
      | md b ks =>
        obtain ⟨q1, q2, q3, q4, q5⟩ := w2
        refine ⟨q1, q2, ?_, q4, q5⟩
        rw [upd_ne (fun zz => by rw [zz, hH] at q4; cases q4)]; exact q3
  · by_cases z : j = k
    · subst z
      have hl : j < ρ.length := (List.getElem?_eq_some_iff.mp e).1
      rw [List.getElem?_set_self hl] at q1
      cases q1
    · rw [List.getElem?_set_ne z] at q1
      by_cases z2 : j = l
      · subst z2
        have hl : j < ρ.length := (List.getElem?_eq_some_iff.mp e).1
        rw [List.getElem?_set_self hl] at q3
        cases q3
        simp [Dv.isL] at hy
      · rw [List.getElem?_set_ne z2] at q3
        exact r.apart k l b es y hkl q1 q2 q3 hy q4
/-- a, b = x, y -/
def dPar (i j : Nat) (t u : DTE) : DTS := fun E ρ n => t ρ n fun x n1 => u ρ n1 fun y n2 => E.nx ((ρ.set i (some x)).set j (some y)) n2
theorem par_set {K : PySem.W.Frag} {Y Z : Fx} {F H F1 H1 F2 H2 : Hp} {σ : L2.St} {ρ : Rho} {n n1 n2 : Wo} {i j : Nat} {x y : Dv} {v w : V} (hij : i ≠ j) (r : SR Y K Z F H σ ρ n) (r1 : SR Y K Z F1 H1 σ ρ n1) (r2 : SR Y K Z F2 H2 σ ρ n2) (g : Gr Z.δ F1 H1 F2 H2)
    (hx : VX K H F1 H1 x v) (hy : VX K H1 F2 H2 y w) : SR Y K Z F2 H2 ((σ.set i (some v)).set j (some w)) ((ρ.set i (some x)).set j (some y)) n2 := by
  have hx2 : VX K H F2 H2 x v := hx.step (fun a ha => (r.b.dkF a ha).2) g
  refine (r.setX r2 i hx2).set (Hs := H1) j hy (fun p h => r1.fresh h) fun p h l z hl e hz e2 => ?_
  by_cases q : i = l
  · subst q
    by_cases hlt : i < ρ.length
    · rw [List.getElem?_set_self hlt] at e
      rw [List.getElem?_set_self (by rw [← r.len]; exact hlt)] at e2
      cases e; cases e2
      cases x with
      | dat _ => simp [Dv.isL] at hz
      | mt ds =>
        obtain ⟨p', vs, q1, _, _, q2, _⟩ := hx
        cases q1
        rw [q2] at h; cases h
      | vw _ => exact hx.elim
      | deck _ => exact hx.elim
      | md _ _ => simp [Dv.isL] at hz
    · rw [List.getElem?_eq_none (by rw [List.length_set]; omega)] at e
      cases e
  · rw [List.getElem?_set_ne q] at e e2
    exact r1.inH e hz e2 h
def upX2 (Y : Fx) (K : PySem.W.Frag) (t u : DTE) : TA := tCons (upX Y K t) (tCons (upX Y K u) tNil)
theorem xa_two {a b : Expr} {t u : DTE} (ha : XE Y X a t) (hb : XE Y X b u) (hs : starEach [a, b] X.env = (false, eval a X.env) :: starEach [b] X.env := by rfl) (hs2 : starEach [b] X.env = (false, eval b X.env) :: starEach [] X.env := by rfl) : PA X [a, b] (upX2 Y X.K t u) :=
  pa_cons ha (pa_cons hb pa_nil hs2) hs
theorem ds_par {i j : Nat} {x y : Str} {a b : Expr} {t u : DTE} {px py pt pos : Pos} {kt k2 pt2} (hc : X.calm = true) (hN : X.N.Nodup) (hi : X.N[i]? = some x) (hj : X.N[j]? = some y) (hij : i ≠ j)
    (hx : X.env.scope.names.lookup x = some .local) (hy : X.env.scope.names.lookup y = some .local) (ha : XE Y X a t) (hb : XE Y X b u)
    (hw : swappedStores [.Tuple [.Name x px, .Name y py] kt pt] (.Tuple [a, b] k2 pt2) X.env = pure (some [x, y]))
    (hs : swapsWithSole [.Tuple [.Name x px, .Name y py] kt pt] (.Tuple [a, b] k2 pt2) pos.line X.env = pure false := by rfl)
    (h1 : starEach [a, b] X.env = (false, eval a X.env) :: starEach [b] X.env := by rfl) (h2 : starEach [b] X.env = (false, eval b X.env) :: starEach [] X.env := by rfl) :
    DS Y X (.Assign [.Tuple [.Name x px, .Name y py] kt pt] (.Tuple [a, b] k2 pt2) pos) (dPar i j t u) :=
  ps_imp (ps_par hc hN hi hj hij hx hy (xa_two ha hb h1 h2) hw hs) fun D σ H ⟨Z, F, ρ, n, E, r, ht, k⟩ =>
    ⟨Z, F, ρ, n, _, r, ht, fun x1 n1 F1 H1 v hx g1 s1 d1 w1 => ⟨Z, F1, ρ, n1, _, r.step g1 s1 d1, hx, fun y1 n2 F2 H2 w hy g2 s2 d2 w2 =>
      ⟨v, w, rfl, k.nx _ _ _ _ _ hy (par_set hij r (r.step g1 s1 d1) ((r.step g1 s1 d1).step g2 s2 d2) g2 w1 w2)⟩⟩⟩
end DL
namespace DL
open PySem PySem.Spec PyProof.Rows L2
variable {X : Cx} {Y : Fx}
structure ItOk (K : PySem.W.Frag) (J : It) (F1 : Hp) (xs : List PyData) : Prop where
  go : ∀ (i : Nat) H, Same F1 H → i < xs.length → J.go i H
  stop : ∀ (i : Nat) H, Same F1 H → xs.length ≤ i → J.stop i H
  yld : ∀ (i : Nat) H v H' x, J.yld i H v H' → Same F1 H → xs[i]? = some x → (H' = H ∧ Rp K F1 x v) ∨ ∃ T us ds, v = .ref T ∧ H T = none ∧ H' = upd H T (.tup us) ∧ x = .tuple ds ∧ Rps K F1 ds us
abbrev DSrc := Rho → Wo → (List PyData → Wo → Prop) → Prop
def upI (Y : Fx) (K : PySem.W.Frag) (t : DSrc) : TI := fun σ H R => ∃ Z F ρ n Q, SR Y K Z F H σ ρ n ∧ t ρ n Q ∧
  ∀ xs n' F' H' J, Q xs n' → Gr Z.δ F H F' H' → Same F' H' → Z.δ.at_ K F' H' n' → ItOk K J F' xs → R J H'
abbrev DI (Y : Fx) (X : Cx) (tg iter : Expr) (t : DSrc) : Prop := PI X tg iter (upI Y X.K t)
theorem pi_imp {tg iter : Expr} {t t' : TI} (h : PI X tg iter t) (q : ∀ σ H R, t' σ H R → t σ H R) : PI X tg iter t' := ⟨fun p s σ H R I w => h.run p s σ H R I (q σ H R w)⟩
/-- what yields in a heap where the data stands -/
theorem ItOk.use {K : PySem.W.Frag} {J : It} {F1 F H H' : Hp} {xs : List PyData} {i : Nat} {v : V} {x : PyData} (k : ItOk K J F1 xs) (h1 : Same F1 F) (hs : Same F H) (hy : J.yld i H v H') (hx : xs[i]? = some x) :
    ∃ F', Gp F H F' H' ∧ Same F' H' ∧ Rp K F' x v := by
  rcases k.yld i H v H' x hy (h1.trans hs) hx with ⟨rfl, r⟩ | ⟨T, us, ds, rfl, hT, rfl, rfl, r⟩
  · exact ⟨F, Gp.refl, hs, Rp.mono h1 x v r⟩
  · obtain ⟨g, s⟩ := Gp.new (o := .tup us) hT hs
    refine ⟨_, g, s, ?_⟩
    simp only [Rp]
    exact ⟨T, us, rfl, .inl upd_same, Rps.mono (h1.trans g.sF) ds us r⟩
theorem itOk_list {K : PySem.W.Frag} {F : Hp} {a : Addr} {vs : List V} {ds : List PyData} (h : F a = some (.lst vs)) (r : Rps K F ds vs) : ItOk K (Itl K a) F ds where
  go := fun i H s hi => ⟨vs, vs[i]'(by rw [← r.length]; exact hi), SqL.of (s _ _ h), by simp⟩
  stop := fun i H s hi => ⟨vs, SqL.of (s _ _ h), by rw [← r.length]; exact hi⟩
  yld := fun i H v H' x ⟨e, y⟩ s hx => by
    have h1 := y vs (SqL.of (s _ _ h))
    obtain ⟨w, e1, e2⟩ := r.get hx
    rw [h1] at e1; cases e1
    exact .inl ⟨e, e2⟩
theorem itOk_tup {K : PySem.W.Frag} {F : Hp} {a : Addr} {vs : List V} {ds : List PyData} (h : Rd F a (.tup vs)) (r : Rps K F ds vs) : ItOk K (Itt K a) F ds where
  go := fun i H s hi => ⟨vs, vs[i]'(by rw [← r.length]; exact hi), sqtR (rdS s h), by simp⟩
  stop := fun i H s hi => ⟨vs, sqtR (rdS s h), by rw [← r.length]; exact hi⟩
  yld := fun i H v H' x ⟨e, y⟩ s hx => by
    have h1 := y vs (sqtR (rdS s h))
    obtain ⟨w, e1, e2⟩ := r.get hx
    rw [h1] at e1; cases e1
    exact .inl ⟨e, e2⟩
/-- range -/
def rngD (lo : Int) (n : Nat) : List PyData := (List.range n).map fun (k : Nat) => PyData.int (lo + k)
theorem rngD_length {lo : Int} {n : Nat} : (rngD lo n).length = n := by simp [rngD]
theorem rngD_get {lo : Int} {n i : Nat} {x : PyData} (h : (rngD lo n)[i]? = some x) : x = .int (lo + (i : Int)) ∧ i < n := by
  unfold rngD at h
  rw [List.getElem?_map] at h
  cases e : (List.range n)[i]? with
  | none => rw [e] at h; cases h
  | some j =>
    rw [e] at h
    have hi : i < n := by simpa using (List.getElem?_eq_some_iff.mp e).1
    rw [List.getElem?_range hi] at e
    cases e; cases h
    exact ⟨rfl, hi⟩
theorem itOk_rng {K : PySem.W.Frag} {F : Hp} {lo : Int} {n : Nat} : ItOk K (Itr lo n) F (rngD lo n) where
  go := fun i H s hi => by rw [rngD_length] at hi; exact hi
  stop := fun i H s hi => by rw [rngD_length] at hi; exact hi
  yld := fun i H v H' x ⟨e, y⟩ s hx => by
    obtain ⟨h1, _⟩ := rngD_get hx
    exact .inl ⟨e, by rw [h1, y]; simp [Rp]⟩
def dRng1 (t : DTA) : DSrc := fun ρ n R => t ρ n fun xs n' => ∃ j : Int, xs = [.dat (.int j)] ∧ -(2 ^ 62) ≤ j ∧ j < 2 ^ 62 ∧ R (rngD 0 j.toNat) n'
theorem vrs1 {K : PySem.W.Frag} {δ : DkS} {F H : Hp} {i : Int} {vs : List V} (h : VRs K δ F H [.dat (.int i)] vs) : vs = [.int i] := by
  cases h with
  | cons a b =>
    cases b
    simp only [VR, Rp] at a; rw [a]
theorem vrs2 {K : PySem.W.Frag} {δ : DkS} {F H : Hp} {i j : Int} {vs : List V} (h : VRs K δ F H [.dat (.int i), .dat (.int j)] vs) : vs = [.int i, .int j] := by
  cases h with
  | cons a b =>
    simp only [VR, Rp] at a; rw [a, vrs1 b]
theorem di_range1 {tg a : Expr} {t : DTA} {p pos : Pos} (hg : Gl X "range") (hm : X.mg "range" = none) (ha : WA Y X [a] t) (hs : starEach [a] X.env = [(false, eval a X.env)] := by rfl) : DI Y X tg (.Call (.Name "range" p) [a] [] pos) (dRng1 t) :=
  pi_imp (pi_range1 hg hm ha hs) fun σ H R ⟨Z, F, ρ, n, Q, r, ht, k⟩ => ⟨Z, F, ρ, n, _, r, ht, fun xs n1 F1 H1 vs ⟨j, e, l, u, hx⟩ g1 s1 d1 w1 => by
    subst e
    exact ⟨j, vrs1 w1, l, u, k _ _ _ _ _ hx g1 s1 d1 itOk_rng⟩⟩
/-- enumerate of a list, zip of two lists, of two tuples -/
def enumD (ds : List PyData) : List PyData := ds.zipIdx.map fun p => .tuple [.int (p.2 : Nat), p.1]
theorem enumD_length {ds : List PyData} : (enumD ds).length = ds.length := by simp [enumD]
theorem enumD_get {ds : List PyData} {i : Nat} {x : PyData} (h : (enumD ds)[i]? = some x) : ∃ d, ds[i]? = some d ∧ x = .tuple [.int (i : Nat), d] := by
  unfold enumD at h
  rw [List.getElem?_map, List.getElem?_zipIdx] at h
  cases e : ds[i]? with
  | none => rw [e] at h; cases h
  | some d =>
    rw [e] at h
    simp at h
    exact ⟨d, rfl, h.symm⟩
def zipD (ds es : List PyData) : List PyData := (ds.zip es).map fun p => .tuple [p.1, p.2]
theorem zipD_length {ds es : List PyData} : (zipD ds es).length = min ds.length es.length := by simp [zipD]
theorem zipD_get {ds es : List PyData} {i : Nat} {x : PyData} (h : (zipD ds es)[i]? = some x) : ∃ d e, ds[i]? = some d ∧ es[i]? = some e ∧ x = .tuple [d, e] := by
  unfold zipD at h
  rw [List.getElem?_map] at h
  cases q : (ds.zip es)[i]? with
  | none => rw [q] at h; cases h
  | some p =>
    rw [q] at h
    obtain ⟨h1, h2⟩ := List.getElem?_zip_eq_some.mp q
    simp at h
    exact ⟨p.1, p.2, h1, h2, h.symm⟩
theorem itOk_enum {K : PySem.W.Frag} {F : Hp} {a : Addr} {vs : List V} {ds : List PyData} (h : F a = some (.lst vs)) (r : Rps K F ds vs) : ItOk K (Ite K a) F (enumD ds) where
  go := fun i H s hi => by
    rw [enumD_length] at hi
    exact ⟨vs, vs[i]'(by rw [← r.length]; exact hi), SqL.of (s _ _ h), by simp⟩
  stop := fun i H s hi => ⟨vs, SqL.of (s _ _ h), by rw [← r.length, ← enumD_length]; exact hi⟩
  yld := fun i H v H' x ⟨T, y, e1, e2, e3, e4⟩ s hx => by
    obtain ⟨d, q1, q2⟩ := enumD_get hx
    obtain ⟨w, q3, q4⟩ := r.get q1
    rw [e4 vs (SqL.of (s _ _ h))] at q3; cases q3
    exact .inr ⟨T, _, _, e1, e2, e3, q2, rps_cons (by simp [Rp]) (rps_cons q4 rps_nil)⟩
theorem itOk_zip {K : PySem.W.Frag} {F : Hp} {a b : Addr} {vs us : List V} {ds es : List PyData} (h : F a = some (.lst vs)) (h' : F b = some (.lst us)) (r : Rps K F ds vs) (r' : Rps K F es us) : ItOk K (Itz K a b) F (zipD ds es) where
  go := fun i H s hi => by
    rw [zipD_length, r.length, r'.length] at hi
    exact ⟨vs, us, vs[i]'(by omega), us[i]'(by omega), SqL.of (s _ _ h), SqL.of (s _ _ h'), by simp, by simp⟩
  stop := fun i H s hi => ⟨vs, us, SqL.of (s _ _ h), SqL.of (s _ _ h'), by rw [zipD_length, r.length, r'.length] at hi; omega⟩
  yld := fun i H v H' x ⟨T, y, z, e1, e2, e3, e4, e5⟩ s hx => by
    obtain ⟨d, e, q1, q2, q3⟩ := zipD_get hx
    obtain ⟨w, p1, p2⟩ := r.get q1
    obtain ⟨w', p3, p4⟩ := r'.get q2
    rw [e4 vs (SqL.of (s _ _ h))] at p1; cases p1
    rw [e5 us (SqL.of (s _ _ h'))] at p3; cases p3
    exact .inr ⟨T, _, _, e1, e2, e3, q3, rps_cons p2 (rps_cons p4 rps_nil)⟩
def dZip (t : DTA) : DSrc := fun ρ n R => t ρ n fun xs n' => ∃ ds es, xs = [.dat (.list ds), .dat (.list es)] ∧ R (zipD ds es) n'
theorem di_zip {e e2 : Expr} {t : DTA} {p pos tpos : Pos} {elts : List Expr} {kk : Nat} (hg : Gl X "zip") (hm : X.mg "zip" = none) (ha : WA Y X [e, e2] t)
    (hs : starEach [e, e2] X.env = (false, eval e X.env) :: starEach [e2] X.env := by rfl) (hs2 : (backTo pos (starEach [e2] X.env)).any (·.1) = false := by rfl) :
    DI Y X (.Tuple elts kk tpos) (.Call (.Name "zip" p) [e, e2] [] pos) (dZip t) :=
  pi_imp (pi_zip hg hm ha hs hs2) fun σ H R ⟨Z, F, ρ, n, Q, r, ht, k⟩ => ⟨Z, F, ρ, n, _, r, ht, fun xs n1 F1 H1 vs ⟨ds, es, e, hx⟩ g1 s1 d1 w1 => by
    subst e
    cases w1 with
    | cons w1 w2 =>
      cases w2 with
      | cons w2 w3 =>
        cases w3
        simp only [VR, Rp] at w1 w2
        obtain ⟨a, us, rfl, h1, h2⟩ := w1
        obtain ⟨b, ws, rfl, h3, h4⟩ := w2
        exact ⟨a, b, us, ws, rfl, SqL.of (s1 _ _ h1), SqL.of (s1 _ _ h3), k _ _ _ _ _ hx g1 s1 d1 (itOk_zip h1 h3 h2 h4)⟩⟩
abbrev DTG := PyData → Rho → (Rho → Prop) → Prop
structure GOk (K : PySem.W.Frag) (t : TG) (g : DTG) (sl : List Nat) : Prop where
  im : ∀ Y Z F H σ ρ n d v R Q, SR Y K Z F H σ ρ n → Rp K F d v → g d ρ R → (∀ σ' ρ', R ρ' → SR Y K Z F H σ' ρ' n → (∀ vs : List Nat, (∀ i ∈ sl, i ∈ vs) → wipe σ' vs = wipe σ vs) → Q σ' H) → t v σ H Q
def DG (X : Cx) (tg : Expr) (t : TG) (g : DTG) (sl : List Nat) : Prop := PG X tg t ∧ GOk X.K t g sl
def gN (i : Nat) : DTG := fun d ρ R => R (ρ.set i (some (.dat d)))
theorem wipe_set {σ : L2.St} {i : Nat} {x : Option V} : ∀ {vs : List Nat}, i ∈ vs → wipe (σ.set i x) vs = wipe σ vs
  | [], h => by simp at h
  | v :: vs, h => by
    unfold wipe
    by_cases q : i ∈ vs
    · rw [wipe_set q]
    · have e : i = v := by
        rcases List.mem_cons.mp h with e | e
        · exact e
        · exact absurd e q
      subst e
      have comm : ∀ us : List Nat, i ∉ us → wipe (σ.set i x) us = (wipe σ us).set i x := by
        intro us
        induction us with
        | nil => intro _; rfl
        | cons u us ih =>
          intro hu
          simp only [List.mem_cons, not_or] at hu
          unfold wipe
          rw [ih hu.2, List.set_comm _ _ hu.1]
      rw [comm vs q, List.set_set]
theorem gok_name {K : PySem.W.Frag} {i : Nat} : GOk K (gName i) (gN i) [i] := ⟨fun Y Z F H σ ρ n d v R Q r hr h k =>
  k _ _ h (r.set (Hs := H) i (x := .dat d) hr (fun p q => r.fresh q) fun p q l z _ e hz e2 => r.inH e hz e2 q) fun vs hv => wipe_set (hv i (by simp))⟩
def gT2 (i j : Nat) : DTG := fun d ρ R => ∃ a b, d = .tuple [a, b] ∧ R ((ρ.set i (some (.dat a))).set j (some (.dat b)))
theorem rps2 {K : PySem.W.Frag} {F : Hp} {a b : PyData} {vs : List V} (h : Rps K F [a, b] vs) : ∃ v w, vs = [v, w] ∧ Rp K F a v ∧ Rp K F b w := by
  simp only [Rps] at h
  obtain ⟨v, _, rfl, h1, w, _, rfl, h2, rfl⟩ := h
  exact ⟨v, w, rfl, h1, h2⟩
theorem rps3 {K : PySem.W.Frag} {F : Hp} {a b c : PyData} {vs : List V} (h : Rps K F [a, b, c] vs) : ∃ u v w, vs = [u, v, w] ∧ Rp K F a u ∧ Rp K F b v ∧ Rp K F c w := by
  simp only [Rps] at h
  obtain ⟨u, _, rfl, h0, v, _, rfl, h1, w, _, rfl, h2, rfl⟩ := h
  exact ⟨u, v, w, rfl, h0, h1, h2⟩
theorem SR.setD {K : PySem.W.Frag} {Y Z : Fx} {F H : Hp} {σ : L2.St} {ρ : Rho} {n : Wo} (r : SR Y K Z F H σ ρ n) (i : Nat) {d : PyData} {v : V} (h : Rp K F d v) : SR Y K Z F H (σ.set i (some v)) (ρ.set i (some (.dat d))) n :=
  r.set (Hs := H) i (x := .dat d) h (fun p q => r.fresh q) fun p q l z _ e hz e2 => r.inH e hz e2 q
theorem gok_two {K : PySem.W.Frag} {i j : Nat} : GOk K (gTup K 2 (gCons (gName i) (gCons (gName j) gNil))) (gT2 i j) [i, j] := ⟨fun Y Z F H σ ρ n d v R Q r hr h k => by
  obtain ⟨a, b, rfl, h⟩ := h
  simp only [Rp] at hr
  obtain ⟨p, xs, rfl, hp, hxs⟩ := hr
  obtain ⟨v, w, rfl, h1, h2⟩ := rps2 hxs
  refine ⟨p, _, rfl, sqtR (rdS r.b.sub hp), rfl, v, _, rfl, w, _, rfl, rfl, k _ _ h ((r.setD i h1).setD j h2) fun vs hv => ?_⟩
  rw [wipe_set (hv j (by simp)), wipe_set (hv i (by simp))]⟩
abbrev FStep := PyData → Rho → Wo → (Rho → Wo → Prop) → Prop
structure ForR (xs : List PyData) (ρ : Rho) (n : Wo) (step : FStep) (Q : Rho → Wo → Prop) : Prop where
  ex : ∃ I : Nat → Rho → Wo → Prop, I 0 ρ n ∧ (∀ (k : Nat) x ρ' n', xs[k]? = some x → I k ρ' n' → step x ρ' n' (I (k + 1))) ∧ ∀ ρ' n', I xs.length ρ' n' → Q ρ' n'
def dFor (s : DSrc) (g : DTG) (b : DTS) : DTS := fun E ρ n => s ρ n fun xs n1 => ForR xs ρ n1 (fun x ρ' n' K => g x ρ' fun ρ'' => b { E with nx := K, ct := K, bk := E.nx } ρ'' n') E.nx
theorem SR.base {K : PySem.W.Frag} {Y Z : Fx} {F0 H : Hp} {σ : L2.St} {ρ : Rho} {n : Wo} (r : SR Y K Z F0 H σ ρ n) : SR Y K { Z with F0 := F0 } F0 H σ ρ n :=
  ⟨⟨r.b.sub, r.b.dk, r.b.dkF, Same.refl _, fun a _ h => h, r.b.gH, r.b.gI⟩, r.de, r.he, r.gr, r.len, fun i x e => by
    obtain ⟨v, e1, e2⟩ := r.slot i x e
    refine ⟨v, e1, ?_⟩
    cases x <;> exact e2, r.apart⟩
theorem Base.back {K : PySem.W.Frag} {Z : Fx} {F1 H1 F H : Hp} {n1 n : Wo} (b1 : Base K Z F1 H1 n1) (b : Base K { Z with F0 := F1 } F H n) : Base K Z F H n :=
  ⟨b.sub, b.dk, b.dkF, b1.gF.trans b.gF, fun a h1 h2 => b.gN a h1 (b1.gN a h1 h2), b.gH, b.gI⟩
theorem SR.back {K : PySem.W.Frag} {Y Z : Fx} {F1 H1 F H : Hp} {σ : L2.St} {ρ : Rho} {n n1 : Wo} (b1 : Base K Z F1 H1 n1) (r : SR Y K { Z with F0 := F1 } F H σ ρ n) : SR Y K Z F H σ ρ n :=
  ⟨b1.back r.b, r.de, r.he, r.gr, r.len, fun i x e => by
    obtain ⟨v, e1, e2⟩ := r.slot i x e
    refine ⟨v, e1, ?_⟩
    cases x <;> exact e2, r.apart⟩
theorem ds_for {tg iter : Expr} {body : List Stmt} {s : DSrc} {t : TG} {g : DTG} {sl : List Nat} {b : DTS} {pos : Pos} (hp : PassesOwn (model X.prog X.w) X.A X.env X.xe) (hc : X.calm = true) (hi : DI Y X tg iter s) (hg : DG X tg t g sl) (hb : DSs Y X body b)
    (hs : ∀ x, foldedSetIterable iter X.env x = pure x := by intro _; rfl) : DS Y X (.For tg iter body [] pos) (dFor s g b) :=
  ps_imp (ps_for hp hc hi hg.1 hb hs) fun D σ H ⟨Z, F, ρ, n, E, r, ht, k⟩ => ⟨Z, F, ρ, n, _, r, ht, fun xs n1 F1 H1 J ⟨⟨I, h0, hstep, hend⟩⟩ g1 s1 d1 w1 => by
    have r1 := r.step g1 s1 d1
    refine ⟨fun i m σ H => m = xs.length - i ∧ i ≤ xs.length ∧ ∃ F' ρ' n', SR Y X.K { Z with F0 := F1 } F' H σ ρ' n' ∧ I i ρ' n', ⟨xs.length, by simp, Nat.zero_le _, F1, ρ, n1, r1.base, h0⟩, ?_⟩
    rintro i m σ2 H2 ⟨rfl, hi, F2, ρ2, n2, r2, h2⟩
    have sF : Same F1 F2 := r2.b.gF
    by_cases hlt : i < xs.length
    · refine .inr ⟨w1.go i H2 (sF.trans r2.b.sub) hlt, fun σ' H' => ∃ F' ρ' n', SR Y X.K { Z with F0 := F1 } F' H' σ' ρ' n' ∧ I (i + 1) ρ' n', fun σ' H' q => ⟨xs.length - (i + 1), by omega, rfl, hlt, q⟩, fun v H3 hy => ?_⟩
      obtain ⟨x, hx⟩ : ∃ x, xs[i]? = some x := ⟨xs[i], by simp [hlt]⟩
      obtain ⟨F3, g3, s3, r3⟩ := w1.use sF r2.b.sub hy hx
      have r2' := r2.step g3.gr s3 (g3.dk r2.b)
      refine hg.2.im _ _ _ _ _ _ _ _ _ _ _ r2' r3 (hstep i x ρ2 n2 hx h2) fun σ4 ρ4 h4 r4 _ => ?_
      refine ⟨_, F3, ρ4, n2, _, r4, h4, ⟨fun F5 H5 σ5 ρ5 n5 q r5 => ⟨F5, ρ5, n5, r5, q⟩, fun d n5 F5 H5 v5 q b5 => k.rt _ _ _ _ _ q (r1.b.back b5), fun F5 H5 σ5 ρ5 n5 q r5 => k.nx _ _ _ _ _ q (SR.back r1.b r5), fun F5 H5 σ5 ρ5 n5 q r5 => ⟨F5, ρ5, n5, r5, q⟩⟩⟩
    · have e : i = xs.length := by omega
      subst e
      exact .inl ⟨w1.stop _ H2 (sF.trans r2.b.sub) (Nat.le_refl _), k.nx _ _ _ _ _ (hend _ _ h2) (SR.back r1.b r2)⟩⟩
end DL
namespace DL
open PySem PySem.Spec PyProof.Rows L2
variable {X : Cx} {Y : Fx}
def wipeR (ρ : Rho) : List Nat → Rho
  | [] => ρ
  | v :: vs => (wipeR ρ vs).set v none
theorem wipeR_length (ρ : Rho) : ∀ vs : List Nat, (wipeR ρ vs).length = ρ.length
  | [] => rfl
  | v :: vs => by unfold wipeR; rw [List.length_set, wipeR_length ρ vs]
theorem wipeR_some {ρ : Rho} {i : Nat} {x : Dv} : ∀ {vs : List Nat}, (wipeR ρ vs)[i]? = some (some x) → ρ[i]? = some (some x) ∧ i ∉ vs
  | [], h => ⟨h, by simp⟩
  | v :: vs, h => by
    unfold wipeR at h
    by_cases hi : v = i
    · subst hi
      by_cases hv : v < (wipeR ρ vs).length
      · rw [List.getElem?_set_self hv] at h; cases h
      · rw [List.getElem?_eq_none (by simpa using hv)] at h; cases h
    · rw [List.getElem?_set_ne hi] at h
      obtain ⟨h1, h2⟩ := wipeR_some h
      exact ⟨h1, by simp only [List.mem_cons, not_or]; exact ⟨fun e => hi e.symm, h2⟩⟩
theorem SR.wipe {K : PySem.W.Frag} {Y Z : Fx} {F H : Hp} {σ : L2.St} {ρ : Rho} {n : Wo} (r : SR Y K Z F H σ ρ n) (vs : List Nat) : SR Y K Z F H (wipe σ vs) (wipeR ρ vs) n where
  b := r.b
  de := r.de
  he := r.he
  gr := r.gr
  len := by rw [wipe_length, wipeR_length, r.len]
  slot := fun i x e => by
    obtain ⟨e1, e2⟩ := wipeR_some e
    obtain ⟨v, e3, e4⟩ := r.slot i x e1
    exact ⟨v, by rw [wipe_out e2]; exact e3, e4⟩
  apart := fun i j a ds y hij e1 e2 e3 hy e4 =>
    r.apart i j a ds y hij (wipeR_some e1).1 (wipe_some e2).1 (wipeR_some e3).1 hy (wipe_some e4).1
theorem wipe_idem {σ : L2.St} : ∀ {vs : List Nat}, wipe (wipe σ vs) vs = wipe σ vs := by
  intro vs
  have sub : ∀ us : List Nat, (∀ i ∈ us, i ∈ vs) → wipe (wipe σ us) vs = wipe σ vs := by
    intro us
    induction us with
    | nil => intro _; rfl
    | cons u us ih =>
      intro h
      show wipe ((wipe σ us).set u none) vs = _
      rw [wipe_set (h u (by simp))]
      exact ih fun i hi => h i (by simp [hi])
  exact sub vs fun i h => h
abbrev CStep := PyData → List PyData → Wo → (List PyData → Wo → Prop) → Prop
structure CompR (xs : List PyData) (n : Wo) (step : CStep) (R : List PyData → Wo → Prop) : Prop where
  ex : ∃ I : Nat → List PyData → Wo → Prop, I 0 [] n ∧ (∀ (k : Nat) x acc m, xs[k]? = some x → I k acc m → step x acc m (I (k + 1))) ∧ ∀ acc m, I xs.length acc m → R acc m
def mComp (s : DSrc) (g : DTG) (tt : DTT) (te : DTE) (vs : List Nat) : DTM := fun ρ n R => s ρ n fun xs n1 => CompR xs n1 (fun x acc m K => g x (wipeR ρ vs) fun ρ' => tt ρ' m fun b m1 => if b = true then te ρ' m1 fun y m2 => needD y fun d => acc.length < sizeLine ∧ K (acc ++ [d]) m2 else K acc m1) R
abbrev WTs (Y : Fx) (X : Cx) (ifs : List Expr) (t : DTT) : Prop := PTs X ifs (upT Y X.K t)
theorem pts_imp {ifs : List Expr} {t t' : TT} (h : PTs X ifs t) (q : ∀ σ H Q, t' σ H Q → t σ H Q) : PTs X ifs t' := ⟨fun p s σ H Q I w => h.run p s σ H Q I (q σ H Q w)⟩
def dYes : DTT := fun _ n R => R true n
theorem wts_nil : WTs Y X [] dYes := pts_imp pts_nil fun σ H Q ⟨Z, F, ρ, n, R, r, hr, k⟩ => k _ _ _ _ hr Gr.refl r.b.sub r.b.dk
theorem wts_one {c : Expr} {t : DTT} (h : WT Y X c t) : WTs Y X [c] t := pts_one h
/-- .. as data, as a list of one's own -/
theorem lc_dat {K : PySem.W.Frag} {t : DTM} : ∀ σ H Q, upX Y K (xD (dOfM t)) σ H Q → upM Y K t σ H Q := fun σ H Q ⟨Z, F, ρ, n, R, r, ht, k⟩ => ⟨Z, F, ρ, n, _, r, ht, fun ds n1 F1 H1 p vs hx g1 s1 d1 a b c d => by
  obtain ⟨g2, s2, r2⟩ := freeze g1 s1 a b c d
  exact k _ _ _ _ _ hx g2 s2 (d1.fz c rfl b) r2⟩
theorem SR.mut {K : PySem.W.Frag} {Y Z : Fx} {F H : Hp} {σ : L2.St} {ρ : Rho} {n : Wo} (r : SR Y K Z F H σ ρ n) {i : Nat} {ds es : List PyData} {a : Addr} {us : List V} (e : ρ[i]? = some (some (.mt ds))) (e1 : σ[i]? = some (some (.ref a))) (hr : Rps K F es us) :
    SR Y K Z F (upd H a (.lst us)) σ (ρ.set i (some (.mt es))) n := by
  obtain ⟨v, q1, a', ws, rfl, h0, hF, hH, hrr, na⟩ := r.slot i _ e
  rw [e1] at q1; cases q1
  have hi : i < ρ.length := (List.getElem?_eq_some_iff.mp e).1
  have hk : ∀ b o, b ≠ a → H b = some o → upd H a (.lst us) b = some o := fun b o q h => by rw [upd_ne q]; exact h
  refine ⟨⟨fun b o q => hk b o (ne_of_none q hF) (r.b.sub _ _ q), r.b.dk.chg na hH rfl, fun b hb => ⟨(r.b.dkF b hb).1, by rw [upd_ne fun q => na (by rw [← q]; exact hb)]; exact (r.b.dkF b hb).2⟩, r.b.gF, r.b.gN, fun b o q1 q2 q3 => hk b o (ne_of_none q2 h0) (r.b.gH b o q1 q2 q3), fun b C dx fs q => by rw [upd_ne (ne_of_none q h0)]; exact r.b.gI b C dx fs q⟩, r.de, r.he, r.gr.chg (by rw [← r.he]; exact h0), by simp [r.len], fun j y q => ?_, fun j l b ds' y hjl q1 q2 q3 hy q4 => ?_⟩
  · by_cases z : i = j
    · subst z
      rw [List.getElem?_set_self hi] at q
      cases q
      exact ⟨_, e1, a, us, rfl, h0, hF, upd_same, hr, na⟩
    · rw [List.getElem?_set_ne z] at q
      obtain ⟨w, w1, w2⟩ := r.slot j y q
      refine ⟨w, w1, ?_⟩
      cases y with
      | dat d => exact w2
      | vw es' =>
        obtain ⟨b, us', rfl, p1, p2, p3⟩ := w2
        exact ⟨b, us', rfl, hk b _ (fun zz => r.apart i j a ds (.vw es') z e e1 q rfl (by rw [w1, zz])) p1, p2, p3⟩
      | mt es' =>
        obtain ⟨b, us', rfl, p1, p2, p3, p4, p5⟩ := w2
        exact ⟨b, us', rfl, p1, p2, hk b _ (fun zz => r.apart i j a ds (.mt es') z e e1 q rfl (by rw [w1, zz])) p3, p4, p5⟩
      | deck _ => exact w2
      | md b ks =>
        obtain ⟨q1, q2, q3, q4, q5⟩ := w2
        exact ⟨q1, q2, q3, hk b _ (fun zz => by rw [zz, hH] at q4; cases q4) q4, q5⟩
  · have old : ∀ (k : Nat) (x : Dv), (ρ.set i (some (.mt es)))[k]? = some (some x) → x.isL = true → ∃ x', ρ[k]? = some (some x') ∧ x'.isL = true ∧ (∀ ds', x = .mt ds' → ∃ ds'', x' = .mt ds'') := fun k x q hx => by
      by_cases z : i = k
      · subst z
        rw [List.getElem?_set_self hi] at q
        cases q
        exact ⟨_, e, rfl, fun _ _ => ⟨_, rfl⟩⟩
      · rw [List.getElem?_set_ne z] at q
        exact ⟨x, q, hx, fun ds' h => ⟨ds', h⟩⟩
    obtain ⟨x1, p1, p2, p3⟩ := old j _ q1 rfl
    obtain ⟨ds'', rfl⟩ := p3 _ rfl
    obtain ⟨x2, p4, p5, _⟩ := old l _ q3 hy
    exact r.apart j l b ds'' x2 hjl p1 q2 p4 p5 q4
/-- the list in slot i -/
def atMt (i : Nat) (ρ : Rho) (R : List PyData → Prop) : Prop := ∃ ds, ρ[i]? = some (some (.mt ds)) ∧ R ds
def dApp (i : Nat) (t : DTE) : DTS := fun E ρ n => atMt i ρ fun ds => t ρ n fun x n' => needD x fun d => ds.length < sizeLine ∧ E.nx (ρ.set i (some (.mt (ds ++ [d])))) n'
theorem SR.own {K : PySem.W.Frag} {Y Z : Fx} {F H : Hp} {σ : L2.St} {ρ : Rho} {n : Wo} (r : SR Y K Z F H σ ρ n) {i : Nat} {ds : List PyData} (e : ρ[i]? = some (some (.mt ds))) : ∃ a vs, σ[i]? = some (some (.ref a)) ∧ H a = some (.lst vs) ∧ Rps K F ds vs := by
  obtain ⟨v, q1, a, ws, rfl, h0, hF, hH, hrr, na⟩ := r.slot i _ e
  exact ⟨a, ws, q1, hH, hrr⟩
section
variable {i : Nat} {o e : Expr} {t : DTE} {apos cpos pos : Pos}
theorem ds_append (ho : PE X o (tVar i)) (he : WE Y X e t)
    (hbase : attributeBase o "append" X.env (eval o X.env) = eval o X.env := by rfl)
    (hfew : ((backTo cpos (starEach [e] X.env)).all (fun x => !x.1) && (backToKw cpos (keywordEach [] X.env)).all (fun x => x.1.isSome)
      && decide (([e] : List Expr).length + ([] : List Keyword).length + (if ([] : List Keyword).isEmpty then 0 else 1) < 30)) = true := by rfl)
    (hline : (apos.endLine == cpos.line) = true := by rfl) (hst : starEach [e] X.env = (false, eval e X.env) :: starEach [] X.env := by rfl) (hplain : (backTo cpos (starEach [] X.env)).any (·.1) = false := by rfl)
    (hs : swapsWith (.Call (.Attribute o "append" apos) [e] [] cpos) none pos.line X.env = pure false := by rfl) : DS Y X (.Expr (.Call (.Attribute o "append" apos) [e] [] cpos) pos) (dApp i t) :=
  ps_imp (ps_expr (pe_bm PySem.F.plainAttrs_list PySem.F.slot_list_append PySem.F.type_list_append mt_append ho (pa_cons he pa_nil hst) hbase hfew hline hst hplain) hs) fun D σ H ⟨Z, F, ρ, n, E, r, ⟨ds, e0, ht⟩, k⟩ => by
    obtain ⟨a, vs, q1, q2, q3⟩ := r.own e0
    refine ⟨_, q1, .inl ⟨rfl, vs, SqL.of q2⟩, Z, F, ρ, n, _, r, ht, fun x n1 F1 H1 v hx g1 s1 d1 w1 => ?_⟩
    obtain ⟨d, rfl, hl, hx⟩ := needD_is hx
    have r1 := r.step g1 s1 d1
    obtain ⟨a', vs', q4, q5, q6⟩ := r1.own e0
    rw [q1] at q4; cases q4
    exact ⟨a, vs', _, rfl, rfl, q5, by rw [← q6.length]; exact hl, k.nx _ _ _ _ _ hx (r1.mut e0 q1 (q6.append (rps_cons w1 rps_nil)))⟩
theorem Rps.set {K : PySem.W.Frag} {F : Hp} : ∀ {ds : List PyData} {vs : List V} (j : Nat) {d : PyData} {v : V}, Rps K F ds vs → Rp K F d v → Rps K F (ds.set j d) (vs.set j v)
  | [], _, _, _, _, h, _ => by simp only [Rps] at h; subst h; simp [Rps]
  | d :: ds, _, 0, d', v', h, h' => by
    simp only [Rps] at h
    obtain ⟨v, r, rfl, h1, h2⟩ := h
    exact rps_cons h' h2
  | d :: ds, _, j + 1, d', v', h, h' => by
    simp only [Rps] at h
    obtain ⟨v, r, rfl, h1, h2⟩ := h
    exact rps_cons h1 (Rps.set j h2 h')
end
end DL
namespace DL
open PySem PySem.Spec PyProof.Rows L2
variable {X : Cx} {Y : Fx}
abbrev DC := List Dv → (PyData → Prop) → Prop
def CallOk (K : PySem.W.Frag) (r : List V → Hp → VK → Prop) (o : DC) : Prop := ∀ δ F H xs vs R Q, Same F H → VRs K δ F H xs vs → o xs R → Back K F H R Q → r vs H Q
def dCall (o : DC) (t : DTA) : DTE := fun ρ n R => t ρ n fun xs n1 => o xs fun d => R (.dat d) n1
theorem cal {K : PySem.W.Frag} {r : List V → Hp → VK → Prop} {o : DC} {t : DTA} (ho : CallOk K r o) : ∀ σ H Q, up Y K (dCall o t) σ H Q → tCB r (upA Y K t) σ H Q := fun σ H Q ⟨Z, F, ρ, n, R, s, ht, k⟩ =>
  ⟨Z, F, ρ, n, _, s, ht, fun xs n1 F1 H1 vs hx g1 s1 d1 w1 => ho Z.δ F1 H1 xs vs _ Q s1 w1 hx fun d F2 H2 v2 h2 g2 s2 w2 =>
    k _ _ _ _ _ h2 (g1.trans g2.gr) s2 (g2.dk ((s.step g1 s1 d1).b)) w2⟩
section
variable {x : Str} {p pos : Pos} {e : Expr} {es : List Expr} {id T : String} {r : List V → Hp → VK → Prop} {o : DC} {t : DTA}
theorem we_callB (hc : CallR X (.builtin id) r) (ho : CallOk X.K r o) (hg : Gl X x) (hm : X.mg x = none) (hv : bootBuiltins x = some (.builtin id)) (ha : WA Y X (e :: es) t) (hn : x ≠ "__name__" := by decide) (hdb : (x == ("__debug__" : Str)) = false := by decide)
    (he : starEach (e :: es) X.env = (false, eval e X.env) :: starEach es X.env := by rfl) (hpl : (backTo pos (starEach es X.env)).any (·.1) = false := by rfl) : WE Y X (.Call (.Name x p) (e :: es) [] pos) (dCall o t) :=
  pe_imp (pe_callB hc hg hm hv ha hn hdb he hpl) (cal ho)
theorem we_callTy (hc : CallR X (.type T) r) (ho : CallOk X.K r o) (hg : Gl X x) (hm : X.mg x = none) (hv : bootBuiltins x = some (.type T)) (ha : WA Y X (e :: es) t) (hn : x ≠ "__name__" := by decide) (hdb : (x == ("__debug__" : Str)) = false := by decide)
    (he : starEach (e :: es) X.env = (false, eval e X.env) :: starEach es X.env := by rfl) (hpl : (backTo pos (starEach es X.env)).any (·.1) = false := by rfl) : WE Y X (.Call (.Name x p) (e :: es) [] pos) (dCall o t) :=
  pe_imp (pe_callTy hc hg hm hv ha hn hdb he hpl) (cal ho)
abbrev DCM := List Dv → (List PyData → Prop) → Prop
def CallOkM (K : PySem.W.Frag) (r : List V → Hp → VK → Prop) (o : DCM) : Prop := ∀ δ F H xs vs R Q, Same F H → VRs K δ F H xs vs → o xs R → (∀ ds us p, R ds → H p = none → Rps K F ds us → Q (.ref p) (upd H p (.lst us))) → r vs H Q
def mCall (o : DCM) (t : DTA) : DTM := fun ρ n R => t ρ n fun xs n1 => o xs fun d => R d n1
theorem calM {K : PySem.W.Frag} {r : List V → Hp → VK → Prop} {o : DCM} {t : DTA} (ho : CallOkM K r o) : ∀ σ H Q, upM Y K (mCall o t) σ H Q → tCB r (upA Y K t) σ H Q := fun σ H Q ⟨Z, F, ρ, n, R, s, ht, k⟩ =>
  ⟨Z, F, ρ, n, _, s, ht, fun xs n1 F1 H1 vs hx g1 s1 d1 w1 => ho Z.δ F1 H1 xs vs _ Q s1 w1 hx fun ds us p h2 hp hr => by
    obtain ⟨g2, s2⟩ := Gp.newM (o := .lst us) hp s1
    have hp0 : H p = none := by
      cases e : H p with
      | none => rfl
      | some o => exact absurd hp (g1.dH p (by rw [e]; nofun))
    exact k _ _ _ _ _ _ h2 (g1.trans g2.gr) s2 (g2.dk ((s.step g1 s1 d1).b)) hp0 (s1.free hp) upd_same hr⟩
theorem me_callB (hc : CallR X (.builtin id) r) {o : DCM} (ho : CallOkM X.K r o) (hg : Gl X x) (hm : X.mg x = none) (hv : bootBuiltins x = some (.builtin id)) (ha : WA Y X (e :: es) t) (hn : x ≠ "__name__" := by decide) (hdb : (x == ("__debug__" : Str)) = false := by decide)
    (he : starEach (e :: es) X.env = (false, eval e X.env) :: starEach es X.env := by rfl) (hpl : (backTo pos (starEach es X.env)).any (·.1) = false := by rfl) : ME Y X (.Call (.Name x p) (e :: es) [] pos) (mCall o t) :=
  pe_imp (pe_callB hc hg hm hv ha hn hdb he hpl) (calM ho)
end
section
variable {K : PySem.W.Frag}
theorem vr1 {δ : DkS} {F H : Hp} {x : Dv} {vs : List V} (h : VRs K δ F H [x] vs) : ∃ v, vs = [v] ∧ VR K δ F H x v := by
  cases h with
  | cons a b => cases b; exact ⟨_, rfl, a⟩
theorem vr2 {δ : DkS} {F H : Hp} {x y : Dv} {vs : List V} (h : VRs K δ F H [x, y] vs) : ∃ v w, vs = [v, w] ∧ VR K δ F H x v ∧ VR K δ F H y w := by
  cases h with
  | cons a b =>
    obtain ⟨w, rfl, h2⟩ := vr1 b
    exact ⟨_, w, rfl, a, h2⟩
/-- a sequence's items, whichever it is -/
def seqD : PyData → Option (List PyData)
  | .list ds => some ds
  | .tuple ds => some ds
  | _ => none
theorem VR.seq {δ : DkS} {F H : Hp} {x : Dv} {v : V} {ds : List PyData} (hs : Same F H) (h : VR K δ F H x v) (e : seqD x.toD = some ds) : ∃ a vs, v = .ref a ∧ (H a = some (.lst vs) ∨ Rd H a (.tup vs)) ∧ Rps K F ds vs := by
  cases q : x.toD with
  | list es =>
    rw [q] at e; cases e
    obtain ⟨a, l, e1, e2, e3⟩ := h.lst hs q
    exact ⟨a, l, e1, .inl e2, e3⟩
  | tuple es =>
    rw [q] at e; cases e
    obtain ⟨a, l, e1, e2, e3⟩ := h.tpl hs q
    exact ⟨a, l, e1, .inr (rdS hs e2), e3⟩
  | _ => rw [q] at e; cases e
def oLen : DC := fun xs R => ∃ x ds, xs = [x] ∧ seqD x.toD = some ds ∧ R (.int ds.length)
theorem ck_len : CallOk K (fun xs H Q => ∃ p ys, xs = [.ref p] ∧ (SqL K H p ys ∨ SqT K H p ys) ∧ Q (.int ys.length) H) oLen := fun δ F H xs vs R Q hs hv ⟨x, ds, e, e2, hr⟩ b => by
  subst e
  obtain ⟨v, rfl, h1⟩ := vr1 hv
  obtain ⟨a, us, rfl, h2, h3⟩ := h1.seq hs e2
  exact ⟨a, us, rfl, h2.imp SqL.of sqtR, b.int hs (by rw [← h3.length]; exact hr)⟩
def oInt : DC := fun xs R => match xs with
  | [.dat (.int i)] => R (.int i)
  | [.dat (.bool k)] => R (.int (if k then 1 else 0))
  | _ => False
theorem ck_int : CallOk K (fun xs H Q => (∃ i, xs = [.int i] ∧ Q (.int i) H) ∨ ∃ k, xs = [.bl k] ∧ Q (.int (if k then 1 else 0)) H) oInt := fun δ F H xs vs R Q hs hv h b => by
  unfold oInt at h
  split at h
  · exact .inl ⟨_, vrs1 hv, b.int hs h⟩
  · obtain ⟨v, rfl, h1⟩ := vr1 hv
    simp only [VR, Rp] at h1
    subst h1
    exact .inr ⟨_, rfl, b.int hs h⟩
  · exact h.elim
/-- sum, max, min of ints -/
def oSum : DC := fun xs R => ∃ x, ∃ ns : List Int, xs = [x] ∧ seqD x.toD = some (ns.map .int) ∧ R (.int ns.sum)
/-- tuple(x), list(x) -/
def oTuple : DC := fun xs R => ∃ x ds, xs = [x] ∧ seqD x.toD = some ds ∧ R (.tuple ds)
theorem ck_tuple : CallOk K (fun xs H Q => ∃ p ys, xs = [.ref p] ∧ ((SqL K H p ys ∧ ∀ l, H l = none → Q (.ref l) (upd H l (.tup ys))) ∨ (SqT K H p ys ∧ Q (.ref p) H))) oTuple := fun δ F H xs vs R Q hs hv ⟨x, ds, e, e2, hr⟩ b => by
  subst e
  obtain ⟨v, rfl, h1⟩ := vr1 hv
  cases q : x.toD with
  | list es =>
    rw [q] at e2; cases e2
    obtain ⟨a, l, rfl, e2, e3⟩ := h1.lst hs q
    exact ⟨a, l, rfl, .inl ⟨SqL.of e2, fun p hp => b.tup hs hr e3 hp⟩⟩
  | tuple es =>
    rw [q] at e2; cases e2
    obtain ⟨a, l, rfl, e2, e3⟩ := h1.tpl hs q
    exact ⟨a, l, rfl, .inr ⟨sqtR (rdS hs e2), b.here hs hr (by simp only [Rp]; exact ⟨a, l, rfl, e2, e3⟩)⟩⟩
  | _ => rw [q] at e2; cases e2
/-- all, any of bools -/
def oAll : DC := fun xs R => ∃ x, ∃ bs : List Bool, xs = [x] ∧ x.toD = .list (bs.map .bool) ∧ R (.bool (bs.all id))
theorem Rps.bools {F : Hp} : ∀ {bs : List Bool} {vs : List V}, Rps K F (bs.map PyData.bool) vs → vs = bs.map V.bl
  | [], _, h => by simpa only [List.map_nil, Rps] using h
  | n :: ns, _, h => by
    simp only [List.map_cons, Rps, Rp] at h
    obtain ⟨v, r, rfl, rfl, h2⟩ := h
    rw [Rps.bools h2]; rfl
theorem ck_all : CallOk K (rAll K) oAll := fun δ F H xs vs R Q hs hv ⟨x, bs, e, e2, hr⟩ b => by
  subst e
  obtain ⟨v, rfl, h1⟩ := vr1 hv
  obtain ⟨a, us, rfl, h2, h3⟩ := h1.lst hs e2
  rw [h3.bools] at h2
  exact ⟨a, bs, rfl, SqL.of h2, b.bl hs hr⟩
end
structure FnG (P : Program) (w : World) (K : PySem.W.Frag) (mg : Str → Option Value) (base : Heap) (k : Nat) (f : Addr) (fd : FuncData) (ps : List Str) (sp : Sp) : Prop where
  len : ∀ vs H Q E, sp vs H Q E → vs.length = ps.length
  run : ∀ (A : Around) (outer : List Env) (s : Shared) (H : Hp) (args : Args) (us : List Value) (vs : List V) (Q : VK), A.guards = some [] → Room k A → Env0 P w K mg base A outer s H →
    BindsTo s fd args (ps.zip us) → Vals vs us → sp vs H Q E0 → codeAny (model P w) A (.call (.ref f) args) (CR CX0 outer P w H s Q E0) s
theorem FnG.mono {P : Program} {w : World} {K : PySem.W.Frag} {mg : Str → Option Value} {base : Heap} {j k : Nat} {f : Addr} {fd : FuncData} {ps : List Str} {sp : Sp} (F : FnG P w K mg base j f fd ps sp) (h : j ≤ k) : FnG P w K mg base k f fd ps sp :=
  ⟨F.len, fun A outer s H args us vs Q hg hr => F.run A outer s H args us vs Q hg (hr.mono h)⟩
/-- a def, by its body -/
theorem fng_of {P : Program} {w : World} {K : PySem.W.Frag} {mg : Str → Option Value} {base : Heap} {x qual : Str} {st : Stmt} {f : Addr} {fd : FuncData} {N ps : List Str} {k : Nat} {sp : Sp} (F : Fun K x qual st f fd) (S : FnScope N ps (defScope st))
    (len : ∀ vs H Q E, sp vs H Q E → vs.length = ps.length)
    (hb : ∀ (cdv : Value) (A : Around) (outer : List Env) (s : Shared) (H : Hp) (vs : List V) (Q : VK), A.guards = some [] → Room k (A.deeper (envOfC qual (defScope st) s.heap.objs.size f cdv)) → sp vs H Q E0 →
      ∃ t, PSs (cxOf CX0 P w K mg base N qual (defScope st) f cdv A outer s H E0).nox (defBody st) t ∧ t { nx := fun _ H' => Q .non H', rt := Q } (start N vs) H) : FnG P w K mg base (k + 1) f fd ps sp := by
  refine ⟨len, fun A outer s H args us vs Q hgd hr e0 hbi rv hsp => ?_⟩
  obtain ⟨oc, od, kV, doc, pm, an, cdv, ct, osl, rfl, lk, hcd⟩ := F.ex
  have hl := len _ _ _ _ hsp
  have kin : K.In s.heap := e0.mod.kin.keeps fun b o e => (e0.bs b o e).1
  have lim : s.heap.NoLimit := e0.mod.nolimit.keeps fun b o e => (e0.bs b o e).1
  refine Att.call_fn kin lim lk hcd hr.depth hbi (List.all_eq_true.mpr fun ⟨y, u⟩ hy => ?_) (fun s1 x => ?_) S.co S.gen S.kind
  · rcases S.par y (List.of_mem_zip hy).1 with q | q <;> simp [q]
  · obtain ⟨t, ht, hq⟩ := hb cdv A outer s H vs Q hgd (hr.deeper _) hsp
    have I := inv_start (CX := CX0) (P := P) (w := w) (E := E0) S hr.hd e0 hl rv x
    refine wpAny_mono (ht.run [] s1 (start N vs) H _ (I.wish _) hq) (fun fl s' hs => ?_) fun e s' hs => hs.elim
    have fin : ∀ {σ' : L2.St} {H' : Hp} {v : V} {u : Value}, Inv (cxOf CX0 P w K mg base N qual (defScope st) f cdv A outer s H E0) [] σ' H' s' → RelV v u → Q v H' → CE outer P w H s Q u s' :=
      fun J r q => ⟨_, _, J.os, J.bare, J.base, J.hok, r, q⟩
    cases fl with
    | ret u =>
      obtain ⟨v, σ', H', J, r, q⟩ := hs
      exact fin J.unwish r q
    | next =>
      obtain ⟨σ', H', J, q⟩ := hs
      exact fin (v := V.non) (u := Value.none) J.unwish rfl q
    | brk => obtain ⟨_, _, _, q⟩ := hs; exact q.elim
    | cont => obtain ⟨_, _, _, q⟩ := hs; exact q.elim
theorem run_g {mg' : Unit} {k : Nat} {f : Addr} {fd : FuncData} {ps : List Str} {sp : Sp} {pins : List (Addr × Obj)} {σ : L2.St} {H : Hp} {s : Shared} {Q : VK} {us : List Value} {vs : List V} (F : FnG X.prog X.w X.K X.mg X.base k f fd ps sp) (hgd : X.A.guards = some []) (hr : Room k X.A) (hb : Binds X.K fd ps [])
    (I : Inv X pins σ H s) (r : Vals vs us) (h : sp vs H Q E0) : wpAny (model X.prog X.w) X.A (call (.ref f) us) (EP X pins σ Q) X.xe s := by
  have hl : (us ++ []).length = ps.length := by rw [List.append_nil, ← r.length]; exact F.len _ _ _ _ h
  have hbi := hb s us I.kIn hl
  rw [List.append_nil] at hbi
  refine wpAny_call (codeAny_mono (F.run X.A X.stack s H ⟨us, []⟩ us vs Q hgd hr I.env0 hbi r h) fun q s' hq => ?_)
  cases q with
  | error e => exact hq.elim
  | ok fl =>
    cases fl with
    | ret u => exact I.after hq
    | next => exact hq.elim
    | brk => exact hq.elim
    | cont => exact hq.elim
theorem pe_callg {k : Nat} {f : Addr} {fd : FuncData} {ps : List Str} {sp : Sp} {x : Str} {p pos : Pos} {e : Expr} {es : List Expr} {t : TA} (F : FnG X.prog X.w X.K X.mg X.base k f fd ps sp) (hgd : X.A.guards = some []) (hr : Room k X.A) (hg : Gl X x) (hm : X.mg x = some (.ref f)) (hk : PySem.W.keepIn X.K (.ref f) = true) (hb : Binds X.K fd ps [])
    (ha : PA X (e :: es) t) (hdb : (x == ("__debug__" : Str)) = false := by decide) (he : starEach (e :: es) X.env = (false, eval e X.env) :: starEach es X.env := by rfl) (hpl : (backTo pos (starEach es X.env)).any (·.1) = false := by rfl) :
    PE X (.Call (.Name x p) (e :: es) [] pos) (fun σ H Q => t σ H fun vs H1 => sp vs H1 Q E0) :=
  ⟨fun pins s σ H Q I h => wpAny_Call_Name_kw (ld_glob I hg hm (PySem.W.callWith_K (h₀ := X.base) I.ok.mod.kin hk (thn (ha.run pos pins s σ H _ I h) fun us s1 ⟨vs, H1, I1, r, q⟩ => ⟨I1.kIn, run_g (mg' := ()) F hgd hr hb I1 r q⟩) he hpl) hdb)⟩
abbrev DSpec := List Dv → Wo → (PyData → Wo → Prop) → Prop
def spD (K : PySem.W.Frag) (m : Nat) (c : DSpec) : Sp := fun vs H Q _ => ∃ δ F as n R, as.length = m ∧ VRs K δ F H as vs ∧ Same F H ∧ δ.at_ K F H n ∧ (∀ a, a ∈ δ.own → F a = none ∧ H a ≠ none) ∧ c as n R ∧
  ∀ d n' F' H' v, R d n' → Gr δ F H F' H' → Same F' H' → δ.at_ K F' H' n' → Rp K F' d v → Q v H'
def dFn (m : Nat) (c : DSpec) (t : DTA) : DTE := fun ρ n R => t ρ n fun as n1 => as.length = m ∧ c as n1 fun d n2 => R (.dat d) n2
theorem we_fn {k m : Nat} {c : DSpec} {f : Addr} {fd : FuncData} {ps : List Str} {x : Str} {p pos : Pos} {e : Expr} {es : List Expr} {t : DTA} (F : FnG X.prog X.w X.K X.mg X.base k f fd ps (spD X.K m c)) (hgd : X.A.guards = some []) (hr : Room k X.A) (hg : Gl X x) (hm : X.mg x = some (.ref f)) (hk : PySem.W.keepIn X.K (.ref f) = true) (hb : Binds X.K fd ps [])
    (ha : WA Y X (e :: es) t) (hdb : (x == ("__debug__" : Str)) = false := by decide) (he : starEach (e :: es) X.env = (false, eval e X.env) :: starEach es X.env := by rfl) (hpl : (backTo pos (starEach es X.env)).any (·.1) = false := by rfl) :
    WE Y X (.Call (.Name x p) (e :: es) [] pos) (dFn m c t) :=
  pe_imp (pe_callg F hgd hr hg hm hk hb ha hdb he hpl) fun σ H Q ⟨Z, F, ρ, n, R, r, ht, k⟩ => ⟨Z, F, ρ, n, _, r, ht, fun as n1 F1 H1 vs ⟨hl, hx⟩ g1 s1 d1 w1 => by
    have b1 := r.b.step g1 s1 d1
    exact ⟨Z.δ, F1, as, n1, _, hl, w1, s1, d1, b1.dkF, hx, fun d n2 F2 H2 v h2 g2 s2 d2 w2 => k _ _ _ _ _ h2 (g1.trans g2) s2 d2 w2⟩⟩
def startR (N : List Str) (as : List Dv) : Rho := as.map some ++ List.replicate (N.length - as.length) none
theorem Base.gr {K : PySem.W.Frag} {Z : Fx} {F H : Hp} {n : Wo} (h0 : ∀ a, a ∈ Z.δ.own → Z.F0 a = none ∧ Z.H0 a ≠ none) (b : Base K Z F H n) : Gr Z.δ Z.F0 Z.H0 F H :=
  ⟨b.gF, b.gN, b.gH, b.gI, fun a h => b.gD a h⟩
theorem vrs_get {K : PySem.W.Frag} {δ : DkS} {F H : Hp} : ∀ {as : List Dv} {vs : List V} {i : Nat} {x : Dv}, VRs K δ F H as vs → as[i]? = some x → ∃ v, vs[i]? = some v ∧ VR K δ F H x v
  | _, _, i, x, .nil, e => by simp at e
  | _, _, 0, x, .cons a b, e => by
    simp at e; subst e
    exact ⟨_, rfl, a⟩
  | _, _, i + 1, x, .cons a b, e => by
    obtain ⟨v, e1, e2⟩ := vrs_get (i := i) b (by simpa using e)
    exact ⟨v, by simpa using e1, e2⟩
theorem sr_start {K : PySem.W.Frag} {δ : DkS} {F H : Hp} {N : List Str} {as : List Dv} {vs : List V} {n : Wo} (w : VRs K δ F H as vs) (hs : Same F H) (hd : δ.at_ K F H n) (ho : ∀ a, a ∈ δ.own → F a = none ∧ H a ≠ none) : SR ⟨F, H, δ⟩ K ⟨F, H, δ⟩ F H (L2.start N vs) (startR N as) n := by
  have hl : as.length = vs.length := Paired.length w
  have get : ∀ (i : Nat) (x : Dv), (startR N as)[i]? = some (some x) → as[i]? = some x := fun i x e => by
    unfold startR at e
    by_cases hi : i < as.length
    · rw [List.getElem?_append_left (by simpa using hi), List.getElem?_map] at e
      cases q : as[i]? with
      | none => rw [q] at e; cases e
      | some y => rw [q] at e; cases e; rfl
    · rw [List.getElem?_append_right (by simpa using hi), List.getElem?_replicate] at e
      split at e <;> cases e
  refine ⟨⟨hs, hd, ho, Same.refl _, fun _ _ h => h, fun _ _ _ h _ => h, fun _ _ _ _ h => ⟨_, h⟩⟩, rfl, rfl, Gr.refl, by unfold L2.start startR; simp [hl], fun i x e => ?_, fun i j a ds y _ e _ _ _ _ => ?_⟩
  · obtain ⟨v, e1, e2⟩ := vrs_get w (get i x e)
    refine ⟨v, ?_, ?_⟩
    · unfold L2.start
      have hi : i < vs.length := (List.getElem?_eq_some_iff.mp e1).1
      rw [List.getElem?_append_left (by simpa using hi), List.getElem?_map, e1]; rfl
    · cases x with
      | mt ds => exact e2.elim
      | dat d => exact e2
      | vw ds => exact e2
      | deck _ => exact e2
      | md _ _ => exact e2.elim
  · obtain ⟨v, e1, e2⟩ := vrs_get w (get i _ e)
    exact e2.elim
/-- THE RULE for a def: its body over data -/
theorem fnd {P : Program} {w : World} {K : PySem.W.Frag} {mg : Str → Option Value} {base : Heap} {x qual : Str} {st : Stmt} {f : Addr} {fd : FuncData} {N ps : List Str} {k : Nat} (c : DSpec) (F : Fun K x qual st f fd) (S : FnScope N ps (defScope st))
    (hb : ∀ (cdv : Value) (A : Around) (outer : List Env) (s : Shared) (H : Hp), A.guards = some [] → Room k (A.deeper (envOfC qual (defScope st) s.heap.objs.size f cdv)) → ∀ Y : Fx,
      ∃ t, DSs Y (cxOf CX0 P w K mg base N qual (defScope st) f cdv A outer s H E0).nox (defBody st) t ∧ ∀ as n R, as.length = ps.length → c as n R → t { nx := fun _ n' => R .none n', rt := R } (startR N as) n) : FnG P w K mg base (k + 1) f fd ps (spD K ps.length c) := by
  refine fng_of F S (fun vs H Q E ⟨δ, Fz, as, n, R, hl, w1, _⟩ => by rw [← Paired.length w1]; exact hl) fun cdv A outer s H vs Q hgd hr ⟨δ, Fz, as, n, R, hl, w1, s1, d1, o1, hc, hk⟩ => ?_
  obtain ⟨t, h1, h2⟩ := hb cdv A outer s H hgd hr ⟨Fz, H, δ⟩
  refine ⟨_, h1, ⟨Fz, H, δ⟩, Fz, startR N as, n, _, sr_start w1 s1 d1 o1, h2 as n R hl hc, ⟨fun F' H' σ' ρ' n' q r' => hk _ _ _ _ _ q (Base.gr o1 r'.b) r'.b.sub r'.b.dk (by simp [Rp]), fun d n' F' H' v q b q2 => hk _ _ _ _ _ q (Base.gr o1 b) b.sub b.dk q2, fun _ _ _ _ _ q _ => q.elim, fun _ _ _ _ _ q _ => q.elim⟩⟩
end DL
namespace DL
open PySem PySem.Spec PyProof.Rows L2
variable {X : Cx} {Y : Fx}
mutual
def sz : PyData → Nat
  | .none => 4
  | .bool _ => 5
  | .int i => i.natAbs.log2 + 4
  | .str s => 10 * s.length + 2
  | .list ds => szs ds + 3
  | .tuple ds => szs ds + 3
  | .dict kvs => szk kvs + 3
def szs : List PyData → Nat
  | [] => 0
  | d :: ds => sz d + 2 + szs ds
def szk : List (PyData × PyData) → Nat
  | [] => 0
  | (a, b) :: r => sz a + sz b + 4 + szk r
end
theorem slen_append (a b : Str) : (a ++ b).length = a.length + b.length := strLen_append a b
theorem textFrom_le : ∀ (ts : List Str) (k : Nat) (acc : Str), (textFrom k acc ts).length ≤ acc.length + (ts.map fun t => t.length + 2).sum
  | [], k, acc => by show acc.length ≤ _; simp
  | t :: r, k, acc => by
    have h := textFrom_le r (k + 1) (acc ++ (if k > 0 then ", " else "" : String) ++ t)
    have e : (acc ++ (if k > 0 then ", " else "" : String) ++ t).length ≤ acc.length + 2 + t.length := by
      rw [slen_append, slen_append]
      by_cases hk : k > 0
      · rw [if_pos hk]; exact Nat.le_of_eq rfl
      · rw [if_neg hk]; show acc.length + 0 + t.length ≤ _; omega
    show (textFrom (k + 1) (acc ++ (if k > 0 then ", " else "" : String) ++ t) r).length ≤ _
    simp only [List.map_cons, List.sum_cons]
    omega
theorem piled_le (ts : List Str) : piled ts = (ts.map fun t => t.length + 2).sum := by
  unfold piled
  induction ts with
  | nil => rfl
  | cons t r ih => simp [List.map_cons, List.sum_cons] at ih ⊢ <;> omega
theorem join_le (ts : List Str) : (Str.join ", " ts).length ≤ (ts.map fun t => t.length + 2).sum := by
  by_cases h : ts = []
  · subst h; exact Nat.le_refl 0
  · have := join_length_add ts h
    rw [piled_le] at this
    omega
theorem tupleText_le (ts : List Str) : (tupleText ts).length ≤ 3 + (ts.map fun t => t.length + 2).sum := by
  unfold tupleText
  rw [slen_append, slen_append]
  have h := join_le ts
  have h1 : (("(" : String) : Str).length = 1 := rfl
  split
  · have : ((",)" : String) : Str).length = 2 := rfl
    omega
  · have : ((")" : String) : Str).length = 1 := rfl
    omega
theorem listText_le (ts : List Str) : (listText ts).length ≤ 3 + (ts.map fun t => t.length + 2).sum := by
  unfold listText
  rw [slen_append]
  have h := textFrom_le ts 0 "["
  have h1 : (("[" : String) : Str).length = 1 := rfl
  have h2 : (("]" : String) : Str).length = 1 := rfl
  omega
theorem int_text_le (i : Int) : (Str.ofString (toString i)).length ≤ i.natAbs.log2 + 4 := by
  rw [PySem.ofString_length]
  have := PySem.int_text_length_le (a := i) (k := i.natAbs.log2 + 1) (by omega) (by omega)
  omega
mutual
theorem shown_le : ∀ d : PyData, d.canLay0 = true → d.shown.length ≤ sz d
  | .none, _ => by simp only [PyData.shown, sz]; decide
  | .bool b, _ => by cases b <;> (simp only [PyData.shown, sz]; decide)
  | .int i, _ => by simp only [PyData.shown, sz]; exact int_text_le i
  | .str s, h => by
    simp only [PyData.shown, sz]
    simp only [PyData.canLay0, PyData.strOk, Array.all_eq_true'] at h
    exact PySem.StrLaws.reprText_len s fun c hc => by
      have q := h c (by simpa using hc)
      simp at q; omega
  | .list ds, h => by
    simp only [PyData.shown, sz]
    have := shownAll_le ds (by simpa only [PyData.canLay0] using h)
    have := listText_le (PyData.shownAll ds)
    omega
  | .tuple ds, h => by
    simp only [PyData.shown, sz]
    have := shownAll_le ds (by simpa only [PyData.canLay0] using h)
    have := tupleText_le (PyData.shownAll ds)
    omega
  | .dict _, h => by simp [PyData.canLay0] at h
theorem shownAll_le : ∀ ds : List PyData, PyData.canLayAll0 ds = true → ((PyData.shownAll ds).map fun t => t.length + 2).sum ≤ szs ds
  | [], _ => by simp [PyData.shownAll, szs]
  | d :: ds, h => by
    simp only [PyData.canLayAll0, Bool.and_eq_true] at h
    have h1 := shown_le d h.1
    have h2 := shownAll_le ds h.2
    simp only [PyData.shownAll, szs, List.map_cons, List.sum_cons]
    omega
end
/-- what may be shown and compared -/
structure Tame (m k : Nat) (d : PyData) : Prop where
  sh : d.showable = true
  cl : d.canLay0 = true
  dp : d.depth ≤ k
  le : sz d ≤ m
theorem Tame.mono {m k m' k' : Nat} {d : PyData} (h : Tame m k d) (h1 : m ≤ m') (h2 : k ≤ k') : Tame m' k' d := ⟨h.sh, h.cl, Nat.le_trans h.dp h2, Nat.le_trans h.le h1⟩
theorem Tame.shaped {m k : Nat} {d : PyData} (h : Tame m k d) (hk : k ≤ 64) : Sh d := by
  unfold Sh SeqAt.shaped
  rw [Bool.and_eq_true]
  exact ⟨h.cl, decide_eq_true (Nat.le_trans h.dp hk)⟩
theorem tame_int {i : Int} {m : Nat} (h : i.natAbs < 2 ^ m) (hm : m ≤ 1000) (h0 : 0 < m) : Tame (m + 3) 0 (.int i) := by
  have hl : i.natAbs.log2 < m := by
    by_cases q : i.natAbs = 0
    · rw [q]; simpa using h0
    · exact (Nat.log2_lt q).mpr h
  exact ⟨by simp only [PyData.showable]; exact decide_eq_true (by omega), rfl, Nat.zero_le _, by simp only [sz]; omega⟩
theorem tame_str {s : Str} (h : PyData.strOk s = true) : Tame (10 * s.length + 2) 0 (.str s) := ⟨rfl, h, Nat.le_refl _, Nat.le_refl _⟩
theorem szs_le {m : Nat} : ∀ {ds : List PyData}, (∀ d ∈ ds, sz d ≤ m) → szs ds ≤ ds.length * (m + 2)
  | [], _ => by simp [szs]
  | d :: ds, h => by
    have h1 := h d (by simp)
    have h2 := szs_le (ds := ds) fun e he => h e (by simp [he])
    simp only [szs, List.length_cons, Nat.add_mul]
    omega
theorem canAll {ds : List PyData} (h : ∀ d ∈ ds, d.canLay0 = true) : PyData.canLayAll0 ds = true := by
  induction ds with
  | nil => rfl
  | cons d ds ih => simp only [PyData.canLayAll0, Bool.and_eq_true]; exact ⟨h d (by simp), ih fun e he => h e (by simp [he])⟩
theorem showAll {ds : List PyData} (h : ∀ d ∈ ds, d.showable = true) : PyData.showableAll ds = true := by
  induction ds with
  | nil => rfl
  | cons d ds ih => simp only [PyData.showableAll, Bool.and_eq_true]; exact ⟨h d (by simp), ih fun e he => h e (by simp [he])⟩
theorem depthAll_le {k : Nat} {ds : List PyData} (h : ∀ d ∈ ds, d.depth ≤ k) : PyData.depthAll ds ≤ k := by
  induction ds with
  | nil => exact Nat.zero_le _
  | cons d ds ih => simp only [PyData.depthAll]; exact Nat.max_le.mpr ⟨h d (by simp), ih fun e he => h e (by simp [he])⟩
theorem tame_tuple {m k l : Nat} {ds : List PyData} (h : ∀ d ∈ ds, Tame m k d) (hl : ds.length ≤ l) : Tame (l * (m + 2) + 3) (k + 1) (.tuple ds) :=
  ⟨by simp only [PyData.showable]; exact showAll fun d hd => (h d hd).sh, by simp only [PyData.canLay0]; exact canAll fun d hd => (h d hd).cl, by simp only [PyData.depth]; exact Nat.succ_le_succ (depthAll_le fun d hd => (h d hd).dp), by
    simp only [sz]
    have := szs_le fun d hd => (h d hd).le
    have := Nat.mul_le_mul_right (m + 2) hl
    omega⟩
theorem tame_list {m k l : Nat} {ds : List PyData} (h : ∀ d ∈ ds, Tame m k d) (hl : ds.length ≤ l) : Tame (l * (m + 2) + 3) (k + 1) (.list ds) :=
  ⟨by simp only [PyData.showable]; exact showAll fun d hd => (h d hd).sh, by simp only [PyData.canLay0]; exact canAll fun d hd => (h d hd).cl, by simp only [PyData.depth]; exact Nat.succ_le_succ (depthAll_le fun d hd => (h d hd).dp), by
    simp only [sz]
    have := szs_le fun d hd => (h d hd).le
    have := Nat.mul_le_mul_right (m + 2) hl
    omega⟩
theorem tame_ints {ns : List Int} {m : Nat} (h : ∀ n ∈ ns, n.natAbs < 2 ^ m) (hm : m ≤ 1000) (h0 : 0 < m) : ∀ d ∈ ns.map PyData.int, Tame (m + 3) 0 d := fun d hd => by
  obtain ⟨n, hn, rfl⟩ := List.mem_map.mp hd
  exact tame_int (h n hn) hm h0
theorem Rp.reads {pins : List (Addr × Obj)} {σ : L2.St} {H : Hp} {s : Shared} (I : Inv X pins σ H s) {d : PyData} {v : V} {u : Value} (c : d.canLay0 = true) (h : Rp X.K H d v) (r : RelV v u) : ∃ as, Reads s.heap u d as := Dp.reads I d v u (Rp.dp d v c h) r
def tyD : PyData → String
  | .none => "NoneType"
  | .bool _ => "bool"
  | .int _ => "int"
  | .str _ => "str"
  | .list _ => "list"
  | .tuple _ => "tuple"
  | .dict _ => "dict"
def isiB (s t : String) : Bool := s == t || (s == "bool" && t == "int")
theorem tyD_of {K : PySem.W.Frag} {H : Hp} {d : PyData} {v : V} (h : Rp K H d v) (hn : isRefD d = false) : TyX K H v (.type (tyD d)) := by
  cases d <;> simp only [Rp] at h
  case none => subst h; exact .base .non
  case bool => subst h; exact .base (.bl _)
  case int => subst h; exact .base (.int _)
  case str => subst h; exact .base (.str _)
  case list => obtain ⟨a, xs, rfl, h1, _⟩ := h; exact .base (.lst h1)
  case tuple => obtain ⟨a, xs, rfl, h1, _⟩ := h; exact h1.elim (fun h => .base (.tup h)) fun ⟨o, q⟩ => .fTuple q
  case dict =>
    rcases h with ⟨a, xs, rfl, h1, _⟩ | ⟨a, e, rfl⟩ | ⟨_, _, _, e, _⟩
    · exact .base (.dK h1)
    · rw [e] at hn; cases hn
    · rw [e] at hn; cases hn
def isTy (t : String) : Prop := t = "int" ∨ t = "bool" ∨ t = "str" ∨ t = "tuple" ∨ t = "list"
theorem kit_isi {K : PySem.W.Frag} {t : String} (h : isTy t) (d : PyData) : PySem.W.kitOne K (.type (tyD d)) (.type t) = some (isiB (tyD d) t) := by
  rcases h with rfl | rfl | rfl | rfl | rfl <;> cases d <;> (simp only [tyD]; exact kit_ty (by decide +kernel))
def isDR (x : Dv) : Bool := x.isDk || isRefD x.toD
theorem isDR_dk {x : Dv} (h : isDR x = false) : x.isDk = false := (Bool.or_eq_false_iff.mp h).1
theorem isDR_rf {x : Dv} (h : isDR x = false) : isRefD x.toD = false := (Bool.or_eq_false_iff.mp h).2
def oIsi (t : String) (x : Dv) (R : PyData → Prop) : Prop := isDR x = false ∧ R (.bool (isiB (tyD x.toD) t))
theorem we_isi {e : Expr} {t : DTE} {T : String} {y : Str} {p p2 pos : Pos} (hT : isTy T) (hg : Gl X "isinstance") (hm : X.mg "isinstance" = none) (he : WE Y X e t) (hgT : Gl X y) (hmT : X.mg y = none) (hv : bootBuiltins y = some (.type T)) (hn : y ≠ "__name__" := by decide) (hdb : (y == ("__debug__" : Str)) = false := by decide)
    (h1 : starEach [e, .Name y p2] X.env = (false, eval e X.env) :: starEach [.Name y p2] X.env := by rfl) (h2 : starEach [.Name y p2] X.env = (false, eval (.Name y p2) X.env) :: starEach [] X.env := by rfl) (hpl : (backTo pos (starEach [.Name y p2] X.env)).any (·.1) = false := by rfl) :
    WE Y X (.Call (.Name "isinstance" p) [e, .Name y p2] [] pos) (dUn (oIsi T) t) :=
  pe_imp (pe_callB call_isi hg hm PyProof.Rows.boot_isinstance (pa_cons he (pa_cons (pe_bltn (v := .ty T) hgT hmT hv rfl hn hdb) pa_nil h2) h1) (by decide) (by decide) h1 hpl)
    (one (r := fun x H1 Q => rIsi X.K [x, .ty T] H1 Q) fun δ F H x v R Q hs hx ⟨hd, hr⟩ b => ⟨v, .ty T, _, _, _, rfl, .ty T, tyD_of (hx.rp hs (isDR_dk hd)) (isDR_rf hd), kit_isi hT _, b.bl hs hr⟩)
end DL
namespace DL
open PySem PySem.Spec PyProof.Rows L2
variable {X : Cx} {Y : Fx}
section
variable {prog : Program} {w : World} {A : Around} {E : Value → Shared → Prop} {s : Shared} {l : Addr} {its : List Value} {ns : List Int} {xs : Array (Int × Tok)} {Q : Value → Shared → Prop}
theorem iter_tupI {Q : Value → Shared → Prop} (hl : s.heap.IsTuple l (intItems xs))
    (h : ∀ s₂ : Shared, s₂ = { s with heap := s.heap.push { cls := .type "tuple_iterator", data := .fields #[.ref l, .int 0 0] } } →
      (s₂.heap.IsTupleIter s.heap.objs.size l 0 ∧ s₂.heap.IsTuple l (intItems xs)) → (∀ b ∈ [s.heap.objs.size, l], b < s₂.heap.objs.size) → l ≠ s.heap.objs.size → Q (.ref s.heap.objs.size) s₂) :
    wpAny (model prog w) A (pyIter (.ref l)) Q E s := by
  obtain ⟨o, e1, e2⟩ := id hl
  have hlt : l < s.heap.objs.size := Heap.lt_size e1
  refine wpAny_pyIter_tuple hl (h _ rfl ⟨⟨_, Heap.get?_push_size _ rfl, rfl, rfl⟩, ⟨o, Heap.get?_push_of_some _ e1, e2⟩⟩ (fun b hb => ?_) (Nat.ne_of_lt hlt))
  have hsz : ∀ (o : Obj), (s.heap.push o).objs.size = s.heap.objs.size + 1 := fun o => Heap.size_push _ _
  rw [hsz]
  rcases List.mem_cons.mp hb with e | hb
  · rw [e]; exact Nat.lt_succ_self _
  · rw [List.mem_singleton.mp hb]; exact Nat.lt_succ_of_lt hlt
theorem kept_tup {h' : Heap} (hk : ∀ b o, b ∉ [s.heap.objs.size] → (s.heap.push { cls := .type "tuple_iterator", data := .fields #[.ref l, .int 0 0] }).get? b = some o → h'.get? b = some o) :
    ∀ b o, s.heap.get? b = some o → h'.get? b = some o := fun b o e => by
  refine hk b o (fun hm => ?_) (Heap.get?_push_of_some _ e)
  have q := Heap.lt_size e
  rw [List.mem_singleton.mp hm] at q
  exact absurd q (Nat.lt_irrefl _)
theorem sum_tupI (hh : A.handled = none) (hl : s.heap.IsTuple l its.toArray) (hi : IntsAre its ns)
    (h : ∀ h' tk t', (∀ b o, s.heap.get? b = some o → h'.get? b = some o) → Q (.int ns.sum t') { s with heap := h', toks := tk }) : wpAny (model prog w) A (call (.builtin "sum") [.ref l]) Q E s := by
  obtain ⟨xs, e⟩ := hi.allInts.items
  have hn : numsOf (intItems xs).toList = ns := by rw [← e]; exact hi.numsOf
  rw [nums_intItems] at hn
  rw [e] at hl
  refine call_sum_walkG (iter_tupI hl fun s₂ e st hfp hlI => ?_)
  subst e
  refine ⟨_, _, _, _, _, _, numAt xs, rfl, Walks.tuple (A := A.in1) hh _ l hlI (intItems xs), st, hfp, (fun _ _ => intItems_at), fun h' tk t' hk => ?_⟩
  have q := h h' tk t' (kept_tup hk)
  have e2 : preSum (numAt xs) xs.size = ns.sum := by rw [preSum_eq, List.take_of_length_le (by simp), hn]
  rw [← e2] at q
  simpa [intItems] using q
theorem max_tupI (hh : A.handled = none) (hl : s.heap.IsTuple l its.toArray) (hi : IntsAre its ns) (hne : 0 < ns.length)
    (h : ∀ h' tk M t', (∀ b o, s.heap.get? b = some o → h'.get? b = some o) → M ∈ ns → (∀ a, a ∈ ns → a ≤ M) → Q (.int M t') { s with heap := h', toks := tk }) : wpAny (model prog w) A (call (.builtin "max") [.ref l]) Q E s := by
  obtain ⟨xs, e⟩ := hi.allInts.items
  have hn : numsOf (intItems xs).toList = ns := by rw [← e]; exact hi.numsOf
  rw [nums_intItems] at hn
  subst hn
  rw [e] at hl
  have hsz : 0 < xs.size := by simpa using hne
  refine call_max_walk (iter_tupI hl fun s₂ e st hfp hlI => ?_)
  subst e
  refine ⟨_, _, _, _, _, _, _, rfl, Walks.tuple (A := A.in1) hh _ l hlI (intItems xs), st, hfp, by simpa [intItems] using hsz, CmpOf.ints_gt (numAt xs) (fun _ _ => intItems_at), fun v h' tk hP hk => ?_⟩
  have hv : (intItems xs)[argBest (fun i j => decide (numAt xs i > numAt xs j)) (xs.size - 1)]? = some v := by simpa [intItems] using hP
  obtain ⟨t, rfl⟩ := intItems_at hv
  obtain ⟨h1, h2⟩ := argBest_gt (numAt xs) (xs.size - 1)
  refine h h' tk _ t (kept_tup hk) ?_ fun a ha => ?_
  · rw [numAt_eq]; exact PySem.getD_mem (by rw [List.length_map, Array.length_toList]; omega)
  · obtain ⟨j, hj, rfl⟩ := mem_getD ha
    rw [List.length_map, Array.length_toList] at hj
    rw [← numAt_eq]; exact h2 j (by omega)
theorem min_tupI (hh : A.handled = none) (hl : s.heap.IsTuple l its.toArray) (hi : IntsAre its ns) (hne : 0 < ns.length)
    (h : ∀ h' tk M t', (∀ b o, s.heap.get? b = some o → h'.get? b = some o) → M ∈ ns → (∀ a, a ∈ ns → M ≤ a) → Q (.int M t') { s with heap := h', toks := tk }) : wpAny (model prog w) A (call (.builtin "min") [.ref l]) Q E s := by
  obtain ⟨xs, e⟩ := hi.allInts.items
  have hn : numsOf (intItems xs).toList = ns := by rw [← e]; exact hi.numsOf
  rw [nums_intItems] at hn
  subst hn
  rw [e] at hl
  have hsz : 0 < xs.size := by simpa using hne
  refine call_min_walk (iter_tupI hl fun s₂ e st hfp hlI => ?_)
  subst e
  refine ⟨_, _, _, _, _, _, _, rfl, Walks.tuple (A := A.in1) hh _ l hlI (intItems xs), st, hfp, by simpa [intItems] using hsz, CmpOf.ints_lt (numAt xs) (fun _ _ => intItems_at), fun v h' tk hP hk => ?_⟩
  have hv : (intItems xs)[argBest (fun i j => decide (numAt xs i < numAt xs j)) (xs.size - 1)]? = some v := by simpa [intItems] using hP
  obtain ⟨t, rfl⟩ := intItems_at hv
  obtain ⟨h1, h2⟩ := argBest_lt (numAt xs) (xs.size - 1)
  refine h h' tk _ t (kept_tup hk) ?_ fun a ha => ?_
  · rw [numAt_eq]; exact PySem.getD_mem (by rw [List.length_map, Array.length_toList]; omega)
  · obtain ⟨j, hj, rfl⟩ := mem_getD ha
    rw [List.length_map, Array.length_toList] at hj
    rw [← numAt_eq]; exact h2 j (by omega)
end
section
def rSumA (H : Hp) (vs : List V) (Q : VK) : Prop := ∃ (a : Addr) (ns : List Int), vs = [V.ref a] ∧ (H a = some (.lst (ns.map V.int)) ∨ Rd H a (.tup (ns.map V.int))) ∧ Q (.int ns.sum) H
theorem call_sumA (hc : X.calm = true) : CallR X (.builtin "sum") (fun vs H Q => rSumA H vs Q) := by
  intro pins s σ H vs us Q I r ⟨a, ns, e, hs, q⟩
  subst e
  rw [Vals.ref1 r]
  rcases hs with hs | hs
  · obtain ⟨its, rv, hl, _⟩ := I.list (SqL.of hs)
    exact sum_raw (I.ok.hd hc) hl.isList rv.ints fun h' tk t' hk => ⟨.int _, H, I.kept hk, ⟨_, rfl⟩, q⟩
  · obtain ⟨its, rv, hl, _⟩ := I.tuple (sqtR hs)
    exact sum_tupI (I.ok.hd hc) (show s.heap.IsTuple a its.toArray from hl) rv.ints fun h' tk t' hk => ⟨.int _, H, I.kept hk, ⟨_, rfl⟩, q⟩
def rBest (ge : Int → Int → Prop) (H : Hp) (vs : List V) (Q : VK) : Prop := ∃ (a : Addr) (ns : List Int), vs = [V.ref a] ∧ (H a = some (.lst (ns.map V.int)) ∨ Rd H a (.tup (ns.map V.int))) ∧ 0 < ns.length ∧ ∀ m, m ∈ ns → (∀ y, y ∈ ns → ge m y) → Q (.int m) H
def rMax2 (H : Hp) (vs : List V) (Q : VK) : Prop := (∃ i j, vs = [V.int i, V.int j] ∧ Q (.int (if j > i then j else i)) H) ∨ rBest (fun m y => y ≤ m) H vs Q
def rMin2 (H : Hp) (vs : List V) (Q : VK) : Prop := (∃ i j, vs = [V.int i, V.int j] ∧ Q (.int (if j < i then j else i)) H) ∨ rBest (fun m y => m ≤ y) H vs Q
theorem call_maxA (hc : X.calm = true) : CallR X (.builtin "max") (fun vs H Q => rMax2 H vs Q) := by
  refine CallR.or (call_max2 hc) ?_
  intro pins s σ H vs us Q I r ⟨a, ns, e, hs, hne, q⟩
  subst e
  rw [Vals.ref1 r]
  rcases hs with hs | hs
  · obtain ⟨its, rv, hl, _⟩ := I.list (SqL.of hs)
    exact max_raw (I.ok.hd hc) hl.isList rv.ints hne fun h' tk m t' hk h1 h2 => ⟨.int _, H, I.kept hk, ⟨_, rfl⟩, q m h1 h2⟩
  · obtain ⟨its, rv, hl, _⟩ := I.tuple (sqtR hs)
    exact max_tupI (I.ok.hd hc) (show s.heap.IsTuple a its.toArray from hl) rv.ints hne fun h' tk m t' hk h1 h2 => ⟨.int _, H, I.kept hk, ⟨_, rfl⟩, q m h1 h2⟩
theorem call_minA (hc : X.calm = true) : CallR X (.builtin "min") (fun vs H Q => rMin2 H vs Q) := by
  refine CallR.or (call_min2 hc) ?_
  intro pins s σ H vs us Q I r ⟨a, ns, e, hs, hne, q⟩
  subst e
  rw [Vals.ref1 r]
  rcases hs with hs | hs
  · obtain ⟨its, rv, hl, _⟩ := I.list (SqL.of hs)
    exact min_raw (I.ok.hd hc) hl.isList rv.ints hne fun h' tk m t' hk h1 h2 => ⟨.int _, H, I.kept hk, ⟨_, rfl⟩, q m h1 h2⟩
  · obtain ⟨its, rv, hl, _⟩ := I.tuple (sqtR hs)
    exact min_tupI (I.ok.hd hc) (show s.heap.IsTuple a its.toArray from hl) rv.ints hne fun h' tk m t' hk h1 h2 => ⟨.int _, H, I.kept hk, ⟨_, rfl⟩, q m h1 h2⟩
variable {K : PySem.W.Frag}
theorem seq_ints {δ : DkS} {F H : Hp} {x : Dv} {v : V} {ns : List Int} (hs : Same F H) (h : VR K δ F H x v) (e : seqD x.toD = some (ns.map .int)) : ∃ a, v = .ref a ∧ (H a = some (.lst (ns.map V.int)) ∨ Rd H a (.tup (ns.map V.int))) := by
  obtain ⟨a, us, rfl, h2, h3⟩ := h.seq hs e
  rw [h3.ints] at h2
  exact ⟨a, rfl, h2⟩
theorem ck_sum : CallOk K (fun vs H Q => rSumA H vs Q) oSum := fun δ F H xs vs R Q hs hv ⟨x, ns, e, e2, hr⟩ b => by
  subst e
  obtain ⟨v, rfl, h1⟩ := vr1 hv
  obtain ⟨a, rfl, h2⟩ := seq_ints hs h1 e2
  exact ⟨a, ns, rfl, h2, b.int hs hr⟩
def oMax : DC := fun xs R => match xs with
  | [.dat (.int i), .dat (.int j)] => R (.int (if j > i then j else i))
  | [x] => ∃ ns : List Int, seqD x.toD = some (ns.map .int) ∧ 0 < ns.length ∧ ∀ m, m ∈ ns → (∀ y, y ∈ ns → y ≤ m) → R (.int m)
  | _ => False
def oMin : DC := fun xs R => match xs with
  | [.dat (.int i), .dat (.int j)] => R (.int (if j < i then j else i))
  | [x] => ∃ ns : List Int, seqD x.toD = some (ns.map .int) ∧ 0 < ns.length ∧ ∀ m, m ∈ ns → (∀ y, y ∈ ns → m ≤ y) → R (.int m)
  | _ => False
theorem ck_max : CallOk K (fun vs H Q => rMax2 H vs Q) oMax := fun δ F H xs vs R Q hs hv h b => by
  unfold oMax at h
  split at h
  · exact .inl ⟨_, _, vrs2 hv, b.int hs h⟩
  · obtain ⟨ns, e2, hne, hr⟩ := h
    obtain ⟨v, rfl, h1⟩ := vr1 hv
    obtain ⟨a, rfl, h2⟩ := seq_ints hs h1 e2
    exact .inr ⟨a, ns, rfl, h2, hne, fun m k1 k2 => b.int hs (hr m k1 k2)⟩
  · exact h.elim
theorem ck_min : CallOk K (fun vs H Q => rMin2 H vs Q) oMin := fun δ F H xs vs R Q hs hv h b => by
  unfold oMin at h
  split at h
  · exact .inl ⟨_, _, vrs2 hv, b.int hs h⟩
  · obtain ⟨ns, e2, hne, hr⟩ := h
    obtain ⟨v, rfl, h1⟩ := vr1 hv
    obtain ⟨a, rfl, h2⟩ := seq_ints hs h1 e2
    exact .inr ⟨a, ns, rfl, h2, hne, fun m k1 k2 => b.int hs (hr m k1 k2)⟩
  · exact h.elim
end
def oEqA (neg : Bool) : D2 := fun x y R =>
  match x.toD, y.toD with
  | .str s, .str t => R (.bool (if neg then !decide (s = t) else decide (s = t)))
  | d, e => x.isDk = false ∧ y.isDk = false ∧ Sh d ∧ Sh e ∧ R (.bool (if neg then !PyData.eqv d e else PyData.eqv d e))
theorem or_eqA (hu : X.A.units + 64 < cLine) : OpR X (compareOp .Eq) (fun x y H Q => rEqD X.K x y H Q ∨ rEq x y H Q) := OpR.or (op_eqD hu) op_eq
theorem or_neA (hu : X.A.units + 64 < cLine) : OpR X (compareOp .NotEq) (fun x y H Q => rNeD X.K x y H Q ∨ rNe x y H Q) := OpR.or (op_neD hu) op_ne
section
variable {K : PySem.W.Frag}
theorem VR.str {δ : DkS} {F H : Hp} {x : Dv} {v : V} {s : Str} (hs : Same F H) (h : VR K δ F H x v) (e : x.toD = .str s) : v = .str s := by
  have r := h.rp hs (notDeck_of e nofun)
  rw [e] at r
  simpa only [Rp] using r
theorem bi_eqA : BinOk K (fun x y H Q => rEqD K x y H Q ∨ rEq x y H Q) (oEqA false) := fun δ F H x y v u R Q hs hx hy h b => by
  unfold oEqA at h
  split at h
  · rename_i s t e1 e2
    have r1 := hx.str hs e1; have r2 := hy.str hs e2
    subst r1 r2
    refine .inr ⟨rfl, b.bl hs ?_⟩
    have e : decide (V.str s = V.str t) = decide (s = t) := by
      by_cases q : s = t
      · subst q; simp
      · rw [decide_eq_false q, decide_eq_false fun z => q (V.str.inj z)]
    rw [e]; exact h
  · exact .inl (bi_eq δ F H x y v u R Q hs hx hy h b)
theorem bi_neA : BinOk K (fun x y H Q => rNeD K x y H Q ∨ rNe x y H Q) (oEqA true) := fun δ F H x y v u R Q hs hx hy h b => by
  unfold oEqA at h
  split at h
  · rename_i s t e1 e2
    have r1 := hx.str hs e1; have r2 := hy.str hs e2
    subst r1 r2
    refine .inr ⟨rfl, b.bl hs ?_⟩
    have e : decide (V.str s = V.str t) = decide (s = t) := by
      by_cases q : s = t
      · subst q; simp
      · rw [decide_eq_false q, decide_eq_false fun z => q (V.str.inj z)]
    rw [e]; exact h
  · exact .inl (bi_ne δ F H x y v u R Q hs hx hy h b)
theorem or_mulA : OpR X (binaryOp .Mult) (fun x y H Q => rI CMul (fun i j => .int (i * j)) x y H Q ∨ rRep x y H Q) := OpR.or op_mul op_rep
theorem bi_mul : BinOk K (fun x y H Q => rI CMul (fun i j => .int (i * j)) x y H Q ∨ rRep x y H Q) oMul := fun δ F H x y v u R Q hs hx hy h b => by
  unfold oMul at h
  split at h
  · rename_i i j e1 e2
    have r1 := hx.rp hs (notDeck_of e1 nofun); have r2 := hy.rp hs (notDeck_of e2 nofun)
    rw [e1] at r1; rw [e2] at r2
    simp only [Rp] at r1 r2
    exact .inl ⟨i, j, r1, r2, h.1, b.int hs h.2⟩
  · rename_i xs k e1 e2
    have r2 := hy.rp hs (notDeck_of e2 nofun)
    rw [e2] at r2
    simp only [Rp] at r2
    obtain ⟨a, l, rfl, h1, h2⟩ := hx.lst hs e1
    obtain ⟨k1, k2, k3, hr⟩ := h
    refine .inr ⟨a, k, l, rfl, r2, h1, k1, k2, by rw [← h2.length]; exact k3, ?_⟩
    have rep : ∀ m : Nat, Rps K F (List.replicate m xs).flatten (List.replicate m l).flatten := fun m => by
      induction m with
      | zero => exact rps_nil
      | succ m ih => rw [List.replicate_succ, List.replicate_succ, List.flatten_cons, List.flatten_cons]; exact h2.append ih
    exact fun p hp => b.lst hs hr (rep k.toNat) hp
  · exact h.elim
end
end DL
namespace DL
open PySem PySem.Spec PyProof.Rows L2
/-- at the law's entry only the script may be tracked, as a thing that nobody writes -/
def entryH (K : PySem.W.Frag) (a : Addr) (o : Obj) (vs : List V) : Hp := fun b => if b = a ∧ K.lookup a = none then some (.frz o (.lst vs)) else none
theorem entry_some {K : PySem.W.Frag} {a b : Addr} {o : Obj} {vs : List V} {u : HO} (h : entryH K a o vs b = some u) : b = a ∧ K.lookup a = none ∧ u = .frz o (.lst vs) := by
  unfold entryH at h
  by_cases q : b = a ∧ K.lookup a = none
  · rw [if_pos q] at h; cases h; exact ⟨q.1, q.2, rfl⟩
  · rw [if_neg q] at h; cases h
theorem entry_none {K : PySem.W.Frag} {a b : Addr} {o : Obj} {vs : List V} (h : b ≠ a) : entryH K a o vs b = none := if_neg fun q => h q.1
def spLaw (K : PySem.W.Frag) : Sp := fun vs H Q _ => ∃ (a : Addr) (ns : List Int), vs = [.ref a] ∧ SqL K H a (ns.map V.int) ∧ ns.length ≤ 63 ∧ (∀ b, H b = none ∨ ∃ o xs, H b = some (.frz o (.lst xs))) ∧ ∀ H', Q (.bl true) H'
theorem law_g {P : Program} {w : World} {K : PySem.W.Frag} {mg mb : Str → Option Value} {k : Nat} {fa a : Addr} {fd : FuncData} {x : Str} {s₁ : Shared} {vs : List Value} {ns : List Int}
    (KX : K.In s₁.heap) (hns : s₁.heap.Ns mainGlobals mg) (hb : s₁.heap.Ns builtinsNs mb) (hbb : ∀ x : Str, x ≠ "__name__" → mb x = bootBuiltins x) (hlim : s₁.heap.NoLimit) (hg : s₁.gens = #[])
    (ha : s₁.heap.get? a = some { cls := .type "list", data := .seq vs.toArray }) (hi : IntsAre vs ns) (hl : ns.length ≤ 63) (hr : Room k callerA)
    (F : ∀ base : Heap, K.In base → base.Ns mainGlobals mg → FnG P w K mg base k fa fd [x] (spLaw K)) (hbind : ∀ (s : Shared) (u : Value), BindsTo s fd ⟨[u], []⟩ [(x, u)]) :
    codeAny (model P w) callerA (.call (.ref fa) ⟨[.ref a], []⟩) (fun r s' => r = .ok (.ret (.bool true)) ∧ PySem.OldK s₁.heap s'.heap ∧ s'.os = s₁.os ∧ AllBare s'.gens) s₁ := by
  let ob : Obj := { cls := .type "list", data := .seq vs.toArray }
  let H := entryH K a ob (ns.map V.int)
  have rv := vals_ints hi
  have hl2 : ns.length ≤ sizeLine := Nat.le_trans hl (by decide)
  have only : ∀ b, H b = none ∨ ∃ o xs, H b = some (.frz o (.lst xs)) := fun b => by
    cases q : H b with
    | none => exact .inl rfl
    | some u => obtain ⟨_, _, rfl⟩ := entry_some q; exact .inr ⟨_, _, rfl⟩
  have script : SqL K H a (ns.map V.int) := by
    cases q : K.lookup a with
    | none => exact .inl (.inr ⟨ob, if_pos ⟨rfl, q⟩⟩)
    | some o =>
      have e := KX a o q
      rw [ha] at e
      cases e
      exact .inr ⟨_, vs.toArray, _, q, rfl, rfl, rfl, by rw [List.size_toArray, hi.length]; exact hl2, by simpa using rv⟩
  have hok : HOk P w H s₁.heap := fun b u q => by
    obtain ⟨rfl, _, rfl⟩ := entry_some q
    exact ⟨ha, by rw [List.length_map]; exact hl2, vs, _, rv, ha⟩
  have keepB : ∀ {b : Addr} {o : Obj}, s₁.heap.get? b = some o → H b = none → (hidT s₁.heap H).get? b = some o := fun e n => hidT_get e n
  have keepN : ∀ {b : Addr} {m : Str → Option Value}, s₁.heap.Ns b m → (hidT s₁.heap H).Ns b m := fun {b m} ⟨o, es, ep, e, d, r⟩ => by
    refine ⟨o, es, ep, keepB e (entry_none fun q => ?_), d, r⟩
    subst q
    rw [ha] at e; cases e; cases d
  have keepK : K.In (hidT s₁.heap H) := fun b o e => keepB (KX b o e) (by
    cases q : H b with
    | none => rfl
    | some u =>
      obtain ⟨rfl, q2, _⟩ := entry_some q
      rw [q2] at e; cases e)
  have lim2 : (hidT s₁.heap H).NoLimit := by
    obtain ⟨mc, h1, h2⟩ := hlim
    exact ⟨mc, keepN h1, h2⟩
  have e0 : Env0 P w K mg (hidT s₁.heap H) callerA [] s₁ H := by
    refine ⟨rfl, ⟨keepK, keepN hns, ⟨mb, keepN hb, hbb⟩, lim2⟩, fun b o e => of_hidT e, Nat.le_of_eq (hidT_size _ _), trivial, fun b hm => ?_, hok, .of_eq hg⟩
    exact absurd (show b ∈ ([] : List Addr) from hm) (by simp)
  have run := (F _ keepK (keepN hns)).run callerA [] s₁ H ⟨[.ref a], []⟩ [.ref a] [.ref a] (fun v _ => v = .bl true) rfl hr e0 (hbind s₁ (.ref a)) (.cons rfl .nil) ⟨a, ns, rfl, script, hl, only, fun _ => rfl⟩
  refine codeAny_mono run fun r s' h => ?_
  match r, h with
  | .ok (.ret u), ⟨v, H', os, bare, un, hok', r', q⟩ =>
    have q' : v = .bl true := q
    subst q'
    obtain rfl : u = Value.bool true := r'
    refine ⟨rfl, PySem.OldK.of_keep fun b o e => ?_, os, bare⟩
    cases q : H b with
    | none => exact un.keep b o e q (fun z => absurd (show b ∈ ([] : List Addr) from z) (by simp)) (by simp)
    | some u =>
      obtain ⟨rfl, _, rfl⟩ := entry_some q
      have e2 := (hok' b _ (un.frzs b _ _ q)).1
      rw [ha] at e; cases e
      exact e2
/-- the goal that the head leaves -/
theorem walk_g {l : PySem.W.OpenLaw} {k : Nat} {q : Program} {loose : List Str} {XP : (Str → Option Value) → Heap → Prop} {YP : World → Heap → Prop} {d : DefRec} {K : Params → PySem.W.Frag} {x : Str}
    (hn : l.most = some 63) (hdf : d.params.defaults = []) (hr : Room k callerA) (hY : ∀ (w : World) (h : Heap), YP w h → (K w.params).In h)
    (F : ∀ (w : World) (mg : Str → Option Value) (fa : Addr) (h : Heap), (K w.params).In h → h.Ns mainGlobals mg → mg d.name = some (.ref fa) →
      ∃ fd : FuncData, (∀ (s : Shared) (u : Value), BindsTo s fd ⟨[u], []⟩ [(x, u)]) ∧ ∀ base : Heap, (K w.params).In base → base.Ns mainGlobals mg → FnG l.prog w (K w.params) mg base k fa fd [x] (spLaw (K w.params))) :
    PySem.W.WalkO q loose XP YP l.row.toRowW d [] (fun f vs => PySem.call f vs) :=
  Att.attach_call hn hdf fun w s₀ s₁ mg mb fa o pm cd doc a vs ns G Y ho hd hcd hmg hobj hints hlen hg => by
    have KX := hY w _ Y
    obtain ⟨fd, hb, hF⟩ := F w mg fa _ KX G.T.g hmg
    exact law_g KX G.T.g G.T.b G.T.builtins G.T.nolimit hg hobj hints hlen hr hF hb
end DL
namespace DL
open PySem PySem.Spec PyProof.Rows L2
variable {X : Cx} {Y : Fx}
def oNeg (x : Dv) (R : PyData → Prop) : Prop :=
  match x with
  | .dat (.int i) => R (.int (-i))
  | _ => False
theorem we_neg {a : Expr} {t : DTE} {pos : Pos} (ha : WE Y X a t) : WE Y X (.UnaryOp .USub a pos) (dUn oNeg t) :=
  pe_imp (pe_un un_neg ha) (one (r := fun x H1 Q => rU (fun i => .int (-i)) x H1 Q) fun δ F H x v R Q hs hx h b => by
    unfold oNeg at h
    split at h
    · simp only [VR, Rp] at hx
      exact ⟨_, hx, b.int hs h⟩
    · exact h.elim)
/-- a, b = e -/
def dAsgG (g : DTG) (t : DTE) : DTS := fun E ρ n => t ρ n fun x n' => needD x fun d => g d ρ fun ρ' => E.nx ρ' n'
theorem ds_asgG {tg e : Expr} {t : DTE} {tG : TG} {g : DTG} {sl : List Nat} {pos : Pos} (he : WE Y X e t) (hg : DG X tg tG g sl) (hs : swapsWithSole [tg] e pos.line X.env = pure false := by rfl) (hw : swappedStores [tg] e X.env = pure none := by rfl)
    (h1 : (assignEach [tg] X.env).map (·.2) = [assign tg X.env] := by rfl) : DS Y X (.Assign [tg] e pos) (dAsgG g t) :=
  ps_imp (ps_asg he hg.1 hs hw h1) fun D σ H ⟨Z, F, ρ, n, E, r, ht, k⟩ => ⟨Z, F, ρ, n, _, r, ht, fun x n1 F1 H1 v hx g1 s1 d1 w1 => by
    obtain ⟨d, rfl, hx⟩ := needD_is hx
    exact hg.2.im _ _ _ _ _ _ _ _ _ _ _ (r.step g1 s1 d1) w1 hx fun σ' ρ' h r' _ => k.nx _ _ _ _ _ h r'⟩
/-- a loop over a list or a tuple -/
theorem pi_seq {tg l : Expr} {tl : TE} (hl : PE X l tl) : PI X tg l (fun σ H R => tl σ H fun x H1 => ∃ a, x = .ref a ∧ ((∃ xs, H1 a = some (.lst xs) ∧ R (Itl X.K a) H1) ∨ ∃ xs, Rd H1 a (.tup xs) ∧ R (Itt X.K a) H1)) :=
  ⟨fun pins s σ H R I h => thn (hl.run pins s σ H _ I h) fun v s1 ⟨x, H1, I1, r1, a, e, q⟩ => by
    subst e
    cases r1
    have fresh : ∀ b ∈ [s1.heap.objs.size], FpOk X pins H1 b := fun b hb => by
      rw [List.mem_singleton.mp hb]
      exact I1.fpOk (Nat.le_refl _) (I1.hok.fresh (Nat.le_refl _))
    rcases q with ⟨xs, hq, q⟩ | ⟨xs, hq, q⟩
    · obtain ⟨its, rv, p, hz⟩ := I1.list (SqL.of hq)
      exact wpAny_pyIter_list p.isList ⟨_, [s1.heap.objs.size], _, _, H1, rfl, I1.kept (t' := s1.toks) fun b o e => Heap.get?_push_of_some _ e, turn_list a _, ⟨_, Heap.get?_push_size _ rfl, rfl, rfl⟩, fresh, q⟩
    · obtain ⟨its, rv, p, hz⟩ := I1.tuple (sqtR hq)
      exact wpAny_pyIter_tuple (show s1.heap.IsTuple a its.toArray from p) ⟨_, [s1.heap.objs.size], _, _, H1, rfl, I1.kept (t' := s1.toks) fun b o e => Heap.get?_push_of_some _ e, turn_tuple a _, ⟨_, Heap.get?_push_size _ rfl, rfl, rfl⟩, fresh, q⟩⟩
def dSrcS (t : DTE) : DSrc := fun ρ n R => t ρ n fun x n' => needD x fun d => ∃ ds, seqD d = some ds ∧ R ds n'
theorem di_seq {tg e : Expr} {t : DTE} (he : WE Y X e t) : DI Y X tg e (dSrcS t) := pi_imp (pi_seq he) fun σ H R ⟨Z, F, ρ, n, Q, r, ht, k⟩ =>
  ⟨Z, F, ρ, n, _, r, ht, fun x n1 F1 H1 v hx g1 s1 d1 w1 => by
    obtain ⟨d, rfl, hx⟩ := needD_is hx
    obtain ⟨ds, e, hx2⟩ : ∃ ds, seqD d = some ds ∧ _ := hx
    cases d with
    | list es =>
      cases e
      simp only [VR, Rp] at w1
      obtain ⟨a, vs, rfl, h1, h2⟩ := w1
      exact ⟨a, rfl, .inl ⟨vs, s1 _ _ h1, k _ _ _ _ _ hx2 g1 s1 d1 (itOk_list h1 h2)⟩⟩
    | tuple es =>
      cases e
      simp only [VR, Rp] at w1
      obtain ⟨a, vs, rfl, h1, h2⟩ := w1
      exact ⟨a, rfl, .inr ⟨vs, rdS s1 h1, k _ _ _ _ _ hx2 g1 s1 d1 (itOk_tup h1 h2)⟩⟩
    | _ => cases e⟩
def Has (P : Program) (w : World) (K : PySem.W.Frag) (mg : Str → Option Value) (base : Heap) (x : Str) (k : Nat) (ps : List Str) (c : DSpec) : Prop :=
  ∃ f fd, mg x = some (.ref f) ∧ PySem.W.keepIn K (.ref f) = true ∧ Binds K fd ps [] ∧ FnG P w K mg base k f fd ps (spD K ps.length c)
theorem we_has {k : Nat} {c : DSpec} {ps : List Str} {x : Str} {p pos : Pos} {e : Expr} {es : List Expr} {t : DTA} (h : Has X.prog X.w X.K X.mg X.base x k ps c) (hgd : X.A.guards = some []) (hr : Room k X.A) (hg : Gl X x)
    (ha : WA Y X (e :: es) t) (hdb : (x == ("__debug__" : Str)) = false := by decide) (he : starEach (e :: es) X.env = (false, eval e X.env) :: starEach es X.env := by rfl) (hpl : (backTo pos (starEach es X.env)).any (·.1) = false := by rfl) :
    WE Y X (.Call (.Name x p) (e :: es) [] pos) (dFn ps.length c t) := by
  obtain ⟨f, fd, h1, h2, h3, h4⟩ := h
  exact we_fn h4 hgd hr hg h1 h2 h3 ha hdb he hpl
theorem compR_fm {α : Type} (xs : List α) (enc : α → PyData) (p : α → Bool) (f : α → PyData) {n : Wo} {step : CStep} {R : List PyData → Wo → Prop} (hz : xs.length < sizeLine)
    (h : ∀ x ∈ xs, ∀ acc K, acc.length < sizeLine → K (if p x = true then acc ++ [f x] else acc) n → step (enc x) acc n K) (hR : R ((xs.filter p).map f) n) : CompR (xs.map enc) n step R := by
  refine ⟨fun k acc m => m = n ∧ acc = ((xs.take k).filter p).map f, ⟨rfl, rfl⟩, ?_, ?_⟩
  · rintro k x acc m hx ⟨rfl, rfl⟩
    rw [List.getElem?_map] at hx
    obtain ⟨z, hz2, rfl⟩ := Option.map_eq_some_iff.mp hx
    have hk : k < xs.length := (List.getElem?_eq_some_iff.mp hz2).1
    refine h z (List.mem_of_getElem? hz2) _ _ ?_ ⟨rfl, ?_⟩
    · rw [List.length_map]
      have := List.length_filter_le p (xs.take k)
      rw [List.length_take] at this
      omega
    · have e : xs.take (k + 1) = xs.take k ++ [z] := by
        rw [List.take_add_one, hz2]; rfl
      rw [e, List.filter_append, List.map_append]
      cases q : p z <;> simp [q]
  · rintro acc m ⟨rfl, rfl⟩
    rw [List.length_map, List.take_length]
    exact hR
theorem forR_inv {xs : List PyData} {ρ : Rho} {n : Wo} {step : FStep} {Q : Rho → Wo → Prop} (I : Nat → Rho → Wo → Prop) (h0 : I 0 ρ n) (hs : ∀ (k : Nat) x ρ' n', xs[k]? = some x → I k ρ' n' → step x ρ' n' (I (k + 1))) (he : ∀ ρ' n', I xs.length ρ' n' → Q ρ' n') : ForR xs ρ n step Q := ⟨I, h0, hs, he⟩
end DL
namespace DL
open PySem PySem.Spec PyProof.Rows L2
variable {X : Cx} {Y : Fx}
def dCut (t u : DTS) : DTS := fun E ρ n => ∃ J : Rho → Wo → Prop, t { E with nx := J } ρ n ∧ ∀ ρ' n', J ρ' n' → u E ρ' n'
theorem dss_cut {st : Stmt} {rest : List Stmt} {t u : DTS} (h1 : DS Y X st t) (h2 : DSs Y X rest u) : DSs Y X (st :: rest) (dCut t u) :=
  pss_imp (pss_cons h1 h2) fun D σ H ⟨Z, F, ρ, n, E, r, ⟨J, ht, hJ⟩, k⟩ => ⟨Z, F, ρ, n, _, r, ht, ⟨fun F' H' σ' ρ' n' h r' => ⟨Z, F', ρ', n', E, r', hJ _ _ h, k⟩, k.rt, k.bk, k.ct⟩⟩
theorem ite_imp {c A B A' B' : Prop} [Decidable c] (h1 : A → A') (h2 : B → B') (h : if c then A else B) : if c then A' else B' := by
  by_cases q : c
  · rw [if_pos q] at h ⊢; exact h1 h
  · rw [if_neg q] at h ⊢; exact h2 h
/-- a comprehension of a test and an element that change nothing -/
theorem compR_p {α : Type} (xs : List α) (enc : α → PyData) (p : α → Bool) (f : α → PyData) {n : Wo} {step : CStep} {R : List PyData → Wo → Prop} (hz : xs.length < sizeLine)
    (h : ∀ x ∈ xs, ∀ acc K, (if p x = true then acc.length < sizeLine ∧ K (acc ++ [f x]) n else K acc n) → step (enc x) acc n K) (hR : R ((xs.filter p).map f) n) : CompR (xs.map enc) n step R :=
  compR_fm xs enc p f hz (fun x hx acc K ha hK => h x hx acc K (by
    by_cases q : p x = true
    · rw [if_pos q] at hK ⊢; exact ⟨ha, hK⟩
    · rw [if_neg q] at hK ⊢; exact hK)) hR
theorem compR_m {α : Type} (xs : List α) (enc : α → PyData) (f : α → PyData) {n : Wo} {step : CStep} {R : List PyData → Wo → Prop} (hz : xs.length < sizeLine)
    (h : ∀ x ∈ xs, ∀ acc K, acc.length < sizeLine → K (acc ++ [f x]) n → step (enc x) acc n K) (hR : R (xs.map f) n) : CompR (xs.map enc) n step R :=
  compR_fm xs enc (fun _ => true) f hz (fun x hx acc K ha hK => h x hx acc K ha (by simpa using hK)) (by rwa [List.filter_eq_self.mpr (fun _ _ => rfl)])
theorem atI_mem {α : Type} {xs : List α} {i : Int} (h0 : 0 ≤ i) (h1 : i < xs.length) : ∃ d, atI xs i = some d ∧ d ∈ xs := by
  have hi : i.toNat < xs.length := by omega
  refine ⟨xs[i.toNat], ?_, List.getElem_mem _⟩
  unfold atI ixN
  rw [if_pos h0, if_pos h1]
  simp [hi]
theorem rngD_mem {lo : Int} {n : Nat} {k : Nat} {x : PyData} (h : (rngD lo n)[k]? = some x) : x = .int (lo + (k : Int)) ∧ k < n := rngD_get h
theorem line1000 {n : Nat} (h : n ≤ 1000) : n ≤ sizeLine := Nat.le_trans h (by decide)
def Wo.z : Wo := ⟨0, fun _ => none, fun _ => none⟩
theorem pss_any {α : Type} {X : Cx} {st : List Stmt} {t : α → TS} (h : ∀ a, PSs X st (t a)) : PSs X st (fun D σ H => ∃ a, t a D σ H) := ⟨fun p s σ H D I ⟨a, w⟩ => (h a).run p s σ H D I w⟩
section
variable {P : Program} {w : World} {K : PySem.W.Frag} {mg : Str → Option Value} {base : Heap}
theorem law_start {N : List Str} {kd : Bool} {st1 : Stmt} {rest : List Stmt} {sLaw : Stmt} {f : Addr} {fd : FuncData} {k m : Nat} {spD0 : PySem.W.Frag → Sp}
    (F : Fun K "law" "law" sLaw f fd) (S : FnScope N ["script"] (defScope sLaw)) (hbody : defBody sLaw = st1 :: rest) (hN : N.length = m + 2)
    (hsp : ∀ (a : Addr) (ns : List Int) (H : Hp) (Q : VK), SqL K H a (ns.map V.int) → ns.length ≤ 63 → (∀ (H' : Hp) (δ : DkS) (p : Addr), Same H H' → IsDk kd δ p → δ.at0 H' 0 → (∀ b, b ∈ δ.own → H' b ≠ none) → Q (.ref p) H') → spD0 K [.ref a] H Q E0)
    (h : ∀ (cdv : Value) (A : Around) (outer : List Env) (s : Shared) (H : Hp), A.guards = some [] → Room k (A.deeper (envOfC "law" (defScope sLaw) s.heap.objs.size f cdv)) →
      PS (cxOf CX0 P w K mg base N "law" (defScope sLaw) f cdv A outer s H E0).nox st1 (tAsg (fun σ H Q => tCons (tVar 0) tNil σ H fun vs H1 => spD0 K vs H1 Q E0) (gName 1)) ∧
      ∀ Y : Fx, ∃ t, DSs Y (cxOf CX0 P w K mg base N "law" (defScope sLaw) f cdv A outer s H E0).nox rest t ∧ t { nx := fun _ _ => False, rt := fun d _ => d = .bool true } (none :: some (.deck kd) :: List.replicate m none) Wo.z) :
    FnG P w K mg base (k + 1) f fd ["script"] (spLaw K) := by
  refine fng_of F S (fun vs H Q E ⟨a, ns, e, _⟩ => by rw [e]; rfl) fun cdv A outer s H vs Q hgd hr ⟨a, ns, e, hS, hlen, _, hk⟩ => ?_
  subst e
  obtain ⟨h1, h0⟩ := h cdv A outer s H hgd hr
  rw [hbody]
  refine ⟨_, pss_cons h1 (pss_any fun Y => (h0 Y).choose_spec.1), ?_⟩
  have hst : L2.start N [V.ref a] = some (.ref a) :: none :: List.replicate m none := by
    unfold L2.start
    rw [hN]
    rfl
  refine ⟨.ref a, by rw [hst]; rfl, hsp a ns H _ hS hlen fun H' δ p hs hd hat hne => ?_⟩
  refine ⟨⟨fun _ => none, H', δ⟩, ?_⟩
  obtain ⟨h2, h3⟩ := (h0 ⟨fun _ => none, H', δ⟩).choose_spec
  refine ⟨⟨fun _ => none, H', δ⟩, fun _ => none, none :: some (.deck kd) :: List.replicate m none, Wo.z, _, ⟨⟨fun _ _ q => (by cases q), ⟨hat, fun _ _ e => (nomatch e), fun _ _ e => (nomatch e)⟩, fun b hb => ⟨rfl, hne b hb⟩, Same.refl _, fun _ _ q => q, fun _ _ _ q _ => q, fun _ _ _ _ q => ⟨_, q⟩⟩, rfl, rfl, Gr.refl, ?_, fun i x q => ?_, fun i j b ds y _ q _ _ _ _ => ?_⟩, h3, ⟨fun _ _ _ _ _ q _ => q.elim, fun d n' F2 H2 v q _ r => ?_, fun _ _ _ _ _ q _ => q.elim, fun _ _ _ _ _ q _ => q.elim⟩⟩
  · rw [hst]; simp
  · rw [hst]
    have rep : ∀ (j : Nat) (z : Dv), (List.replicate m (none : Option Dv))[j]? ≠ some (some z) := fun j z e => by
      rw [List.getElem?_replicate] at e
      split at e <;> cases e
    match i, q with
    | 1, q => cases q; exact ⟨.ref p, rfl, p, rfl, hd⟩
    | j + 2, q => exact absurd q (rep j x)
  · have rep : ∀ (j : Nat) (z : Dv), (List.replicate m (none : Option Dv))[j]? ≠ some (some z) := fun j z e => by
      rw [List.getElem?_replicate] at e
      split at e <;> cases e
    match i, q with
    | j + 2, q => exact absurd q (rep j _)
  · have q' : d = .bool true := q
    subst q'
    simp only [Rp] at r
    subst r
    exact hk _
end
end DL
namespace DL
open PySem PySem.Spec PyProof.Rows L2
open Sem (wp) in
open AutoSeq1 (wpAny_loadPart') in
theorem meets_enumT (l : Addr) (items : Array Value) (n : Nat) (dct : Option Addr) (sl : Array (Option Value)) :
    Meets (Builtin.«enumerate.__new__» ⟨[.type "enumerate", .ref l], []⟩) (fun _ R s => s.heap.get? l = some { cls := .type "tuple", dict := dct, data := .seq items n, slots := sl } ∧
      R (.ok (.ret (.ref (s.heap.push { cls := .type "tuple_iterator", data := .fields #[.ref l, .int 0 0] }).objs.size)))
        { s with heap := (s.heap.push { cls := .type "tuple_iterator", data := .fields #[.ref l, .int 0 0] }).push { cls := .type "enumerate", data := .fields #[.none, .bool false, .ref s.heap.objs.size, rawInt 0, .none, .none] } }) :=
  .of_wp fun prog w A R s h => by
    obtain ⟨hp, g, d, tk, os⟩ := s; obtain ⟨hl, h⟩ := h
    have hsub := sub_enumerate
    have hL : Heap.IsTuple (Shared.heap ⟨hp, g, d, tk, os⟩) l items := ⟨_, hl, rfl, n, rfl⟩
    wp_walk using wpAny_loadPart' hl
    refine wpAny_stack_any fun st => wpAny_pure ?_
    split
    · rename_i c _ _ _ _ _
      cases (c == Value.type "enumerate")
      · wp_walk using wpAny_loadPart' hl, wpAny_pyIter_tuple hL
        exact ⟨_, rfl, h⟩
      · wp_walk using wpAny_loadPart' hl, wpAny_pyIter_tuple hL
        exact ⟨_, rfl, h⟩
    · wp_walk using wpAny_loadPart' hl, wpAny_pyIter_tuple hL
      exact ⟨_, rfl, h⟩
section
variable {prog : Program} {w : World} {A : Around} {E : Value → Shared → Prop} {s : Shared}
theorem call_enumT {l : Addr} {items : Array Value} {Q : Value → Shared → Prop} (hL : s.heap.IsTuple l items)
    (h : ∀ h', IsEnum h' (s.heap.objs.size + 1) s.heap.objs.size 0 .none → h'.IsTupleIter s.heap.objs.size l 0 → (∀ b o, s.heap.get? b = some o → h'.get? b = some o) → Q (.ref (s.heap.objs.size + 1)) { s with heap := h' }) :
    wpAny (model prog w) A (call (.type "enumerate") [.ref l]) Q E s := by
  obtain ⟨⟨c, dct, dt, sl⟩, hl, hc, n, hd⟩ := hL
  replace hc : c = .type "tuple" := hc
  replace hd : dt = .seq items n := hd
  subst hc hd
  refine callType_new F.called_enumerate (by decide) (F.typeCall_enumerate_1 _) (F.newCall_enumerate_1 _) (fun obj => F.args_object_init_2 obj _) F.entry_enumerate_new (meets_enumT l items n dct sl) ⟨hl, ?_⟩
  have hz : (s.heap.push { cls := .type "tuple_iterator", data := .fields #[.ref l, .int 0 0] }).objs.size = s.heap.objs.size + 1 := Heap.size_push ..
  show _ ∧ _
  rw [hz]
  have he : IsEnum ((s.heap.push { cls := .type "tuple_iterator", data := .fields #[.ref l, .int 0 0] }).push { cls := .type "enumerate", data := .fields #[.none, .bool false, .ref s.heap.objs.size, rawInt 0, .none, .none] }) (s.heap.objs.size + 1) s.heap.objs.size 0 .none := by
    have z := Heap.get?_push_size (s.heap.push { cls := .type "tuple_iterator", data := .fields #[.ref l, .int 0 0] }) (o := { cls := .type "enumerate", data := .fields #[.none, .bool false, .ref s.heap.objs.size, rawInt 0, .none, .none] }) rfl
    rw [hz] at z; exact z
  exact ⟨⟨_, he, rfl⟩, h _ he ⟨_, Heap.get?_push_of_some _ (Heap.get?_push_size _ rfl), rfl, rfl⟩ fun b o x => Heap.get?_push_of_some _ (Heap.get?_push_of_some _ x)⟩
theorem enumT_end {e it t : Addr} {i : Nat} {c : Int} {items : Array Value} {old : Value} {Q : Option Value → Shared → Prop} (hh : A.handled = none) (he : IsEnum s.heap e it c old) (hit : s.heap.IsTupleIter it t i) (ht : s.heap.IsTuple t items) (hx : items[i]? = none)
    (hQ : ∀ h', Heap.ExtBut it s.heap h' → Q none { s with heap := h' }) : wpAny (model prog w) A (pyNext (.ref e)) Q E s := by
  have hT : s.TypeIs (.ref e) "enumerate" := ⟨_, he, rfl⟩
  unfold pyNext
  refine wpAny_bind (wpAny_attempt (wpAny_callSpecial?_slot (name := Str.ofString "__next__") hT F.slot_enumerate_next (wpAny_call_entry F.slot_enumerate_next hT F.entry_enumerate_next ?_ (F.args_enumerate_next_1 _))))
  show wpAny _ _ (field (.ref e) 2 >>= _) _ _ _
  refine wpAny_bind (wpAny_field he rfl (x := .ref it) rfl (wpAny_bind (wpAny_nextOf_tuple_end hh hit ht hx fun h' x he' ⟨o, ho, hc⟩ => ?_)))
  exact wpAny_bind (wpAny_isInstance (T := "StopIteration") (b := true) ⟨o, ho, hc⟩ isSubtype_stop (wpAny_pure (hQ _ he')))
end
/-- the tuple at a, each item in a new pair -/
def ItET (K : PySem.W.Frag) (a : Addr) : It :=
  ⟨fun i H => ∃ (xs : List V) (x : V), SqT K H a xs ∧ xs[i]? = some x, fun i H v H' => ∃ T x, v = .ref T ∧ H T = none ∧ H' = upd H T (.tup [.int (i : Nat), x]) ∧ ∀ xs, SqT K H a xs → xs[i]? = some x, fun i H => ∃ xs : List V, SqT K H a xs ∧ xs.length ≤ i⟩
theorem turn_enumT {P : Program} {w : World} {K : PySem.W.Frag} {elts : List Expr} {kk : Nat} {tpos : Pos} (a e it : Addr) (hai : a ≠ it) (hae : a ≠ e) :
    Turn P w K (.Tuple elts kk tpos) (ItET K a) [e, it] e (fun i h => (∃ old, IsEnum h e it ((i : Nat) : Int) old) ∧ h.IsTupleIter it a i ∧ e ≠ it) where
  mem := by simp
  obj := fun i h st b hb => by
    obtain ⟨⟨old, he⟩, ⟨o, ho, hc, hd⟩, _⟩ := st
    rcases (show b = e ∨ b = it by simpa using hb) with z | z
    · rw [z]; exact ⟨_, he, fun v q => nomatch q⟩
    · rw [z]; exact ⟨o, ho, fun v q => by rw [hd] at q; cases q⟩
  keep := fun i h h' st k => let ⟨⟨old, he⟩, hi, hne⟩ := st; ⟨⟨old, k e (by simp) _ he⟩, hi.at fun o q => k it (by simp) o q, hne⟩
  item := by
    intro X hP hw hK hc i pins s σ H E I hf st hg
    subst hP hw hK
    obtain ⟨⟨old, he⟩, hit, hne⟩ := st
    obtain ⟨xs, x, hq, hx⟩ := hg
    obtain ⟨its, rv, p, hz⟩ := I.tuple hq
    obtain ⟨u, hu, ru⟩ := rv.get hx
    have hel : e < s.heap.objs.size := Heap.lt_size he
    have hil : it < s.heap.objs.size := by obtain ⟨_, q, _⟩ := hit; exact Heap.lt_size q
    have hin : i < its.toArray.size := by
      have := (List.getElem?_eq_some_iff.mp hu).1
      simpa using this
    refine wpAny_pyNext_enum_itemC (fp := [it, a]) (Draws.tuple (A := X.A.in1) (I.ok.hd hc) it a hai its.toArray) he (i := i) ⟨hit, p⟩ hin hne (by simp; exact ⟨hne, Ne.symm hae⟩) fun y h' tk hy ho hst hT hsz hk => ?_
    have ey : y = u := by
      have : its.toArray[i]? = some u := by simpa using hu
      rw [hy] at this; exact Option.some.inj this
    subst ey
    refine ⟨_, rfl, wpAny_letOwnedTupleGo_enum (s := { s with heap := h', toks := tk + 1 }) ho fun h'' he' sb => ?_⟩
    have hT2 : h''.get? s.heap.objs.size = some { cls := .type "tuple", data := .seq #[.int i tk, y] } := (sb.2 _ (Nat.ne_of_gt hel)).trans hT
    have new : ObjOk X.prog X.w (upd H s.heap.objs.size (.tup [.int (i : Nat), x])) h'' s.heap.objs.size (.tup [.int (i : Nat), x]) := ⟨by show 2 ≤ sizeLine; decide, [.int i tk, y], .cons ⟨_, rfl⟩ (.cons ru .nil), ⟨_, hT2, rfl, _, rfl⟩⟩
    have I1 : Inv X pins σ (upd H s.heap.objs.size (.tup [.int (i : Nat), x])) { s with heap := h'', toks := tk + 1 } :=
      I.turnedNew (ch := [e, it]) (fun b ob hb q => (sb.2 b (fun z => hb (by simp [z]))).trans (hk b ob (fun z => hb (by simp [z])) (fun z => hb (by simp [z])) q)) hf (Nat.le_refl _) new
    refine ⟨.ref s.heap.objs.size, _, I1, rfl, ⟨_, x, rfl, I.hok.fresh (Nat.le_refl _), rfl, fun ys hy => by rw [I.tuple_inj hy hq]; exact hx⟩, ⟨⟨y, ?_⟩, hst.1.at fun o q => (sb.2 it (Ne.symm hne)).trans q, hne⟩, fun b hb => ?_⟩
    · rw [show ((i + 1 : Nat) : Int) = (i : Int) + 1 by omega]
      exact he'
    · have hb' : b < s.heap.objs.size := by
        rcases (show b = e ∨ b = it by simpa using hb) with z | z
        · rw [z]; exact hel
        · rw [z]; exact hil
      rw [upd_ne (Nat.ne_of_lt hb')]
      exact (hf b hb).1
  done := by
    intro X hP hw hK hc i pins s σ H E I hf st hg
    subst hP hw hK
    obtain ⟨⟨old, he⟩, hit, hne⟩ := st
    obtain ⟨xs, hq, hx⟩ := hg
    obtain ⟨its, rv, p, hz⟩ := I.tuple hq
    obtain ⟨f0, f1, f2, f3, f4, f5⟩ := hf it (by simp)
    have hl := rv.length
    exact enumT_end (A := X.A) (I.ok.hd hc) he hit p (by simp; omega) fun h' eb => ⟨rfl, I.turned (t' := s.toks) (fun b o hb q => eb b o hb q) f0 f1 f3 f4 f5⟩
  self := fun A i s Q E st h => let ⟨⟨_, he⟩, _⟩ := st; wpAny_pyIter_enum he h
/-- enumerate of a list or a tuple -/
def iEnA (K : PySem.W.Frag) (ta : TA) : TI := fun σ H R => ta σ H fun vs H1 => ∃ a, vs = [.ref a] ∧ ((∃ xs, H1 a = some (.lst xs) ∧ R (Ite K a) H1) ∨ ∃ xs, Rd H1 a (.tup xs) ∧ R (ItET K a) H1)
variable {X : Cx} {Y : Fx}
theorem pi_enA {e : Expr} {ta : TA} {p pos tpos : Pos} {elts : List Expr} {kk : Nat} (hg : Gl X "enumerate") (hm : X.mg "enumerate" = none) (ha : PA X [e] ta) (hs : starEach [e] X.env = [(false, eval e X.env)] := by rfl) :
    PI X (.Tuple elts kk tpos) (.Call (.Name "enumerate" p) [e] [] pos) (iEnA X.K ta) := ⟨fun pins s σ H R I h => by
  refine Call_ (ld_blt I hg hm boot_enumerate (PyProof.Rows.callWith_type1 (thn (ha.run pos pins s σ H _ I h) fun us s1 ⟨vs, H1, I1, r1, a, ex, q⟩ => ?_) hs rfl))
  subst ex
  cases r1 with
  | cons r rr =>
    cases rr
    cases r
    have fresh : ∀ b ∈ [s1.heap.objs.size + 1, s1.heap.objs.size], FpOk X pins H1 b := fun b hb => by
      have hle : s1.heap.objs.size ≤ b := by
        rcases (show b = s1.heap.objs.size + 1 ∨ b = s1.heap.objs.size by simpa using hb) with z | z <;> omega
      exact I1.fpOk hle (I1.hok.fresh hle)
    rcases q with ⟨xs, hq, q⟩ | ⟨xs, hq, q⟩
    · obtain ⟨its, rv, p', hz⟩ := I1.list (SqL.of hq)
      refine call_enumerate_list p'.isList fun h' he hit hsz hk => wpAny_pyIter_enum he ?_
      exact ⟨s1.heap.objs.size + 1, [s1.heap.objs.size + 1, s1.heap.objs.size], _, _, H1, rfl, I1.kept (t' := s1.toks) hk, turn_enum a (s1.heap.objs.size + 1) s1.heap.objs.size, ⟨⟨.none, he⟩, hit, Nat.succ_ne_self _⟩, fresh, q⟩
    · obtain ⟨its, rv, p', hz⟩ := I1.tuple (sqtR hq)
      obtain ⟨ol, hol, _⟩ := id (show s1.heap.IsTuple a its.toArray from p')
      have hlt := Heap.lt_size hol
      refine call_enumT (show s1.heap.IsTuple a its.toArray from p') fun h' he hit hk => wpAny_pyIter_enum he ?_
      exact ⟨s1.heap.objs.size + 1, [s1.heap.objs.size + 1, s1.heap.objs.size], _, _, H1, rfl, I1.kept (t' := s1.toks) hk, turn_enumT a (s1.heap.objs.size + 1) s1.heap.objs.size (Nat.ne_of_lt hlt) (Nat.ne_of_lt (Nat.lt_succ_of_lt hlt)), ⟨⟨.none, he⟩, hit, Nat.succ_ne_self _⟩, fresh, q⟩⟩
theorem itOk_enT {K : PySem.W.Frag} {F : Hp} {a : Addr} {vs : List V} {ds : List PyData} (h : Rd F a (.tup vs)) (r : Rps K F ds vs) : ItOk K (ItET K a) F (enumD ds) where
  go := fun i H s hi => by
    rw [enumD_length] at hi
    exact ⟨vs, vs[i]'(by rw [← r.length]; exact hi), sqtR (rdS s h), by simp⟩
  stop := fun i H s hi => ⟨vs, sqtR (rdS s h), by rw [← r.length, ← enumD_length]; exact hi⟩
  yld := fun i H v H' x ⟨T, y, e1, e2, e3, e4⟩ s hx => by
    obtain ⟨d, q1, q2⟩ := enumD_get hx
    obtain ⟨w, q3, q4⟩ := r.get q1
    rw [e4 vs (sqtR (rdS s h))] at q3; cases q3
    exact .inr ⟨T, _, _, e1, e2, e3, q2, rps_cons (by simp [Rp]) (rps_cons q4 rps_nil)⟩
def dEnA (t : DTA) : DSrc := fun ρ n R => t ρ n fun xs n' => ∃ d ds, xs = [.dat d] ∧ seqD d = some ds ∧ R (enumD ds) n'
theorem di_enumA {e : Expr} {t : DTA} {p pos tpos : Pos} {elts : List Expr} {kk : Nat} (hg : Gl X "enumerate") (hm : X.mg "enumerate" = none) (ha : WA Y X [e] t) (hs : starEach [e] X.env = [(false, eval e X.env)] := by rfl) :
    DI Y X (.Tuple elts kk tpos) (.Call (.Name "enumerate" p) [e] [] pos) (dEnA t) :=
  pi_imp (pi_enA hg hm ha hs) fun σ H R ⟨Z, F, ρ, n, Q, r, ht, k⟩ => ⟨Z, F, ρ, n, _, r, ht, fun xs n1 F1 H1 vs ⟨d, ds, e, e2, hx⟩ g1 s1 d1 w1 => by
    subst e
    obtain ⟨v, rfl, w2⟩ := vr1 w1
    have w3 : Rp X.K F1 d v := w2
    cases d with
    | list es =>
      cases e2
      simp only [Rp] at w3
      obtain ⟨a, vs, rfl, h1, h2⟩ := w3
      exact ⟨a, rfl, .inl ⟨vs, s1 _ _ h1, k _ _ _ _ _ hx g1 s1 d1 (itOk_enum h1 h2)⟩⟩
    | tuple es =>
      cases e2
      simp only [Rp] at w3
      obtain ⟨a, vs, rfl, h1, h2⟩ := w3
      exact ⟨a, rfl, .inr ⟨vs, rdS s1 h1, k _ _ _ _ _ hx g1 s1 d1 (itOk_enT h1 h2)⟩⟩
    | _ => cases e2⟩
end DL
namespace DL
open PySem PySem.Spec PyProof.Rows L2
variable {X : Cx} {Y : Fx}
theorem Rps.erase {K : PySem.W.Frag} {F : Hp} : ∀ {ds : List PyData} {vs : List V} (j : Nat), Rps K F ds vs → Rps K F (ds.eraseIdx j) (vs.eraseIdx j)
  | [], _, _, h => by simp only [Rps] at h; subst h; simp [Rps]
  | d :: ds, _, 0, h => by
    simp only [Rps] at h
    obtain ⟨v, r, rfl, h1, h2⟩ := h
    exact h2
  | d :: ds, _, j + 1, h => by
    simp only [Rps] at h
    obtain ⟨v, r, rfl, h1, h2⟩ := h
    exact rps_cons h1 (Rps.erase j h2)
def prD (p : Int × Int) : PyData := .tuple [.int p.1, .int p.2]
end DL
namespace DL
open PySem PySem.Spec PyProof.Rows L2
variable {X : Cx} {Y : Fx}
structure ItOkV (K : PySem.W.Frag) (δ : DkS) (J : It) (F1 H1 : Hp) (xs : List PyData) : Prop where
  go : ∀ (i : Nat) H, (∀ a o, a ∉ δ.own → H1 a = some o → isIns o = false → H a = some o) → Same F1 H → i < xs.length → J.go i H
  stop : ∀ (i : Nat) H, (∀ a o, a ∉ δ.own → H1 a = some o → isIns o = false → H a = some o) → Same F1 H → xs.length ≤ i → J.stop i H
  yld : ∀ (i : Nat) H v H' x, J.yld i H v H' → (∀ a o, a ∉ δ.own → H1 a = some o → isIns o = false → H a = some o) → ∀ F2, Same F1 F2 → Same F2 H → xs[i]? = some x → ∃ F3, Gp F2 H F3 H' ∧ Same F3 H' ∧ Rp K F3 x v
theorem ItOk.toV {K : PySem.W.Frag} {δ : DkS} {J : It} {F1 H1 : Hp} {xs : List PyData} (h : ItOk K J F1 xs) : ItOkV K δ J F1 H1 xs :=
  ⟨fun i H _ s q => h.go i H s q, fun i H _ s q => h.stop i H s q, fun i H v H' x hy _ F2 s1 s2 hx => h.use s1 s2 hy hx⟩
theorem itOkV_list {K : PySem.W.Frag} {δ : DkS} {F H1 : Hp} {a : Addr} {vs : List V} {ds : List PyData} (h : H1 a = some (.lst vs)) (na : a ∉ δ.own) (r : Rps K F ds vs) : ItOkV K δ (Itl K a) F H1 ds where
  go := fun i H k s hi => ⟨vs, vs[i]'(by rw [← r.length]; exact hi), SqL.of (k _ _ na h rfl), by simp⟩
  stop := fun i H k s hi => ⟨vs, SqL.of (k _ _ na h rfl), by rw [← r.length]; exact hi⟩
  yld := fun i H v H' x ⟨e, y⟩ k F2 s1 s2 hx => by
    have h1 := y vs (SqL.of (k _ _ na h rfl))
    obtain ⟨w, e1, e2⟩ := r.get hx
    rw [h1] at e1; cases e1
    subst e
    exact ⟨F2, Gp.refl, s2, Rp.mono s1 x v e2⟩
def upIv (Y : Fx) (K : PySem.W.Frag) (t : DSrc) : TI := fun σ H R => ∃ Z F ρ n Q, SR Y K Z F H σ ρ n ∧ t ρ n Q ∧
  ∀ xs n' F' H' J, Q xs n' → Gr Z.δ F H F' H' → Same F' H' → Z.δ.at_ K F' H' n' → ItOkV K Z.δ J F' H' xs → R J H'
abbrev DIv (Y : Fx) (X : Cx) (tg iter : Expr) (t : DSrc) : Prop := PI X tg iter (upIv Y X.K t)
theorem div_of {tg iter : Expr} {t : DSrc} (h : DI Y X tg iter t) : DIv Y X tg iter t := pi_imp h fun σ H R ⟨Z, F, ρ, n, Q, r, ht, k⟩ => ⟨Z, F, ρ, n, Q, r, ht, fun xs n' F' H' J q g s d w => k xs n' F' H' J q g s d w.toV⟩
def dSrcV (t : DTE) : DSrc := fun ρ n R => t ρ n fun x n' => ∃ ds, seqD x.toD = some ds ∧ R ds n'
theorem di_seqV {tg e : Expr} {t : DTE} (he : WE Y X e t) : DIv Y X tg e (dSrcV t) := pi_imp (pi_seq he) fun σ H R ⟨Z, F, ρ, n, Q, r, ht, k⟩ =>
  ⟨Z, F, ρ, n, _, r, ht, fun x n1 F1 H1 v ⟨ds, e, hx⟩ g1 s1 d1 w1 => by
    cases x with
    | dat d =>
      cases d with
      | list es =>
        cases e
        simp only [VR, Rp] at w1
        obtain ⟨a, vs, rfl, h1, h2⟩ := w1
        exact ⟨a, rfl, .inl ⟨vs, s1 _ _ h1, k _ _ _ _ _ hx g1 s1 d1 (itOk_list h1 h2).toV⟩⟩
      | tuple es =>
        cases e
        simp only [VR, Rp] at w1
        obtain ⟨a, vs, rfl, h1, h2⟩ := w1
        exact ⟨a, rfl, .inr ⟨vs, rdS s1 h1, k _ _ _ _ _ hx g1 s1 d1 (itOk_tup h1 h2).toV⟩⟩
      | _ => cases e
    | vw es =>
      cases e
      obtain ⟨a, vs, rfl, h1, h2, h3⟩ := w1
      exact ⟨a, rfl, .inl ⟨vs, h1, k _ _ _ _ _ hx g1 s1 d1 (itOkV_list h1 h3 h2)⟩⟩
    | mt es => exact w1.elim
    | deck b => cases e
    | md _ _ => exact w1.elim⟩
theorem comp_imv {K : PySem.W.Frag} {s : DSrc} {t : TG} {g : DTG} {sl : List Nat} {tt : DTT} {te : DTE} {vs : List Nat} (hg : GOk K t g sl) (hv : ∀ i ∈ sl, i ∈ vs) : ∀ σ H Q, upM Y K (mComp s g tt te vs) σ H Q → tLc (upIv Y K s) t (upT Y K tt) (up Y K te) vs σ H Q :=
  fun σ H Q ⟨Z, F, ρ, n, R, r, ht, k⟩ => ⟨Z, F, ρ, n, _, r, ht, fun xs n1 F1 H1 J ⟨⟨I, h0, hstep, hend⟩⟩ g1 s1 d1 w1 => by
    have r1 := r.step g1 s1 d1
    intro D hD
    have hD0 : H D = none := by
      cases e : H D with
      | none => rfl
      | some o => exact absurd hD (g1.dH D (by rw [e]; nofun))
    have nD : D ∉ Z.δ.own := fun q => (r1.b.dkF D q).2 hD
    refine ⟨fun i m H2 => m = xs.length - i ∧ i ≤ xs.length ∧ ∃ F2 acc n2 us, Gr Z.δ F1 H1 F2 H2 ∧ Same F2 H2 ∧ Z.δ.at_ K F2 H2 n2 ∧ F2 D = none ∧ H2 D = some (.lst us) ∧ Rps K F2 acc us ∧ I i acc n2, ⟨xs.length, by simp, Nat.zero_le _, ?_⟩, ?_⟩
    · obtain ⟨g2, s2⟩ := Gp.newM (o := .lst []) hD s1
      exact ⟨F1, [], n1, [], g2.gr, s2, g2.dk r1.b, s1.free hD, upd_same, rps_nil, h0⟩
    · rintro i m H2 ⟨rfl, hi, F2, acc, n2, us, g2, s2, d2, f2, hD2, ra, h2⟩
      by_cases hlt : i < xs.length
      · refine .inr ⟨w1.go i H2 g2.kH (g2.sF.trans s2) hlt, fun H' => ∃ F2 acc n2 us, Gr Z.δ F1 H1 F2 H' ∧ Same F2 H' ∧ Z.δ.at_ K F2 H' n2 ∧ F2 D = none ∧ H' D = some (.lst us) ∧ Rps K F2 acc us ∧ I (i + 1) acc n2, fun H' q => ⟨xs.length - (i + 1), by omega, rfl, hlt, q⟩, fun v H3 hy => ?_⟩
        obtain ⟨x, hx⟩ : ∃ x, xs[i]? = some x := ⟨xs[i], by simp [hlt]⟩
        obtain ⟨F3, g3, s3, r3⟩ := w1.yld i H2 v H3 x hy g2.kH F2 g2.sF s2 hx
        have gg3 := g2.trans (g3.gr (δ := Z.δ))
        have r2 := (r1.step g2 s2 d2)
        have d3 := g3.dk r2.b
        have rw3 := (r1.step gg3 s3 d3).wipe vs
        have hD3 : H3 D = some (.lst us) := g3.sH _ _ hD2
        have f3 : F3 D = none := g3.nF D (by rw [hD2]; nofun) f2
        refine hg.im _ _ _ _ _ _ _ _ _ _ _ rw3 r3 (hstep i x acc n2 hx h2) fun σ4 ρ4 h4 r4 hw => ⟨by rw [hw vs hv, wipe_idem], ?_⟩
        refine ⟨Z, F3, ρ4, n2, _, r4, h4, fun b m5 F5 H5 h5 g5 s5 d5 => ?_⟩
        have hD5 : H5 D = some (.lst us) := g5.kH _ _ nD hD3 rfl
        have f5 : F5 D = none := g5.nF D (by rw [hD3]; nofun) f3
        have ra5 : Rps K F5 acc us := Rps.mono (g3.sF.trans g5.sF) acc us ra
        cases b with
        | false => exact ⟨F5, acc, m5, us, gg3.trans g5, s5, d5, f5, hD5, ra5, h5⟩
        | true =>
          refine ⟨Z, F5, ρ4, m5, _, r4.step g5 s5 d5, h5, fun y m6 F6 H6 v6 h6 g6 s6 d6 w6 => ?_⟩
          obtain ⟨d, rfl, hl, h6⟩ := needD_is h6
          have hD6 : H6 D = some (.lst us) := g6.kH _ _ nD hD5 rfl
          have f6 : F6 D = none := g6.nF D (by rw [hD5]; nofun) f5
          have ra6 : Rps K F6 acc us := Rps.mono g6.sF acc us ra5
          refine ⟨us, hD6, by rw [← ra.length]; exact hl, F6, acc ++ [d], m6, us ++ [v6], ?_, ?_, ?_, f6, upd_same, ra6.append (rps_cons w6 rps_nil), h6⟩
          · have gg6 := (gg3.trans g5).trans g6
            exact gg6.chg hD
          · exact fun a o e => by rw [upd_ne (ne_of_none e f6)]; exact s6 _ _ e
          · exact d6.chg nD hD6 rfl
      · have e : i = xs.length := by omega
        subst e
        exact .inl ⟨w1.stop _ H2 g2.kH (g2.sF.trans s2) (Nat.le_refl _), k _ _ _ _ _ _ (hend _ _ h2) (g1.trans g2) s2 d2 hD0 f2 hD2 ra⟩⟩
theorem me_compV {elt tg iter : Expr} {ifs : List Expr} {scope : Scope} {own : List (Str × Nat)} {pos : Pos} {s : DSrc} {t : TG} {g : DTG} {sl : List Nat} {tt : DTT} {te : DTE} (hc : X.calm = true) (hN : X.N.Nodup) (hi : DIv Y X tg iter s) (ok : BlkOk X.N X.env.scope scope own)
    (hk : GOk X.K t g sl) (hg : ∀ (s : Shared) (H : Hp) (C : Addr) (cl : List (Str × Addr)) (fp : List Addr), PG (X.blk s H scope (compEnvC scope cl C X.env) fp) tg t) (ht : ∀ (s : Shared) (H : Hp) (C : Addr) (cl : List (Str × Addr)) (fp : List Addr), WTs Y (X.blk s H scope (compEnvC scope cl C X.env) fp) ifs tt)
    (he : ∀ (s : Shared) (H : Hp) (C : Addr) (cl : List (Str × Addr)) (fp : List Addr), WE Y (X.blk s H scope (compEnvC scope cl C X.env) fp) elt te) (hv : ∀ i ∈ sl, i ∈ own.map (·.2)) (hs : ∀ x, foldedSetIterable iter X.env x = pure x := by intro _; rfl) :
    ME Y X (.ListComp elt [⟨tg, iter, ifs, 0⟩] scope pos) (mComp s g tt te (own.map (·.2))) :=
  pe_imp (pe_lc hc hN hi ok hg ht he hs) (comp_imv hk hv)
/-- name = [..] on one line -/
theorem ds_setLcV {i : Nat} {y : Str} {py : Pos} {elt tg iter : Expr} {ifs : List Expr} {scope : Scope} {own : List (Str × Nat)} {pos spos : Pos} {s : DSrc} {t : TG} {g : DTG} {sl : List Nat} {tt : DTT} {te : DTE} {u : DTE} (hc : X.calm = true) (hN : X.N.Nodup) (hy : X.N[i]? = some y) (hyl : X.env.scope.names.lookup y = some .local)
    (hsw : swapsWith (.ListComp elt [⟨tg, iter, ifs, 0⟩] scope pos) (some (.Name y py)) spos.line X.env = pure true) (hi : DIv Y X tg iter s) (ok : BlkOk X.N X.env.scope scope own)
    (hk : GOk X.K t g sl) (hg : ∀ (s : Shared) (H : Hp) (C : Addr) (cl : List (Str × Addr)) (fp : List Addr), PG (X.blk s H scope (compEnvC scope cl C X.env) fp) tg t) (ht : ∀ (s : Shared) (H : Hp) (C : Addr) (cl : List (Str × Addr)) (fp : List Addr), WTs Y (X.blk s H scope (compEnvC scope cl C X.env) fp) ifs tt)
    (he : ∀ (s : Shared) (H : Hp) (C : Addr) (cl : List (Str × Addr)) (fp : List Addr), WE Y (X.blk s H scope (compEnvC scope cl C X.env) fp) elt te) (hv : ∀ i ∈ sl, i ∈ own.map (·.2))
    (hu : ∀ σ H Q, upX Y X.K u σ H Q → upM Y X.K (mComp s g tt te (own.map (·.2))) σ H Q) (hs : ∀ x, foldedSetIterable iter X.env x = pure x := by intro _; rfl) :
    DS Y X (.Assign [.Name y py] (.ListComp elt [⟨tg, iter, ifs, 0⟩] scope pos) spos) (dAsg i u) :=
  ps_imp (ps_setLc hc hN hy hyl hsw hi ok hg ht he hs) fun D σ H h => by
    have h2 := asg_im D σ H h
    exact comp_imv hk hv _ _ _ (hu _ _ _ h2)
end DL
namespace DL
open PySem PySem.Spec PyProof.Rows L2
variable {X : Cx} {Y : Fx}
/-- .. each a turn's draws or fewer -/
theorem compR_le {m : Nat} (xs : List PyData) (P : PyData → Prop) (d : Nat) {n : Wo} {step : CStep} {R : List PyData → Wo → Prop} (hl : xs.length = m)
    (h : ∀ (k : Nat) x, xs[k]? = some x → k < m → ∀ acc q K, acc.length = k → q ≤ n + k * d → (∀ y q', P y → q' ≤ n + (k + 1) * d → K (acc ++ [y]) q') → step x acc q K) (hR : ∀ ys q, ys.length = m → (∀ y ∈ ys, P y) → q ≤ n + m * d → R ys q) : CompR xs n step R := by
  refine ⟨fun k acc q => q ≤ n + k * d ∧ acc.length = k ∧ ∀ y ∈ acc, P y, ⟨Wo.le0 n d, rfl, fun _ hy => (nomatch hy)⟩, ?_, ?_⟩
  · rintro k x acc q hx ⟨h0, h1, h2⟩
    have hk : k < m := by rw [← hl]; exact (List.getElem?_eq_some_iff.mp hx).1
    refine h k x hx hk acc q _ h1 h0 fun y q' hy hq => ⟨hq, by simp [h1], fun z hz => ?_⟩
    rcases List.mem_append.mp hz with w | w
    · exact h2 z w
    · rw [List.mem_singleton.mp w]; exact hy
  · rintro acc q ⟨h0, h1, h2⟩
    rw [hl] at h0 h1
    exact hR acc q h1 h2 h0
end DL
namespace DL
open PySem PySem.Spec PyProof.Rows L2
variable {X : Cx} {Y : Fx}
def rSetT (K : PySem.W.Frag) (w : World) : List V → Hp → VK → Prop := fun vs H Q => ∃ (a : Addr) (ns : List Int), vs = [.ref a] ∧ SqT K H a (ns.map V.int) ∧ ns.length ≤ 1000 ∧ ∀ p n, H p = none → n ≤ ns.length → Q (.ref p) (upd H p (SetO w p (fun j => decide (j ∈ ns)) n))
theorem cr_setT (hc : X.calm = true) : CallR X (.type "set") (rSetT X.K X.w) := by
  intro pins s σ H vs us Q I r h
  obtain ⟨a, ns, rfl, hs, hl, q⟩ := h
  obtain ⟨its, rv, p, hz⟩ := I.tuple hs
  rw [Vals.ref1 r]
  refine call_set_tupI ns (I.ok.hd hc) (show s.heap.IsTuple a its.toArray from p) (by simpa using intsAre_of rv) (Nat.lt_of_le_of_lt (Nat.succ_le_succ hl) (by decide)) fun h' tk c R hc' hk => ?_
  exact ⟨.ref _, upd H s.heap.objs.size (SetO X.w s.heap.objs.size (fun j => decide (j ∈ ns)) c), I.laid (t' := tk) hk (Nat.le_refl _) (setO_new R), rfl, q _ c (I.hok.fresh (Nat.le_refl _)) hc'⟩
def mSortSet (t : DTE) : DTM := fun ρ n R => t ρ n fun x n' => ∃ ns : List Int, x = .dat (.tuple (ns.map .int)) ∧ ns.length ≤ 60 ∧ ∀ ms : List Int, ms.Pairwise (· < ·) → (∀ k, k ∈ ms ↔ k ∈ ns) → R (ms.map .int) n'
theorem me_sortedSet {e : Expr} {t : DTE} {p p2 pos pos2 : Pos} (hc : X.calm = true) (hg : Gl X "sorted") (hm : X.mg "sorted" = none) (hg2 : Gl X "set") (hm2 : X.mg "set" = none) (he : WE Y X e t)
    (h1 : starEach [e] X.env = (false, eval e X.env) :: starEach [] X.env := by rfl) (h2 : (backTo pos2 (starEach [] X.env)).any (·.1) = false := by rfl)
    (h3 : starEach [.Call (.Name "set" p2) [e] [] pos2] X.env = (false, eval (.Call (.Name "set" p2) [e] [] pos2) X.env) :: starEach [] X.env := by rfl) (h4 : (backTo pos (starEach [] X.env)).any (·.1) = false := by rfl) :
    ME Y X (.Call (.Name "sorted" p) [.Call (.Name "set" p2) [e] [] pos2] [] pos) (mSortSet t) :=
  pe_imp (pe_callB (cr_sortedSet hc) hg hm PyProof.Rows.boot_sorted (pa_cons (pe_callTy (cr_setT hc) hg2 hm2 (by rfl) (pa_cons he pa_nil h1) (by decide) (by decide) h1 h2) pa_nil h3) (by decide) (by decide) h3 h4) fun σ H Q ⟨Z, F, ρ, n, R, r, ht, k⟩ =>
    ⟨Z, F, ρ, n, _, r, ht, fun x n1 F1 H1 v hx g1 s1 d1 w1 => by
      obtain ⟨ns, rfl, hl, hx⟩ := hx
      simp only [VR, Rp] at w1
      obtain ⟨a, us, rfl, e1, e2⟩ := w1
      rw [e2.ints] at e1
      have r1 := r.step g1 s1 d1
      refine ⟨a, ns, rfl, sqtR (rdS s1 e1), by omega, fun p c hp hcn => ⟨p, _, c, rfl, upd_same, by omega, fun ms q m1 m2 _ hq => ?_⟩⟩
      obtain ⟨g2, s2⟩ := Gp.newM (o := SetO X.w p (fun j => decide (j ∈ ns)) c) hp s1
      have r2 := r1.step g2.gr s2 (g2.dk r1.b)
      obtain ⟨g3, s3⟩ := Gp.newM (o := .lst (ms.map V.int)) hq s2
      have hq0 : H q = none := by
        cases e : H q with
        | none => rfl
        | some o => exact absurd hq ((g1.trans g2.gr).dH q (by rw [e]; nofun))
      exact k (ms.map .int) n1 F1 _ q _ (hx ms m1 fun k => (m2 k).trans (by simp)) ((g1.trans g2.gr).trans g3.gr) s3 (g3.dk r2.b) hq0 (s2.free hq) upd_same (rps_ints ms)⟩
end DL
namespace DL
open PySem PySem.Spec PyProof.Rows L2
variable {X : Cx} {Y : Fx}
theorem Rps.dropLast {K : PySem.W.Frag} {F : Hp} {ds : List PyData} {vs : List V} (h : Rps K F ds vs) : Rps K F ds.dropLast vs.dropLast := by
  rw [List.dropLast_eq_take, List.dropLast_eq_take, h.length]
  exact Rps.take _ h
end DL
namespace DL
open PySem PySem.Spec PyProof.Rows L2
variable {K : PySem.W.Frag}
def oRepT : D2 := fun x y R => ∃ (xs : List PyData) (k : Int), x.toD = .tuple xs ∧ y = .dat (.int k) ∧ xs ≠ [] ∧ 2 ≤ k ∧ k ≤ 1000 ∧ xs.length ≤ 1000 ∧ R (.tuple (List.replicate k.toNat xs).flatten)
theorem Rps.flat {F : Hp} {ds : List PyData} {vs : List V} (h : Rps K F ds vs) : ∀ n : Nat, Rps K F (List.replicate n ds).flatten (List.replicate n vs).flatten
  | 0 => rps_nil
  | n + 1 => by
    rw [List.replicate_succ, List.replicate_succ, List.flatten_cons, List.flatten_cons]
    exact h.append (Rps.flat h n)
theorem bi_repT : BinOk K (rRepT K) oRepT := fun δ F H x y v u R Q hs hx hy ⟨xs, k, e1, e2, hne, h2, h3, hz, hr⟩ b => by
  subst e2
  simp only [VR, Rp] at hy
  subst hy
  obtain ⟨a, vs, rfl, p1, p2⟩ := hx.tpl hs e1
  refine ⟨a, k, vs, rfl, rfl, sqtR (rdS hs p1), fun q => hne (List.eq_nil_of_length_eq_zero (by rw [p2.length, q]; rfl)), h2, h3, by rw [← p2.length]; exact hz, fun p hp => b.tup hs hr (Rps.flat p2 _) hp⟩
end DL
namespace DL
open PySem PySem.Spec PyProof.Rows L2
variable {X : Cx} {Y : Fx}
def gU2 (i j : Nat) : DTG := fun d ρ R => ∃ a b, d = .list [a, b] ∧ R ((ρ.set i (some (.dat a))).set j (some (.dat b)))
theorem gok_unl2 {K : PySem.W.Frag} {i j : Nat} : GOk K (gUnl K 2 (gCons (gName i) (gCons (gName j) gNil))) (gU2 i j) [i, j] := ⟨fun Y Z F H σ ρ n d v R Q r hr h k => by
  obtain ⟨a, b, rfl, h⟩ := h
  simp only [Rp] at hr
  obtain ⟨p, xs, rfl, hp, hxs⟩ := hr
  obtain ⟨u, v, rfl, h1, h2⟩ := rps2 hxs
  refine ⟨p, _, rfl, SqL.of (r.b.sub _ _ hp), rfl, u, _, rfl, v, _, rfl, rfl, k _ _ h ((r.setD i h1).setD j h2) fun vs hv => ?_⟩
  rw [wipe_set (hv j (by simp)), wipe_set (hv i (by simp))]⟩
open AutoSeq1 (wpAny_loadPart') in
theorem tuple_mul1 (l : Addr) (items : Array Value) (n : Nat) (dd : Option Addr) (sl : Array (Option Value)) (u : Tok) :
    Meets (Builtin.«tuple.__mul__» ⟨[.ref l, .int 1 u], []⟩) (fun _ R s => s.heap.get? l = some { cls := .type "tuple", dict := dd, data := .seq items n, slots := sl } ∧ R (.ok (.ret (Value.ref l))) s) :=
  .of_wp fun prog w A R s h => by
    obtain ⟨hp, g, d, tk, os⟩ := s
    obtain ⟨hl, h⟩ := h
    have f1 := AutoSeq1.idx_int
    wp_walk using wpAny_loadPart' hl
    exact ⟨_, rfl, h⟩
def rRep1 (K : PySem.W.Frag) : R2 := fun x y H Q => ∃ l xs, x = .ref l ∧ y = .int 1 ∧ SqT K H l xs ∧ Q (.ref l) H
theorem op_rep1 : OpR X (binaryOp .Mult) (rRep1 X.K) := by
  intro pins s σ H x y v u Q I rx ry h
  obtain ⟨l, xs, rfl, rfl, hT, q⟩ := h
  cases rx
  obtain ⟨t, rfl⟩ := ry
  obtain ⟨its, r, ⟨⟨cls, dd, data, sl⟩, ho, hc, n, hd⟩, hs⟩ := I.tuple hT
  simp only at hc hd
  subst hc hd
  exact wpAny_binaryOp_repeat_ref (T := "tuple") (U := "int") (by decide) ⟨_, ho, rfl⟩ (fun s' => typeIs_int s' 1 t) noFill_tuple_mul F.fills_int_mul F.slot_int_rmul repeat_tuple F.slot_int_index.lookup
    (call_meets F.slot_int_rmul (typeIs_int s 1 t) F.entry_int_rmul (F.args_int_rmul_2 _ _) (int_rmul_tuple 1 t l its.toArray n dd sl)
      ⟨ho, rfl, ⟨_, ho, rfl⟩, call_meets F.slot_tuple_mul ⟨_, ho, rfl⟩ F.entry_tuple_mul (F.args_tuple_mul_2 _ _) (tuple_mul1 l its.toArray n dd sl t) ⟨ho, .ref l, H, I, rfl, q⟩⟩)
def oRepA : D2 := fun x y R => ∃ (xs : List PyData) (k : Int), x = .dat (.tuple xs) ∧ y = .dat (.int k) ∧ xs ≠ [] ∧ 1 ≤ k ∧ k ≤ 1000 ∧ xs.length ≤ 1000 ∧ R (.tuple (List.replicate k.toNat xs).flatten)
theorem op_repA : OpR X (binaryOp .Mult) (fun x y H Q => rRepT X.K x y H Q ∨ rRep1 X.K x y H Q) := OpR.or op_repT op_rep1
theorem bi_repA {K : PySem.W.Frag} : BinOk K (fun x y H Q => rRepT K x y H Q ∨ rRep1 K x y H Q) oRepA := fun δ F H x y v u R Q hs hx hy ⟨xs, k, e1, e2, hne, h2, h3, hz, hr⟩ b => by
  by_cases hk : k = 1
  · subst hk
    subst e1 e2
    simp only [VR, Rp] at hy hx
    subst hy
    obtain ⟨a, vs, rfl, p1, p2⟩ := hx
    refine .inr ⟨a, vs, rfl, rfl, sqtR (rdS hs p1), b.here hs hr ?_⟩
    simp only [Rp]
    exact ⟨a, vs, rfl, p1, by simpa using p2⟩
  · exact .inl (bi_repT δ F H x y v u R Q hs hx hy ⟨xs, k, by rw [e1]; rfl, e2, hne, by omega, h3, hz, hr⟩ b)
end DL
namespace DL
open PySem PySem.Spec PyProof.Rows L2
variable {X : Cx} {Y : Fx}
theorem Rps.strs {K : PySem.W.Frag} {F : Hp} : ∀ {ss : List Str} {vs : List V}, Rps K F (ss.map PyData.str) vs → vs = ss.map V.str
  | [], _, h => by simpa only [List.map_nil, Rps] using h
  | n :: ss, _, h => by
    simp only [List.map_cons, Rps, Rp] at h
    obtain ⟨v, r, rfl, rfl, h2⟩ := h
    rw [Rps.strs h2]; rfl
end DL
namespace DL
open PySem PySem.Spec PyProof.Rows L2
variable {X : Cx} {Y : Fx}
def rInDT (K : PySem.W.Frag) (neg : Bool) : R2 := fun x y H Q => ∃ d ds, Dp K H x d ∧ Dp K H y (.tuple ds) ∧ SeqAt.shaped d = true ∧ SeqAt.shaped (.tuple ds) = true ∧ Q (.bl (if neg then !(ds.any fun z => PyData.eqv z d) else ds.any fun z => PyData.eqv z d)) H
theorem room_inT {ds : List PyData} {d : PyData} {u : Nat} (hs : SeqAt.shaped d = true) (hu : u + 65 < cLine) : u + 1 + min (PyData.depthAll ds) d.depth < cLine := by
  have := SeqAt.depth_of_shaped hs
  omega
theorem op_inDT (hu : X.A.units + 65 < cLine) : OpR X (compareOp .In) (rInDT X.K false) := by
  intro pins s σ H x y v u Q I rx ry ⟨d, ds, hd, he, sd, se, q⟩
  obtain ⟨as, r1⟩ := Dp.reads I d x v hd rx
  obtain ⟨bs, r2⟩ := Dp.reads I (.tuple ds) y u he ry
  exact SeqAt.in_tuple_reads r2 r1 (SeqAt.canLay_of_shaped se) (SeqAt.canLay_of_shaped sd) (room_inT sd hu) ⟨.bl _, H, I, rfl, q⟩
def oInT (neg : Bool) : D2 := fun x y R => x.isDk = false ∧ y.isDk = false ∧ ∃ ds, y.toD = .tuple ds ∧ Sh x.toD ∧ Sh (.tuple ds) ∧ R (.bool (if neg then !(ds.any fun z => PyData.eqv z x.toD) else ds.any fun z => PyData.eqv z x.toD))
theorem bi_inT {K : PySem.W.Frag} (neg : Bool) : BinOk K (rInDT K neg) (oInT neg) := fun δ F H x y v u R Q hs hx hy ⟨n1, n2, ds, e, s1, s2, hr⟩ b =>
  ⟨x.toD, ds, Rp.dp _ _ (SeqAt.canLay_of_shaped s1) (hx.rp hs n1), Rp.dp _ _ (SeqAt.canLay_of_shaped s2) (e ▸ hy.rp hs n2), s1, s2, b.bl hs hr⟩
section
variable {prog : Program} {w : World} {A : Around} {E : Value → Shared → Prop} {s : Shared}
theorem collectT {l : Addr} {vs : List Value} {Q : List Value → Shared → Prop} (hl : s.heap.IsTuple l vs.toArray) (hz : vs.length ≤ sizeLine)
    (h : Q vs { s with heap := (s.heap.push (seqObj "list" #[] 0)).update s.heap.objs.size (Obj.mapSeq (· ++ vs.toArray)) }) : wpAny (model prog w) A (collect (.ref l)) Q E s := by
  obtain ⟨o, ho, hc, n, hd⟩ := id hl
  have hnew : (s.heap.push (seqObj "list" #[] 0)).get? s.heap.objs.size = some (seqObj "list" #[] 0) := Heap.get?_push_size _ rfl
  have hold : (s.heap.push (seqObj "list" #[] 0)).get? l = some o := Heap.get?_push_of_some _ ho
  have tnew : Code.quiet (.builtin "list.__iadd__" ⟨[.ref s.heap.objs.size, .ref l], []⟩) = true := Code.quiet_builtin _ (by decide +kernel)
  have grown := get?_update_seq hnew (· ++ vs.toArray)
  have fit : (#[] ++ vs.toArray : Array Value).size ≤ sizeLine + 1 := by simp only [Array.size_append, List.size_toArray, List.length_nil]; omega
  have back : ((#[] : Array Value) ++ vs.toArray).toList = vs := by simp
  unfold collect
  refine wpAny_bind (wpAny_runValue (codeAny_builtin entry_proto_collect' (wpAny_bind (m := newList []) (wpAny_newList (wpAny_pure ⟨tnew, codeAny_builtin entry_list_iadd' ?_⟩)))))
  show wpAny _ _ (Builtin.List.listExtendWith (.ref s.heap.objs.size) (.ref l) (.ref s.heap.objs.size)) _ _ ({ s with heap := s.heap.push (seqObj "list" #[] 0) } : Shared)
  unfold Builtin.List.listExtendWith
  have two : (Builtin.List.listSameRef (.ref s.heap.objs.size) (.ref l) || (Value.type "tuple" == Value.type "list") || (Value.type "tuple" == Value.type "tuple")) = true := by rw [Bool.or_eq_true]; exact .inr rfl
  refine wpAny_bind (wpAny_typeOf (T := "tuple") ⟨o, hold, hc⟩ ?_)
  rw [if_pos two]
  refine wpAny_bind (listItems_at hold hd (wpAny_bind (listItems_at hnew rfl ?_)))
  have mt0 : ¬ ((!(#[] : Array Value).isEmpty && Builtin.List.listTooLong ((#[] : Array Value).size + vs.toArray.size)) = true) := by simp
  rw [if_neg mt0]
  refine wpAny_bind (listUpdate_at hnew rfl (wpAny_pure ?_) (Nat.zero_le _) fit)
  refine wpAny_bind (m := load s.heap.objs.size) (wpAny_load grown ?_)
  show wpAny _ _ (Pure.pure ((#[] : Array Value) ++ vs.toArray).toList) Q E _
  rw [back]
  exact wpAny_pure h
/-- sorted(t): the collected list at size, the new one behind it -/
theorem sortedT {l : Addr} {vs : List Value} {ltv : Value → Value → Bool} {Q : Value → Shared → Prop} (O : SrtO.Swo ltv) (hl : s.heap.IsTuple l vs.toArray) (hz : vs.length ≤ sizeLine)
    (hS : 2 ≤ vs.length → ∀ (h₁ : Heap) (a : Addr), SrtO.SortableO prog w A.in1.in1 { s with heap := h₁ } a vs ltv)
    (h : ∀ out : List Value, SrtO.Srtd ltv out → SrtO.Stb ltv out vs → Q (.ref (s.heap.objs.size + 1)) { s with heap := sortedAll s.heap vs out.toArray }) : wpAny (model prog w) A (call (.builtin "sorted") [.ref l]) Q E s := by
  have sz1 : ((s.heap.push (seqObj "list" #[] 0)).update s.heap.objs.size (Obj.mapSeq (· ++ vs.toArray))).objs.size = s.heap.objs.size + 1 := (Heap.size_update ..).trans (size_push' ..)
  have at1 := Heap.get?_push_size ((s.heap.push (seqObj "list" #[] 0)).update s.heap.objs.size (Obj.mapSeq (· ++ vs.toArray))) (o := seqObj "list" vs.toArray 0) rfl
  refine Calls.call_function_entry kind_sorted plain_sorted entry_sorted (args_sorted1 _) ?_
  unfold Builtin.«sorted»
  refine wpAny_bind (m := checkCount "sorted" 1 1 _) (wpAny_pure (wpAny_bind (collectT hl hz (wpAny_bind (wpAny_newList ?_ hz)))))
  rw [sz1] at at1 ⊢
  exact wpAny_bind (wpAny_holding (wpAny_call_entry slot_list_sort ⟨_, at1, rfl⟩ entry_list_sort (SrtO.list_sort_ord O at1 hz (fun h2 => hS h2 _ _) fun out hs hb => ⟨_, rfl, wpAny_pure ⟨_, rfl, h out hs hb⟩⟩) (args_list_sort _)))
end
def rSortIT (K : PySem.W.Frag) : List V → Hp → VK → Prop := fun vs H Q => ∃ (a : Addr) (ns : List Int), vs = [V.ref a] ∧ SqT K H a (ns.map V.int) ∧
  ∀ (ns' : List Int) (p : Addr), ns'.Perm ns → ns'.Pairwise (· ≤ ·) → H p = none → Q (.ref p) (upd H p (.lst (ns'.map V.int)))
theorem cr_sortIT : CallR X (.builtin "sorted") (rSortIT X.K) := by
  intro pins s σ H vs us Q I r ⟨a, ns, e, hs, q⟩
  subst e
  obtain ⟨its, rv, hl, hz⟩ := I.tuple hs
  have hi := rv.ints
  rw [Vals.ref1 r]
  refine sortedT SrtO.swo_int (show s.heap.IsTuple a its.toArray from hl) (by rw [← rv.length]; exact hz) (fun h2 h₁ a' => SrtO.ints_sortable hi h2) fun out h1 h2 => ?_
  obtain ⟨k1, k2, k3⟩ := SrtO.ints_out hi h1 h2
  obtain ⟨ep, he'⟩ := PyProof.Rows.sortedAll_at s.heap its out.toArray
  have hlen : ((out.map SrtO.iv).map V.int).length ≤ sizeLine := by
    have := k2.length_eq
    rw [List.length_map] at hz ⊢
    omega
  have inv := I.laid (t' := s.toks) (fun _ _ => PyProof.Rows.sortedAll_old) (Nat.le_succ _) (a := s.heap.objs.size + 1) (o := .lst ((out.map SrtO.iv).map V.int)) ⟨hlen, out, ep, vals_of_ints k1, he'⟩
  exact ⟨.ref _, _, inv, rfl, q _ _ k2 k3 (I.hok.fresh (Nat.le_succ _))⟩
def oSortIT : DCM := fun xs R => ∃ x, ∃ ns : List Int, xs = [x] ∧ x.toD = .tuple (ns.map .int) ∧ ∀ ns' : List Int, ns'.Perm ns → ns'.Pairwise (· ≤ ·) → R (ns'.map .int)
theorem ck_sortIT {K : PySem.W.Frag} : CallOkM K (rSortIT K) oSortIT := fun δ F H xs vs R Q hs hv ⟨x, ns, e, e2, hr⟩ b => by
  subst e
  obtain ⟨v, rfl, h1⟩ := vr1 hv
  obtain ⟨a, us, rfl, h2, h3⟩ := h1.tpl hs e2
  rw [h3.ints] at h2
  exact ⟨a, ns, rfl, sqtR (rdS hs h2), fun ns' p k1 k2 hp => b _ _ _ (hr ns' k1 k2) hp (rps_ints ns')⟩
open AutoSeq1 (wpAny_loadPart') in
theorem tuple_mul0 (l : Addr) (items : Array Value) (n : Nat) (dd : Option Addr) (sl : Array (Option Value)) (u : Tok) :
    Meets (Builtin.«tuple.__mul__» ⟨[.ref l, .int 0 u], []⟩) (fun _ R s => s.heap.get? l = some { cls := .type "tuple", dict := dd, data := .seq items n, slots := sl } ∧ items.isEmpty = false ∧ R (.ok (.ret (Value.ref s.heap.objs.size))) { s with heap := s.heap.push { cls := .type "tuple", data := .seq #[] } }) :=
  .of_wp fun prog w A R s ⟨hl, hne, h⟩ => by
    obtain ⟨hp, g, d, tk, os⟩ := s
    have f1 := AutoSeq1.idx_int
    wp_walk using wpAny_loadPart' hl
    exact ⟨_, rfl, h⟩
def rRep0 (K : PySem.W.Frag) : R2 := fun x y H Q => ∃ l xs, x = .ref l ∧ y = .int 0 ∧ SqT K H l xs ∧ xs ≠ [] ∧ ∀ p, H p = none → Q (.ref p) (upd H p (.tup []))
theorem op_rep0 : OpR X (binaryOp .Mult) (rRep0 X.K) := by
  intro pins s σ H x y v u Q I rx ry ⟨l, xs, e1, e2, hT, hne, q⟩
  subst e1 e2
  cases rx
  obtain ⟨t, rfl⟩ := ry
  obtain ⟨its, r, ⟨⟨cls, dd, data, sl⟩, ho, hc, n, hd⟩, hs⟩ := I.tuple hT
  simp only at hc hd
  subst hc hd
  have hi : its.toArray.isEmpty = false := by
    cases its with
    | nil => exact absurd (List.eq_nil_of_length_eq_zero r.length) hne
    | cons a b => rfl
  have inv := I.laid (t' := s.toks) (a := s.heap.objs.size) (o := .tup []) (fun b ob q => Heap.get?_push_of_some { cls := .type "tuple", data := .seq #[] } q) (Nat.le_refl _) ⟨Nat.zero_le _, [], .nil, IsTup.new _ _⟩
  have done : EP X pins σ Q (.ref s.heap.objs.size) { s with heap := s.heap.push { cls := .type "tuple", data := .seq #[] } } := ⟨.ref s.heap.objs.size, _, inv, rfl, q _ (I.hok.fresh (Nat.le_refl _))⟩
  have second := call_meets (A := X.A) (E := X.xe) (prog := X.prog) (w := X.w) (s := s) (self := .ref l) (rest := [.int 0 t]) (Q := EP X pins σ Q) F.slot_tuple_mul ⟨_, ho, rfl⟩ F.entry_tuple_mul (F.args_tuple_mul_2 _ _) (tuple_mul0 l its.toArray n dd sl t) ⟨ho, hi, done⟩
  exact wpAny_binaryOp_repeat_ref (T := "tuple") (U := "int") (by decide) ⟨_, ho, rfl⟩ (fun s' => typeIs_int s' 0 t) noFill_tuple_mul F.fills_int_mul F.slot_int_rmul repeat_tuple F.slot_int_index.lookup
    (call_meets F.slot_int_rmul (typeIs_int s 0 t) F.entry_int_rmul (F.args_int_rmul_2 _ _) (int_rmul_tuple 0 t l its.toArray n dd sl) ⟨ho, rfl, ⟨_, ho, rfl⟩, second⟩)
def oRepZ : D2 := fun x y R => ∃ (xs : List PyData) (k : Int), x = .dat (.tuple xs) ∧ y = .dat (.int k) ∧ xs ≠ [] ∧ 0 ≤ k ∧ k ≤ 1000 ∧ xs.length ≤ 1000 ∧ R (.tuple (List.replicate k.toNat xs).flatten)
theorem op_repZ : OpR X (binaryOp .Mult) (fun x y H Q => (rRepT X.K x y H Q ∨ rRep1 X.K x y H Q) ∨ rRep0 X.K x y H Q) := OpR.or op_repA op_rep0
theorem bi_repZ {K : PySem.W.Frag} : BinOk K (fun x y H Q => (rRepT K x y H Q ∨ rRep1 K x y H Q) ∨ rRep0 K x y H Q) oRepZ := fun δ F H x y v u R Q hs hx hy ⟨xs, k, e1, e2, hne, h2, h3, hz, hr⟩ b => by
  by_cases hk : k = 0
  · subst hk
    subst e1 e2
    simp only [VR, Rp] at hy hx
    subst hy
    obtain ⟨a, vs, rfl, p1, p2⟩ := hx
    refine .inr ⟨a, vs, rfl, rfl, sqtR (rdS hs p1), fun e => hne ?_, fun p hp => b.tup hs hr rps_nil hp⟩
    have := p2.length
    rw [e] at this
    exact List.eq_nil_of_length_eq_zero this
  · exact .inl (bi_repA δ F H x y v u R Q hs hx hy ⟨xs, k, e1, e2, hne, by omega, h3, hz, hr⟩ b)
end DL
set_option maxHeartbeats 4000000
namespace DL
open PySem PySem.Spec PyProof.Rows L2
variable {X : Cx} {Y : Fx}
def oAddS : D2 := fun x y R => ∃ a b : Str, x = .dat (.str a) ∧ y = .dat (.str b) ∧ a.length + b.length ≤ sizeLine ∧ R (.str (a ++ b))
abbrev rAddS : R2 := fun x y H Q => ∃ i j, x = .str i ∧ y = .str j ∧ i.length + j.length ≤ sizeLine ∧ Q (.str (i ++ j)) H
theorem bi_addS {K : PySem.W.Frag} : BinOk K rAddS oAddS := fun δ F H x y v u R Q hs hx hy ⟨a, b, e1, e2, hl, hr⟩ bk => by
  subst e1 e2
  simp only [VR, Rp] at hx hy
  exact ⟨a, b, hx, hy, hl, bk.here hs hr (by simp [Rp])⟩
def oStr : DC := fun xs R => ∃ i : Int, xs = [.dat (.int i)] ∧ i.natAbs.log2 < 1920 ∧ R (.str (toString i))
theorem cr_str {K : PySem.W.Frag} : CallOk K (fun xs H Q => ∃ i, xs = [.int i] ∧ i.natAbs.log2 < 1920 ∧ Q (.str (toString i)) H) oStr := fun δ F H xs vs R Q hs hv ⟨i, e, hl, hr⟩ bk => by
  subst e
  obtain ⟨v, rfl, h⟩ := vr1 hv
  simp only [VR, Rp] at h
  subst h
  exact ⟨i, rfl, hl, bk.here hs hr (by simp [Rp])⟩
theorem we_gstr {x : Str} {i : Str} {t : Tok} {pos : Pos} (hg : Gl X x) (hm : X.mg x = some (.str i t)) (hd : (x == ("__debug__" : Str)) = false := by decide) : WE Y X (.Name x pos) (dC (.str i)) :=
  we_c (pe_glob (v := .str i) hg hm ⟨_, rfl⟩ hd) fun _ => by simp [Rp]
def dJoin (t u : DTE) : DTE := fun ρ n R => t ρ n fun x n1 => ∃ a : Str, x = .dat (.str a) ∧ u ρ n1 fun y n2 => ∃ ys : List Str, y = .dat (.list (ys.map .str)) ∧ (ys.map (·.length)).sum + ys.length * a.length ≤ 16777216 ∧ R (.dat (.str (Txt.join a ys))) n2
theorem we_join {o e : Expr} {t u : DTE} {apos pos : Pos} (ho : WE Y X o t) (he : WE Y X e u) (h1 : starEach [e] X.env = [(false, eval e X.env)] := by rfl)
    (h2 : attributeBase o "join" X.env (eval o X.env) = eval o X.env := by rfl) (h3 : (apos.endLine == pos.line) = true := by rfl) : WE Y X (.Call (.Attribute o "join" apos) [e] [] pos) (dJoin t u) :=
  pe_imp (pe_join ho he h1 h2 h3) fun σ H Q ⟨Z, F, ρ, n, R, r, ht, k⟩ => ⟨Z, F, ρ, n, _, r, ht, fun x n1 F1 H1 v ⟨a, e1, hx⟩ g1 s1 d1 w1 => by
    subst e1
    simp only [VR, Rp] at w1
    subst w1
    refine ⟨⟨a, rfl⟩, Z, F1, ρ, n1, _, r.step g1 s1 d1, hx, fun y n2 F2 H2 u2 ⟨ys, e2, hb, hy⟩ g2 s2 d2 w2 => ?_⟩
    subst e2
    simp only [VR, Rp] at w2
    obtain ⟨p, vs, rfl, p1, p2⟩ := w2
    rw [p2.strs] at p1
    exact ⟨a, p, ys, rfl, rfl, .inl (SqL.of (s2 _ _ p1)), hb, k _ _ _ _ _ hy (g1.trans g2) s2 d2 (by simp [VR, Rp])⟩⟩
def dFmt (t : DTE) : DTE := fun ρ n R => t ρ n fun x n1 => ∃ y : Str, x = .dat (.str y) ∧ y.length ≤ sizeLine ∧ R (.dat (.str y)) n1
theorem we_fmt {e : Expr} {t : DTE} {pos : Pos} (h : WE Y X e t) : WE Y X (.FormattedValue e (-1) none pos) (dFmt t) :=
  pe_imp (pe_fmt h) fun σ H Q ⟨Z, F, ρ, n, R, r, ht, k⟩ => ⟨Z, F, ρ, n, _, r, ht, fun x n1 F1 H1 v ⟨a, e1, hl, hx⟩ g1 s1 d1 w1 => by
    subst e1
    simp only [VR, Rp] at w1
    subst w1
    exact .inl ⟨a, rfl, hl, k _ _ _ _ _ hx g1 s1 d1 (by simp [VR, Rp])⟩⟩
def dJs : List DTE → Str → List (Option Dv) → Wo → (Str → Wo → Prop) → Prop
  | [], acc, _, n, R => R acc n
  | t :: ts, acc, ρ, n, R => t ρ n fun x n1 => ∃ y : Str, x = .dat (.str y) ∧ (acc ++ y).length ≤ sizeLine ∧ dJs ts (acc ++ y) ρ n1 R
inductive WJ Y (X : Cx) : List Expr → List DTE → Prop
  | nil : WJ Y X [] []
  | cons {e : Expr} {t : DTE} {es : List Expr} {ts : List DTE} (h : WE Y X e t) (hs : WJ Y X es ts) : WJ Y X (e :: es) (t :: ts)
theorem WJ.pj {es : List Expr} {ts : List DTE} (h : WJ Y X es ts) : PJ X es (ts.map (up Y X.K)) := by
  induction h with
  | nil => exact .nil
  | cons h _ ih => exact .cons h ih
theorem js_up {K : PySem.W.Frag} {Q : Str → Hp → Prop} : ∀ (ts : List DTE) (acc : Str) {Z F H σ ρ n} {R : Str → Wo → Prop}, SR Y K Z F H σ ρ n → dJs ts acc ρ n R →
    (∀ out n' F' H', R out n' → Gr Z.δ F H F' H' → Same F' H' → Z.δ.at_ K F' H' n' → Q out H') → tJs (ts.map (up Y K)) acc σ H Q
  | [], acc, Z, F, H, σ, ρ, n, R, r, h, k => k _ _ _ _ h Gr.refl r.b.sub r.b.dk
  | t :: ts, acc, Z, F, H, σ, ρ, n, R, r, h, k =>
    ⟨Z, F, ρ, n, _, r, h, fun x n1 F1 H1 v ⟨y, e, hl, hx⟩ g1 s1 d1 w1 => by
      subst e
      simp only [VR, Rp] at w1
      subst w1
      exact ⟨y, rfl, hl, js_up ts (acc ++ y) (r.step g1 s1 d1) hx fun out n' F' H' hr g2 s2 d2 => k out n' F' H' hr (g1.trans g2) s2 d2⟩⟩
def dFs (ts : List DTE) : DTE := fun ρ n R => dJs ts Str.empty ρ n fun out n1 => R (.dat (.str out)) n1
theorem we_fstr {v1 v2 : Expr} {rest : List Expr} {ts : List DTE} {pos : Pos} (h : WJ Y X (v1 :: v2 :: rest) ts) : WE Y X (.JoinedStr (v1 :: v2 :: rest) pos) (dFs ts) :=
  pe_imp (pe_joined h.pj) fun σ H Q ⟨Z, F, ρ, n, R, r, ht, k⟩ => js_up ts Str.empty r ht fun out n' F' H' hr g s d => k _ _ _ _ _ hr g s d (by simp [VR, Rp])
def dThaw (i : Nat) (t : DTS) : DTS := fun E ρ n => ∃ ds, ρ[i]? = some (some (.mt ds)) ∧ t E (ρ.set i (some (.dat (.list ds)))) n
theorem dss_thaw {i : Nat} {sts : List Stmt} {t : DTS} (h : DSs Y X sts t) : DSs Y X sts (dThaw i t) :=
  pss_imp h fun D σ H ⟨Z, F, ρ, n, E, r, ⟨ds, e, hx⟩, k⟩ => by
    obtain ⟨F', a, e1, r', _⟩ := r.freeze e
    exact ⟨Z, F', _, n, E, r', hx, k⟩
end DL
namespace DL
open PySem PySem.Spec PyProof.Rows L2
variable {X : Cx} {Y : Fx}
theorem isInt_of {k : Int} {v : Value} (h : Value.isInt k v = true) : ∃ t, v = .int k t := by
  unfold Value.isInt at h
  split at h
  · have := of_decide_eq_true h
    subst this
    exact ⟨_, rfl⟩
  · cases h
theorem isStr_of {k : Str} {v : Value} (h : Value.isStrOf k v = true) : ∃ t, v = .str k t := by
  unfold Value.isStrOf at h
  split at h
  · have := eq_of_beq h
    subst this
    exact ⟨_, rfl⟩
  · cases h
theorem dict_entries {prog : Program} {w : World} : ∀ {ps : List (Key × Int)} {es : List DictEntry} {vs : List (Key × Value)}, Pairs (mixKind prog w) es vs → KV (ps.map fun p => (p.1, V.int p.2)) vs →
    ∀ h : Heap, ReadsAll h (es.map (·.key)) (ps.map fun p => keyD p.1) [] ∧ ReadsAll h (es.map (·.val)) (ps.map fun p => PyData.int p.2) []
  | [], es, vs, hp, hk, h => by
    cases hk
    cases hp
    exact ⟨.nil, .nil⟩
  | p :: ps, es, vs, hp, hk, h => by
    cases hk with
    | cons a b =>
      cases hp with
      | cons c d e =>
        obtain ⟨i1, i2⟩ := dict_entries e b h
        obtain ⟨a1, a2⟩ := a
        obtain ⟨t, a2⟩ := a2
        rw [← a1] at c
        refine ⟨?_, ?_⟩
        · cases hk1 : p.1 with
          | inl i =>
            rw [hk1] at c
            obtain ⟨t, ht⟩ := isInt_of c
            rw [List.map_cons, List.map_cons, hk1, ht]
            exact .cons (as := []) (.int i t) i1
          | inr x =>
            rw [hk1] at c
            obtain ⟨t, ht⟩ := isStr_of c
            rw [List.map_cons, List.map_cons, hk1, ht]
            exact .cons (as := []) (.str x t) i1
        · rw [List.map_cons, List.map_cons, d, a2]
          exact .cons (as := []) (.int p.2 t) i2
section
variable {pins : List (Addr × Obj)} {σ : L2.St} {H : Hp} {s : Shared}
theorem ref_hidden (a : Addr) : (refD a).showable = false := by
  show PyData.showable (.dict [(.none, .int (((2 : Nat) ^ 2000 + a : Nat) : Int))]) = false
  simp only [PyData.showable, PyData.showableKv, Bool.true_and, Bool.and_true]
  refine decide_eq_false fun h => ?_
  have e : ((((2 : Nat) ^ 2000 + a : Nat) : Int)).natAbs = 2 ^ 2000 + a := Int.natAbs_natCast _
  rw [e] at h
  have h2 : 2000 ≤ (2 ^ 2000 + a).log2 := (Nat.le_log2 (by have := Nat.two_pow_pos 2000; omega)).mpr (Nat.le_add_right _ _)
  omega
theorem cln_hidden (ns : List Int) : (clnD ns).showable = false := by
  have h := ref_hidden (0 : Nat)
  rw [show refD (0 : Nat) = PyData.dict [(.none, .int (((2 : Nat) ^ 2000 : Nat) : Int))] from rfl] at h
  simp only [PyData.showable, PyData.showableKv, Bool.true_and, Bool.and_true] at h
  unfold clnD
  simp only [PyData.showable, PyData.showableKv, PyData.showableAll, Bool.true_and, Bool.and_true]
  rw [h, Bool.false_and]
theorem ref_unshown {H : Hp} {kvs : List (PyData × PyData)} {v : V} (hs : (PyData.dict kvs).showable = true) : ¬ ((∃ a : Addr, PyData.dict kvs = refD a ∧ v = .ref a) ∨ ∃ (a : Addr) (ns : List Int) (o : Obj), PyData.dict kvs = clnD ns ∧ v = .ref a ∧ H a = some (.frz o (.tup (ns.map V.int))) ∧ o.cls = .type "tuple" ∧ o.dict = none) := by
  rintro (⟨a, e, _⟩ | ⟨_, ns, _, e, _⟩)
  · rw [e, ref_hidden] at hs
    cases hs
  · rw [e, cln_hidden] at hs
    cases hs
mutual
theorem Rp.readsE (I : Inv X pins σ H s) : ∀ (d : PyData) (v : V) (u : Value), Rp X.K H d v → L2.RelV v u → d.showable = true → ∃ as, Reads s.heap u d as
  | .none, v, u, h, r, _ => by simp only [Rp] at h; subst h; cases r; exact ⟨[], .none⟩
  | .bool b, v, u, h, r, _ => by simp only [Rp] at h; subst h; cases r; exact ⟨[], .bool b⟩
  | .int i, v, u, h, r, _ => by simp only [Rp] at h; subst h; obtain ⟨t, rfl⟩ := r; exact ⟨[], .int i t⟩
  | .str x, v, u, h, r, _ => by simp only [Rp] at h; subst h; obtain ⟨t, rfl⟩ := r; exact ⟨[], .str x t⟩
  | .list ds, v, u, h, r, hs => by
    simp only [Rp] at h
    obtain ⟨a, xs, rfl, h1, h2⟩ := h
    cases r
    obtain ⟨_, its, n, hv, hg⟩ := I.hok a _ h1
    obtain ⟨as, hr⟩ := Rps.readsE I ds xs its h2 hv (by simpa only [PyData.showable] using hs)
    exact ⟨a :: as, .list hg rfl rfl hr⟩
  | .tuple ds, v, u, h, r, hs => by
    simp only [Rp] at h
    obtain ⟨a, xs, rfl, h1, h2⟩ := h
    cases r
    obtain ⟨_, its, hv, o, hg, hc, n, hd⟩ := tupOk I h1
    obtain ⟨as, hr⟩ := Rps.readsE I ds xs its h2 hv (by simpa only [PyData.showable] using hs)
    exact ⟨as, .tuple hg hc hd hr⟩
  | .dict kvs, v, u, h, r, hs => by
    simp only [Rp] at h
    obtain ⟨a, ks, rfl, h1, ps, rfl, rfl⟩ := h.resolve_right (ref_unshown hs)
    cases r
    obtain ⟨_, _, vs, hk, o, es, ep, hg, hx, hd, _, hp, _⟩ := dk_of I.hok h1
    obtain ⟨r1, r2⟩ := dict_entries hp hk s.heap
    refine ⟨_, .dict hg hx.1 hd (as := []) (bs := []) ?_ ?_⟩
    · rw [List.map_map]; exact r1
    · rw [List.map_map]; exact r2
theorem Rps.readsE (I : Inv X pins σ H s) : ∀ (ds : List PyData) (vs : List V) (us : List Value), Rps X.K H ds vs → Vals vs us → PyData.showableAll ds = true → ∃ as, ReadsAll s.heap us ds as
  | [], vs, us, h, r, _ => by simp only [Rps] at h; subst h; cases r; exact ⟨[], .nil⟩
  | d :: ds, vs, us, h, r, hs => by
    simp only [Rps] at h
    obtain ⟨v, vs', rfl, h1, h2⟩ := h
    simp only [PyData.showableAll, Bool.and_eq_true] at hs
    cases r with
    | cons r1 r2 =>
      obtain ⟨as, a1⟩ := Rp.readsE I d v _ h1 r1 hs.1
      obtain ⟨bs, a2⟩ := Rps.readsE I ds vs' _ h2 r2 hs.2
      exact ⟨as ++ bs, .cons a1 a2⟩
end
theorem leafK {h : Heap} {u : Value} {d : PyData} {as : List Addr} {P : Program} {w : World} (r : Reads h u d as) (hs : d.showable = true) (hd : d.hasDict = false) (hl : d.shown.length ≤ sizeLine) : ∃ bs, ReadAtMost h d.depth bs ∧ ReprK P w bs h d.depth u d.shown :=
  ReprK.of_reads r hs (fun q => by rw [hd] at q; cases q) hl
theorem dictE (I : Inv X pins σ H s) {a : Addr} {ps : List (Key × Int)} {as : List Addr} (h1 : H a = some (.dK (ps.map fun p => (p.1, V.int p.2)))) (q : Reads s.heap (.ref a) (.dict (ps.map fun p => (keyD p.1, PyData.int p.2))) as)
    (hs : (PyData.dict (ps.map fun p => (keyD p.1, PyData.int p.2))).showable = true) (hl : (PyData.dict (ps.map fun p => (keyD p.1, PyData.int p.2))).shown.length ≤ sizeLine) :
    ∃ o es ep bs, s.heap.get? a = some o ∧ o.cls = .type "dict" ∧ o.data = .dict es ep ∧ (a == sysModules) = false ∧ ReadAtMost s.heap (PyData.depthKv (ps.map fun p => (keyD p.1, PyData.int p.2))) bs ∧ a ∉ bs ∧
      ReprEntriesK X.prog X.w bs s.heap (PyData.depthKv (ps.map fun p => (keyD p.1, PyData.int p.2))) es.toList (PyData.shownKv (ps.map fun p => (keyD p.1, PyData.int p.2))) := by
  obtain ⟨_, low, vs, hk, o, es, ep, hg, hx, hd, _, hp, _⟩ := dk_of I.hok h1
  obtain ⟨r1, r2⟩ := dict_entries hp hk s.heap
  generalize hkv : (ps.map fun p => (keyD p.1, PyData.int p.2)) = kvs at q hs hl ⊢
  have r1' : ReadsAll s.heap (es.toList.map (·.key)) (kvs.map (·.1)) [] := by rw [← hkv, List.map_map]; exact r1
  have r2' : ReadsAll s.heap (es.toList.map (·.val)) (kvs.map (·.2)) [] := by rw [← hkv, List.map_map]; exact r2
  obtain ⟨sk, sv⟩ := PyData.showableKv_split kvs (by simpa only [PyData.showable] using hs)
  have hl : (dictText (PyData.shownKv kvs)).length ≤ sizeLine := by rw [← PyData.shown.eq_7]; exact hl
  obtain ⟨b1, m1, k1⟩ := ReprAllK.of_readsAll (prog := X.prog) (w := X.w) r1' sk (fun _ h => (nomatch h)) fun t ht => by
    obtain ⟨p, hp, hle⟩ := PyData.shownKv_key_le _ t ht
    exact Nat.le_trans hle (Nat.le_trans (dictText_mem_le hp) hl)
  obtain ⟨b2, m2, k2⟩ := ReprAllK.of_readsAll (prog := X.prog) (w := X.w) r2' sv (fun _ h => (nomatch h)) fun t ht => by
    obtain ⟨p, hp, hle⟩ := PyData.shownKv_val_le _ t ht
    exact Nat.le_trans hle (Nat.le_trans (dictText_mem_le hp) hl)
  have hdp : (PyData.dict kvs).depth = PyData.depthKv kvs + 1 := by simp only [PyData.depth]
  have d1 := PyData.depthAll_keys_le kvs
  have d2 := PyData.depthAll_vals_le kvs
  have m3 : ReadAtMost s.heap (PyData.depthKv kvs) (b1 ++ b2) := ReadAtMost.append (m1.mono d1) (m2.mono d2)
  have nin : a ∉ b1 ++ b2 := not_mem_of_deeper q (by rw [hdp]; exact Nat.lt_succ_self _) m3
  refine ⟨o, es, ep, b1 ++ b2, hg, hx.1, hd, low, m3, nin, ?_⟩
  rw [PyData.shownKv_eq]
  exact ReprEntriesK.of_two es.toList _ _ (k1.more_le (fun b hb => List.mem_append_left _ hb) d1) (k2.more_le (fun b hb => List.mem_append_right _ hb) d2)
mutual
theorem Rp.reprE (I : Inv X pins σ H s) : ∀ (d : PyData) (v : V) (u : Value), Rp X.K H d v → L2.RelV v u → d.showable = true → d.shown.length ≤ sizeLine → ∃ bs, ReadAtMost s.heap d.depth bs ∧ ReprK X.prog X.w bs s.heap d.depth u d.shown
  | .none, v, u, h, r, hs, hl => by obtain ⟨as, q⟩ := Rp.readsE I _ v u h r hs; exact leafK q hs rfl hl
  | .bool b, v, u, h, r, hs, hl => by obtain ⟨as, q⟩ := Rp.readsE I _ v u h r hs; exact leafK q hs rfl hl
  | .int i, v, u, h, r, hs, hl => by obtain ⟨as, q⟩ := Rp.readsE I _ v u h r hs; exact leafK q hs rfl hl
  | .str x, v, u, h, r, hs, hl => by obtain ⟨as, q⟩ := Rp.readsE I _ v u h r hs; exact leafK q hs rfl hl
  | .list ds, v, u, h, r, hs, hl => by
    obtain ⟨as, q⟩ := Rp.readsE I _ v u h r hs
    simp only [Rp] at h
    obtain ⟨a, xs, rfl, h1, h2⟩ := h
    cases r
    obtain ⟨_, its, n, hv, hg⟩ := I.hok a _ h1
    have hl2 : ∀ t ∈ PyData.shownAll ds, t.length ≤ sizeLine := fun t ht => Nat.le_trans (listText_mem_le ht) hl
    obtain ⟨bs, b1, b2⟩ := Rps.reprE I ds xs its h2 hv (by simpa only [PyData.showable] using hs) hl2
    have hdp : (PyData.list ds).depth = PyData.depthAll ds + 1 := by simp only [PyData.depth]
    have nin : a ∉ bs := not_mem_of_deeper q (by rw [hdp]; exact Nat.lt_succ_self _) b1
    refine ⟨a :: bs, fun b hb => ?_, ?_⟩
    · rcases List.mem_cons.mp hb with rfl | hb
      · exact ⟨_, _, q, Nat.le_refl _⟩
      · obtain ⟨e, es, x1, x2⟩ := b1 b hb
        exact ⟨e, es, x1, by rw [hdp]; omega⟩
    · rw [hdp]
      show ReprK X.prog X.w (a :: bs) s.heap (PyData.depthAll ds + 1) (.ref a) (listText (PyData.shownAll ds))
      cases its with
      | nil =>
        have hn : PyData.shownAll ds = [] := List.eq_nil_of_length_eq_zero b2.length_eq
        rw [hn]
        exact ReprK.listEmpty hg rfl rfl
      | cons x l => exact ReprK.list hg rfl rfl nin (by rw [b2.length_eq]; simp) fun i y hy => b2.item i y (by simpa using hy)
  | .tuple ds, v, u, h, r, hs, hl => by
    obtain ⟨as, q⟩ := Rp.readsE I _ v u h r hs
    simp only [Rp] at h
    obtain ⟨a, xs, rfl, h1, h2⟩ := h
    cases r
    obtain ⟨_, its, hv, o, hg, hc, n, hd⟩ := tupOk I h1
    have hl2 : ∀ t ∈ PyData.shownAll ds, t.length ≤ sizeLine := fun t ht => Nat.le_trans (tupleText_mem_le ht) hl
    obtain ⟨bs, b1, b2⟩ := Rps.reprE I ds xs its h2 hv (by simpa only [PyData.showable] using hs) hl2
    have hdp : (PyData.tuple ds).depth = PyData.depthAll ds + 1 := by simp only [PyData.depth]
    have nin : a ∉ bs := not_mem_of_deeper q (by rw [hdp]; exact Nat.lt_succ_self _) b1
    refine ⟨a :: bs, fun b hb => ?_, ?_⟩
    · rcases List.mem_cons.mp hb with rfl | hb
      · exact ⟨_, _, q, Nat.le_refl _⟩
      · obtain ⟨e, es, x1, x2⟩ := b1 b hb
        exact ⟨e, es, x1, by rw [hdp]; omega⟩
    · rw [hdp]
      exact ReprK.tuple hg hc hd nin (by simpa using b2)
  | .dict kvs, v, u, h, r, hs, hl => by
    obtain ⟨as, q⟩ := Rp.readsE I _ v u h r hs
    simp only [Rp] at h
    obtain ⟨a, ks, rfl, h1, ps, rfl, rfl⟩ := h.resolve_right (ref_unshown hs)
    cases r
    have hdp : (PyData.dict (ps.map fun p => (keyD p.1, PyData.int p.2))).depth = PyData.depthKv (ps.map fun p => (keyD p.1, PyData.int p.2)) + 1 := by simp only [PyData.depth]
    obtain ⟨o, es, ep, bs, hg, hc, hd, low, m3, nin, k⟩ := dictE I h1 q hs hl
    refine ⟨a :: bs, fun b hb => ?_, ?_⟩
    · rcases List.mem_cons.mp hb with rfl | hb
      · exact ⟨_, _, q, Nat.le_refl _⟩
      · obtain ⟨e, es, x1, x2⟩ := m3 b hb
        exact ⟨e, es, x1, by rw [hdp]; omega⟩
    · rw [hdp, PyData.shown.eq_7]
      exact ReprK.dict hg hc hd low nin k
theorem Rps.reprE (I : Inv X pins σ H s) : ∀ (ds : List PyData) (vs : List V) (us : List Value), Rps X.K H ds vs → Vals vs us → PyData.showableAll ds = true → (∀ t ∈ PyData.shownAll ds, t.length ≤ sizeLine) → ∃ bs, ReadAtMost s.heap (PyData.depthAll ds) bs ∧ ReprAllK X.prog X.w bs s.heap (PyData.depthAll ds) us (PyData.shownAll ds)
  | [], vs, us, h, r, _, _ => by simp only [Rps] at h; subst h; cases r; exact ⟨[], fun _ h => (nomatch h), .nil⟩
  | d :: ds, vs, us, h, r, hs, hl => by
    simp only [Rps] at h
    obtain ⟨v, vs', rfl, h1, h2⟩ := h
    simp only [PyData.showableAll, Bool.and_eq_true] at hs
    cases r with
    | cons r1 r2 =>
      obtain ⟨as, a1, a2⟩ := Rp.reprE I d v _ h1 r1 hs.1 (hl _ (by simp only [PyData.shownAll]; exact List.mem_cons_self))
      obtain ⟨bs, b1, b2⟩ := Rps.reprE I ds vs' _ h2 r2 hs.2 fun t ht => hl t (by simp only [PyData.shownAll]; exact List.mem_cons_of_mem _ ht)
      have e : PyData.depthAll (d :: ds) = max d.depth (PyData.depthAll ds) := by simp only [PyData.depthAll]
      refine ⟨as ++ bs, ReadAtMost.append (a1.mono (by rw [e]; omega)) (b1.mono (by rw [e]; omega)), ?_⟩
      simp only [PyData.shownAll]
      exact .cons ((a2.more fun b hb => List.mem_append_left _ hb).level_le (by rw [e]; omega)) (b2.more_le (fun b hb => List.mem_append_right _ hb) (by rw [e]; omega))
end
end
/-- what may be shown, with dicts -/
structure TameE (m k : Nat) (d : PyData) : Prop where
  sh : d.showable = true
  dp : d.depth ≤ k
  le : d.shown.length ≤ m
theorem TameE.mono {m k m' k' : Nat} {d : PyData} (h : TameE m k d) (h1 : m ≤ m') (h2 : k ≤ k') : TameE m' k' d := ⟨h.sh, Nat.le_trans h.dp h2, Nat.le_trans h.le h1⟩
theorem Tame.e {m k : Nat} {d : PyData} (h : Tame m k d) : TameE m k d := ⟨h.sh, h.dp, Nat.le_trans (shown_le d h.cl) h.le⟩
theorem texts_le {m : Nat} : ∀ {ds : List PyData}, (∀ d ∈ ds, d.shown.length ≤ m) → ((PyData.shownAll ds).map fun t => t.length + 2).sum ≤ ds.length * (m + 2)
  | [], _ => by simp [PyData.shownAll]
  | d :: ds, h => by
    have h1 := h d (by simp)
    have h2 := texts_le (ds := ds) fun e he => h e (by simp [he])
    simp only [PyData.shownAll, List.map_cons, List.sum_cons, List.length_cons, Nat.add_mul]
    omega
theorem tameE_tuple {m k l : Nat} {ds : List PyData} (h : ∀ d ∈ ds, TameE m k d) (hl : ds.length ≤ l) : TameE (l * (m + 2) + 3) (k + 1) (.tuple ds) :=
  ⟨by simp only [PyData.showable]; exact showAll fun d hd => (h d hd).sh, by simp only [PyData.depth]; exact Nat.succ_le_succ (depthAll_le fun d hd => (h d hd).dp), by
    simp only [PyData.shown]
    have := texts_le fun d hd => (h d hd).le
    have := Nat.mul_le_mul_right (m + 2) hl
    have := tupleText_le (PyData.shownAll ds)
    omega⟩
theorem tameE_list {m k l : Nat} {ds : List PyData} (h : ∀ d ∈ ds, TameE m k d) (hl : ds.length ≤ l) : TameE (l * (m + 2) + 3) (k + 1) (.list ds) :=
  ⟨by simp only [PyData.showable]; exact showAll fun d hd => (h d hd).sh, by simp only [PyData.depth]; exact Nat.succ_le_succ (depthAll_le fun d hd => (h d hd).dp), by
    simp only [PyData.shown]
    have := texts_le fun d hd => (h d hd).le
    have := Nat.mul_le_mul_right (m + 2) hl
    have := listText_le (PyData.shownAll ds)
    omega⟩
def rReprE (K : PySem.W.Frag) : List V → Hp → VK → Prop := fun xs H Q => ∃ v d, xs = [v] ∧ Rp K H d v ∧ TameE 1000000 60 d ∧ Q (.str d.shown) H
theorem call_reprE (hg : X.A.guards = some []) (hu : X.A.units + 64 < cLine) : CallR X (.builtin "repr") (rReprE X.K) := by
  intro pins s σ H xs us Q I r h
  obtain ⟨v, d, rfl, hr, ht, q⟩ := h
  obtain ⟨u, rfl, ru⟩ := vals1 r
  have hz : d.shown.length ≤ sizeLine := Nat.le_trans ht.le (by decide)
  have hu1 : X.A.units + 1 < cLine := by omega
  have hdp := ht.dp
  cases d with
  | none =>
    simp only [Rp] at hr; subst hr; cases ru
    exact PySem.P.repr_of_none ⟨.str _, H, I.tok _, ⟨_, rfl⟩, q⟩
  | bool b =>
    simp only [Rp] at hr; subst hr; cases ru
    refine PySem.P.repr_of_bool ⟨.str (PyData.shown (.bool b)), H, I.tok _, ⟨s.toks, ?_⟩, q⟩
    cases b <;> rfl
  | int i =>
    simp only [Rp] at hr; subst hr; obtain ⟨t, rfl⟩ := ru
    have := ht.sh
    simp only [PyData.showable, decide_eq_true_eq] at this
    exact PySem.P.repr_of_int this ⟨.str _, H, I.tok _, ⟨_, rfl⟩, q⟩
  | str z =>
    simp only [Rp] at hr; subst hr; obtain ⟨t, rfl⟩ := ru
    exact PySem.P.repr_of_str ⟨.str _, H, I.tok _, ⟨_, rfl⟩, q⟩ hz
  | list ds =>
    obtain ⟨as, hq⟩ := Rp.readsE I _ v u hr ru ht.sh
    simp only [Rp] at hr
    obtain ⟨a, xs, rfl, h1, h2⟩ := hr
    cases ru
    obtain ⟨_, its, n, hv, hget⟩ := I.hok a _ h1
    have hl2 : ∀ t ∈ PyData.shownAll ds, t.length ≤ sizeLine := fun t h => Nat.le_trans (listText_mem_le h) hz
    obtain ⟨bs, b1, b2⟩ := Rps.reprE I ds xs its h2 hv (by simpa only [PyData.showable] using ht.sh) hl2
    have hd1 : (PyData.list ds).depth = PyData.depthAll ds + 1 := by simp only [PyData.depth]
    have nin : a ∉ bs := not_mem_of_deeper hq (by rw [hd1]; exact Nat.lt_succ_self _) b1
    have ty : s.TypeIs (.ref a) "list" := ⟨_, hget, rfl⟩
    refine call_repr_slot hu1 ty (Slot.toG PySem.F.slot_list_repr) ?_
    cases its with
    | nil =>
      have hn : PyData.shownAll ds = [] := List.eq_nil_of_length_eq_zero b2.length_eq
      refine call_list_repr_empty ty hget rfl ⟨_, _, rfl, .str (PyData.list ds).shown, H, I.tok _, ⟨s.toks, ?_⟩, q⟩
      simp only [PyData.shown, hn]
      rfl
    | cons x l =>
      refine call_list_reprK hget rfl rfl nin (by rw [b2.length_eq]; simp) (fun i y hy => b2.item i y (by simpa using hy)) (A := X.A.in1) (g := []) hg (fun b _ => Clear.nil b) (by show X.A.units + 1 + (PyData.depthAll ds + 1) < cLine; omega) (fun _ _ e => e) (fun h' u tk hk => ⟨_, _, rfl, .str (PyData.list ds).shown, H, I.kept (t' := tk) hk, ⟨u, ?_⟩, q⟩) (by simpa only [PyData.shown] using hz)
      simp only [PyData.shown]
  | tuple ds =>
    obtain ⟨as, hq⟩ := Rp.readsE I _ v u hr ru ht.sh
    simp only [Rp] at hr
    obtain ⟨a, xs, rfl, h1, h2⟩ := hr
    cases ru
    obtain ⟨_, its, hv, o, hget, hc, n, hd⟩ := tupOk I h1
    have hl2 : ∀ t ∈ PyData.shownAll ds, t.length ≤ sizeLine := fun t h => Nat.le_trans (tupleText_mem_le h) hz
    obtain ⟨bs, b1, b2⟩ := Rps.reprE I ds xs its h2 hv (by simpa only [PyData.showable] using ht.sh) hl2
    have hd1 : (PyData.tuple ds).depth = PyData.depthAll ds + 1 := by simp only [PyData.depth]
    have nin : a ∉ bs := not_mem_of_deeper hq (by rw [hd1]; exact Nat.lt_succ_self _) b1
    have ty : s.TypeIs (.ref a) "tuple" := ⟨_, hget, hc⟩
    refine call_repr_slot hu1 ty PySem.F.slot_tuple_repr ?_
    refine call_tuple_reprK hget hc hd nin (by simpa using b2) (A := X.A.in1) (g := []) hg (fun b _ => Clear.nil b) (by show X.A.units + 1 + (PyData.depthAll ds + 1) < cLine; omega) (fun _ _ e => e) (fun h' u tk hk => ⟨_, _, rfl, .str (PyData.tuple ds).shown, H, I.kept (t' := tk) hk, ⟨u, ?_⟩, q⟩) (by simpa only [PyData.shown] using hz)
    simp only [PyData.shown]
  | dict kvs =>
    obtain ⟨as, hq⟩ := Rp.readsE I _ v u hr ru ht.sh
    simp only [Rp] at hr
    obtain ⟨a, ks, rfl, h1, ps, rfl, rfl⟩ := hr.resolve_right (ref_unshown ht.sh)
    cases ru
    have hd1 : (PyData.dict (ps.map fun p => (keyD p.1, PyData.int p.2))).depth = PyData.depthKv (ps.map fun p => (keyD p.1, PyData.int p.2)) + 1 := by simp only [PyData.depth]
    obtain ⟨o, es, ep, bs, hget, hc, hd, low, m3, nin, k⟩ := dictE I h1 hq ht.sh hz
    have ty : s.TypeIs (.ref a) "dict" := ⟨_, hget, hc⟩
    have hz2 := hz
    rw [PyData.shown.eq_7] at hz2
    refine call_repr_slot hu1 ty PySem.F.slot_dict_repr ?_
    refine call_dict_reprK hget hc hd low nin k (A := X.A.in1) (g := []) hg (fun b _ => Clear.nil b) (by show X.A.units + 1 + (_ + 1) < cLine; omega) (fun _ _ e => e) (fun h' u tk hk => ⟨_, _, rfl, .str _, H, I.kept (t' := tk) hk, ⟨u, ?_⟩, q⟩) hz2
    rw [PyData.shown.eq_7]
def oReprE : DC := fun xs R => ∃ x, xs = [x] ∧ x.isDk = false ∧ TameE 1000000 60 x.toD ∧ R (.str x.toD.shown)
end DL
namespace DL
open PySem PySem.Spec PyProof.Rows L2
variable {X : Cx} {Y : Fx}
theorem ck_reprE {K : PySem.W.Frag} : CallOk K (rReprE K) oReprE := fun δ F H xs vs R Q hs hv ⟨x, e, hd, ht, hr⟩ b => by
  subst e
  obtain ⟨v, rfl, h1⟩ := vr1 hv
  exact ⟨v, x.toD, rfl, h1.rp hs hd, ht, b.here hs hr (by simp [Rp])⟩
theorem we_dict0 {pos : Pos} : WE Y X (.Dict [] [] pos) (dC (.dict [])) :=
  pe_imp pe_dnewK fun σ H Q ⟨Z, F, ρ, n, R, r, ht, k⟩ => fun p hp => by
    obtain ⟨g2, s2⟩ := Gp.new (o := .dK []) hp r.b.sub
    exact k _ _ _ _ _ ht g2.gr s2 (g2.dk r.b) (by simp only [VR, Rp]; exact .inl ⟨p, [], rfl, upd_same, [], rfl, rfl⟩)
end DL
set_option maxHeartbeats 4000000
namespace DL
open PySem PySem.Spec PyProof.Rows L2
/-- the pairs that were given out -/
def ZPairs (S : Nat) (xs ys : Array Value) (i : Nat) (h : Heap) : Prop := ∀ j, j < i → ∃ x y, xs[j]? = some x ∧ ys[j]? = some y ∧ IsPair h (S + 1 + j) x y
theorem ZPairs.keep {S i : Nat} {xs ys : Array Value} {h h' : Heap} (p : ZPairs S xs ys i h) (k : ∀ b o, S < b → h.get? b = some o → h'.get? b = some o) : ZPairs S xs ys i h' := fun j hj => by
  obtain ⟨x, y, e1, e2, e3⟩ := p j hj
  exact ⟨x, y, e1, e2, k _ _ (by omega) e3⟩
end DL
set_option maxHeartbeats 4000000
set_option maxHeartbeats 4000000
namespace DL
open PySem PySem.Spec PyProof.Rows L2
section
variable {X : Cx} {Y : Fx}
/-- a list != [], whatever its items -/
def rNeNil (K : PySem.W.Frag) : R2 := fun x y H Q => ∃ (a b : Addr) (xs : List V), x = .ref a ∧ y = .ref b ∧ SqL K H a xs ∧ SqL K H b [] ∧ Q (.bl (!xs.isEmpty)) H
theorem or_neNil (hu : X.A.units + 64 < cLine) : OpR X (compareOp .NotEq) (rNeNil X.K) := by
  intro pins s σ H x y v u Q I rx ry h
  obtain ⟨a, b, xs, rfl, rfl, ha, hb, q⟩ := h
  cases rx
  cases ry
  obtain ⟨us, r1, p1, _⟩ := I.list ha
  obtain ⟨ws, r2, p2, _⟩ := I.list hb
  cases r2
  have hu' : X.A.units < cLine := by omega
  cases xs with
  | nil =>
    cases r1
    exact SeqAt.RcNeAt.lists (e := fun _ => true) p1.isList p2.isList rfl hu' (fun j h1 _ => absurd h1 (Nat.not_lt_zero j)) _ _ _ _ ⟨.bl _, H, I, rfl, q⟩
  | cons x xs =>
    cases r1 with
    | cons r1 rs => exact SeqAt.RcNeAt.lists_lengths p1.isList p2.isList (by simp) hu' _ _ _ _ ⟨.bl _, H, I, rfl, q⟩
def oNeNil : D2 := fun x y R => ∃ ds, x.toD = .list ds ∧ x.isDk = false ∧ y = .dat (.list []) ∧ R (.bool (!ds.isEmpty))
theorem bi_neNil {K : PySem.W.Frag} : BinOk K (rNeNil K) oNeNil := fun δ F H x y v u R Q hs hx hy ⟨ds, e1, e2, e3, hr⟩ b => by
  subst e3
  have rx := hx.rp hs e2
  rw [e1] at rx
  simp only [Rp] at rx
  simp only [VR, Rp] at hy
  obtain ⟨a, xs, rfl, ha, rr⟩ := rx
  obtain ⟨c, ys, rfl, hc, rfl⟩ := hy
  exact ⟨a, c, xs, rfl, rfl, SqL.of ha, SqL.of (hs _ _ hc), b.bl hs (rr.isEmpty ▸ hr)⟩
end
end DL
set_option maxHeartbeats 4000000
namespace DL
open PySem PySem.Spec PyProof.Rows L2
theorem Has.mono {P : Program} {w : World} {K : PySem.W.Frag} {mg : Str → Option Value} {base : Heap} {x : Str} {j k : Nat} {ps : List Str} {c : DSpec} (h : Has P w K mg base x j ps c) (hj : j ≤ k) : Has P w K mg base x k ps c := by
  obtain ⟨f, fd, h1, h2, h3, h4⟩ := h
  exact ⟨f, fd, h1, h2, h3, h4.mono hj⟩
end DL
set_option maxHeartbeats 4000000
namespace DL
open PySem PySem.Spec PyProof.Rows L2
structure FnGX (P : Program) (w : World) (K : PySem.W.Frag) (mg : Str → Option Value) (base : Heap) (k : Nat) (f : Addr) (fd : FuncData) (ps : List Str) (sp : Sp) : Prop where
  len : ∀ vs H Q E, sp vs H Q E → vs.length = ps.length
  run : ∀ (A : Around) (outer : List Env) (s : Shared) (H : Hp) (args : Args) (us : List Value) (vs : List V) (Q : VK) (E : XK), A.guards = some [] → Room k A → Env0 P w K mg base A outer s H →
    BindsTo s fd args (ps.zip us) → Vals vs us → sp vs H Q E → codeAny (model P w) A (.call (.ref f) args) (CR (L2.CX P w) outer P w H s Q E) s
section
variable {P : Program} {w : World} {K : PySem.W.Frag} {mg : Str → Option Value} {base : Heap} {j k : Nat} {f : Addr} {fd : FuncData} {ps : List Str} {sp : Sp}
theorem FnGX.mono (F : FnGX P w K mg base j f fd ps sp) (h : j ≤ k) : FnGX P w K mg base k f fd ps sp :=
  ⟨F.len, fun A outer s H args us vs Q E hg hr => F.run A outer s H args us vs Q E hg (hr.mono h)⟩
theorem FnG.x (F : FnG P w K mg base k f fd ps sp) : FnGX P w K mg base k f fd ps (fun vs H Q _ => sp vs H Q E0) :=
  ⟨fun vs H Q _ h => F.len vs H Q E0 h, fun A outer s H args us vs Q E hg hr e0 hb rv h => codeAny_mono (F.run A outer s H args us vs Q hg hr e0 hb rv h) fun q s' hq => by
    cases q with
    | error e => exact hq.elim
    | ok fl =>
      cases fl with
      | ret u => exact hq
      | next => exact hq
      | brk => exact hq
      | cont => exact hq⟩
theorem fngx_of {x qual : Str} {st : Stmt} {N : List Str} (F : Fun K x qual st f fd) (S : FnScope N ps (defScope st)) (len : ∀ vs H Q E, sp vs H Q E → vs.length = ps.length)
    (hb : ∀ (cdv : Value) (A : Around) (outer : List Env) (s : Shared) (H : Hp) (vs : List V) (Q : VK) (E : XK), A.guards = some [] → Room k (A.deeper (envOfC qual (defScope st) s.heap.objs.size f cdv)) → sp vs H Q E →
      ∃ t, PSs (cxOf (L2.CX P w) P w K mg base N qual (defScope st) f cdv A outer s H E) (defBody st) t ∧ t { nx := fun _ H' => Q .non H', rt := Q } (start N vs) H) : FnGX P w K mg base (k + 1) f fd ps sp := by
  refine ⟨len, fun A outer s H args us vs Q E hgd hr e0 hbi rv hsp => ?_⟩
  obtain ⟨oc, od, kV, doc, pm, an, cdv, ct, osl, rfl, lk, hcd⟩ := F.ex
  have hl := len _ _ _ _ hsp
  have kin : K.In s.heap := e0.mod.kin.keeps fun b o e => (e0.bs b o e).1
  have lim : s.heap.NoLimit := e0.mod.nolimit.keeps fun b o e => (e0.bs b o e).1
  refine Att.call_fn kin lim lk hcd hr.depth hbi (List.all_eq_true.mpr fun ⟨y, u⟩ hy => ?_) (fun s1 x => ?_) S.co S.gen S.kind
  · rcases S.par y (List.of_mem_zip hy).1 with q | q <;> simp [q]
  · obtain ⟨t, ht, hq⟩ := hb cdv A outer s H vs Q E hgd (hr.deeper _) hsp
    have I := inv_start (CX := L2.CX P w) (P := P) (w := w) (E := E) S hr.hd e0 hl rv x
    refine wpAny_mono (ht.run [] s1 (start N vs) H _ I hq) (fun fl s' hs => ?_) fun e s' hs => hs
    have fin : ∀ {σ' : L2.St} {H' : Hp} {v : V} {u : Value}, Inv (cxOf (L2.CX P w) P w K mg base N qual (defScope st) f cdv A outer s H E) [] σ' H' s' → RelV v u → Q v H' → CE outer P w H s Q u s' :=
      fun J r q => ⟨_, _, J.os, J.bare, J.base, J.hok, r, q⟩
    cases fl with
    | ret u =>
      obtain ⟨v, σ', H', J, r, q⟩ := hs
      exact fin J r q
    | next =>
      obtain ⟨σ', H', J, q⟩ := hs
      exact fin (v := V.non) (u := Value.none) J rfl q
    | brk => obtain ⟨_, _, _, q⟩ := hs; exact q.elim
    | cont => obtain ⟨_, _, _, q⟩ := hs; exact q.elim
end
section
variable {X : Cx} {k : Nat} {f : Addr} {fd : FuncData} {ps : List Str} {sp : Sp}
theorem runx {pins : List (Addr × Obj)} {σ : L2.St} {H : Hp} {s : Shared} {Q : VK} {E : XK} {us : List Value} {vs : List V} (F : FnGX X.prog X.w X.K X.mg X.base k f fd ps sp) (hgd : X.A.guards = some []) (hr : Room k X.A) (hb : Binds X.K fd ps [])
    (hx : PassesAt (L2.CX X.prog X.w) X σ E) (I : Inv X pins σ H s) (r : Vals vs us) (h : sp vs H Q E) : wpAny (model X.prog X.w) X.A (call (.ref f) us) (EP X pins σ Q) X.xe s := by
  have hl : (us ++ []).length = ps.length := by rw [List.append_nil, ← r.length]; exact F.len _ _ _ _ h
  have hbi := hb s us I.kIn hl
  rw [List.append_nil] at hbi
  refine wpAny_call (codeAny_mono (F.run X.A X.stack s H ⟨us, []⟩ us vs Q E hgd hr I.env0 hbi r h) fun q s' hq => ?_)
  cases q with
  | error e => exact hx pins H s e s' I hq
  | ok fl =>
    cases fl with
    | ret u => exact I.after hq
    | next => exact hq.elim
    | brk => exact hq.elim
    | cont => exact hq.elim
theorem runx_make {pins : List (Addr × Obj)} {σ : L2.St} {H : Hp} {s : Shared} {Q : VK} {E : XK} {C : Addr} {us : List Value} {vs : List V} (M : Mk X.K C f) (F : FnGX X.prog X.w X.K X.mg X.base k f fd ps sp) (hgd : X.A.guards = some []) (hr : Room (k + 1) X.A) (hb : Binds X.K fd ps [])
    (hx : PassesAt (L2.CX X.prog X.w) X σ E) (I : Inv X pins σ H s) (r : Vals vs us)
    (h : ∀ x dx, H x = none → H dx = none → dx ≠ x → sp (.ref x :: vs) (upd (upd H dx (.own x)) x (.ins C dx [])) (fun v H2 => v = .non ∧ Q (.ref x) H2) E) :
    wpAny (model X.prog X.w) X.A (call (.ref C) us) (EP X pins σ Q) X.xe s := by
  have hq := h (s.heap.objs.size + 1) s.heap.objs.size (I.hok.fresh (Nat.le_succ _)) (I.hok.fresh (Nat.le_refl _)) (Nat.ne_of_lt (Nat.lt_succ_self _))
  have I2 := Inv.made (C := C) I
  have r2 : Vals (V.ref (s.heap.objs.size + 1) :: vs) (Value.ref (s.heap.objs.size + 1) :: us) := .cons rfl r
  have hl : (Value.ref (s.heap.objs.size + 1) :: us ++ []).length = ps.length := by
    have e := r2.length
    rw [F.len _ _ _ _ hq] at e
    rw [List.append_nil]
    exact e.symm
  have hbi := hb _ (Value.ref (s.heap.objs.size + 1) :: us) I2.kIn hl
  rw [List.append_nil] at hbi
  refine wpAny_call (make_map (f := f) I.kIn M.makes M.init (beq_iff_eq.mp M.fn) (codeAny_mono (F.run _ X.stack _ _ ⟨Value.ref (s.heap.objs.size + 1) :: us, []⟩ (Value.ref (s.heap.objs.size + 1) :: us) _ _ E hgd (hr.make C us [])
    (I2.env0.make C us []) hbi r2 hq) fun r s' hq' => ?_))
  cases r with
  | error e => exact hx pins _ _ e s' I2 hq'
  | ok fl =>
    cases fl with
    | ret u =>
      obtain ⟨v, H', I3, rv, ev, q3⟩ := I2.after hq'
      subst ev
      exact ⟨rv, ⟨V.ref (s.heap.objs.size + 1), H', I3, rfl, q3⟩⟩
    | next => exact False.elim hq'
    | brk => exact False.elim hq'
    | cont => exact False.elim hq'
end
structure Ex where
  C : Addr
  fs : List (Str × PyData)
def ExR (K : PySem.W.Frag) (F : Hp) (ex : Ex) (cls : Value) (d : Option Addr) : Prop := cls = .ref ex.C ∧ XoAt K F ⟨cls, d, ex.fs⟩
theorem ExR.mono {K : PySem.W.Frag} {F F' : Hp} {ex : Ex} {cls : Value} {d : Option Addr} (h : ExR K F ex cls d) (e : Same F F') : ExR K F' ex cls d := ⟨h.1, h.2.mono e⟩
abbrev DSpecX := List Dv → Wo → (PyData → Wo → Prop) → (Ex → Wo → Prop) → Prop
def spDX (K : PySem.W.Frag) (m : Nat) (c : DSpecX) : Sp := fun vs H Q Eh => ∃ δ F as n R E, as.length = m ∧ VRs K δ F H as vs ∧ Same F H ∧ δ.at_ K F H n ∧ (∀ a, a ∈ δ.own → F a = none ∧ H a ≠ none) ∧ c as n R E ∧
  (∀ d n' F' H' v, R d n' → Gr δ F H F' H' → Same F' H' → δ.at_ K F' H' n' → Rp K F' d v → Q v H') ∧
  ∀ ex n' F' H' cls d, E ex n' → Gr δ F H F' H' → Same F' H' → δ.at_ K F' H' n' → ExR K F' ex cls d → Eh cls d H'
/-- what is wished of an error, at the slots -/
abbrev DW := Ex → Rho → Wo → Prop
def WOk (Y : Fx) (K : PySem.W.Frag) (dw : DW) (W : WX) : Prop := ∀ ex ρ n F H σ cls d Z, dw ex ρ n → SR Y K Z F H σ ρ n → ExR K F ex cls d → W cls d σ H
def dwN : DW := fun _ _ _ => False
theorem wok0 {Y : Fx} {K : PySem.W.Frag} : WOk Y K dwN (fun _ _ _ _ => False) := fun _ _ _ _ _ _ _ _ _ h _ _ => h
def dFnX (m : Nat) (c : DSpecX) (dw : DW) (t : DTA) : DTE := fun ρ n R => t ρ n fun as n1 => as.length = m ∧ c as n1 (fun d n2 => R (.dat d) n2) fun ex n2 => dw ex ρ n2
section
variable {X : Cx} {Y : Fx}
theorem callX_im {m : Nat} {c : DSpecX} {dw : DW} {W : WX} {t : DTA} (ok : WOk Y X.K dw W) : ∀ σ H Q, up Y X.K (dFnX m c dw t) σ H Q → (upA Y X.K t) σ H fun vs H1 => spDX X.K m c vs H1 Q (L2.WE W σ) :=
  fun σ H Q ⟨Z, F, ρ, n, R, r, ht, k⟩ => ⟨Z, F, ρ, n, _, r, ht, fun as n1 F1 H1 vs ⟨hl, hx⟩ g1 s1 d1 w1 => by
    have r1 := r.step g1 s1 d1
    exact ⟨Z.δ, F1, as, n1, _, _, hl, w1, s1, d1, r1.b.dkF, hx, fun d n2 F2 H2 v h2 g2 s2 d2 w2 => k _ _ _ _ _ h2 (g1.trans g2) s2 d2 w2, fun ex n2 F2 H2 cls d h2 g2 s2 d2 w2 => ok _ _ _ _ _ _ _ _ _ h2 (r1.step g2 s2 d2) w2⟩⟩
theorem we_fnX {k m : Nat} {c : DSpecX} {dw : DW} {W : WX} {f : Addr} {fd : FuncData} {ps : List Str} {x : Str} {p pos : Pos} {e : Expr} {es : List Expr} {t : DTA} (tk : Takes X W) (ok : WOk Y X.K dw W) (F : FnGX X.prog X.w X.K X.mg X.base k f fd ps (spDX X.K m c)) (hgd : X.A.guards = some []) (hr : Room k X.A) (hg : Gl X x) (hm : X.mg x = some (.ref f)) (hk : PySem.W.keepIn X.K (.ref f) = true) (hb : Binds X.K fd ps [])
    (ha : WA Y X (e :: es) t) (hdb : (x == ("__debug__" : Str)) = false := by decide) (he : starEach (e :: es) X.env = (false, eval e X.env) :: starEach es X.env := by rfl) (hpl : (backTo pos (starEach es X.env)).any (·.1) = false := by rfl) :
    WE Y X (.Call (.Name x p) (e :: es) [] pos) (dFnX m c dw t) :=
  ⟨fun pins s σ H Q I h => wpAny_Call_Name_kw (ld_glob I hg hm (PySem.W.callWith_K (h₀ := X.base) I.ok.mod.kin hk (thn (ha.run pos pins s σ H _ I (callX_im ok σ H Q h)) fun us s1 ⟨vs, H1, I1, r, q⟩ => ⟨I1.kIn, runx F hgd hr hb (passAt tk σ) I1 r q⟩) he hpl) hdb)⟩
end
/-- THE RULE for a def that may raise: its body over data -/
theorem fndX {P : Program} {w : World} {K : PySem.W.Frag} {mg : Str → Option Value} {base : Heap} {x qual : Str} {st : Stmt} {f : Addr} {fd : FuncData} {N ps : List Str} {k : Nat} (c : DSpecX) (F : Fun K x qual st f fd) (S : FnScope N ps (defScope st))
    (hb : ∀ (cdv : Value) (A : Around) (outer : List Env) (s : Shared) (H : Hp) (Eh : XK), A.guards = some [] → Room k (A.deeper (envOfC qual (defScope st) s.heap.objs.size f cdv)) → ∀ (Y : Fx) (E : Ex → Wo → Prop), WOk Y K (fun ex _ n => E ex n) (fun cls d _ H => Eh cls d H) →
      Takes (cxOf (L2.CX P w) P w K mg base N qual (defScope st) f cdv A outer s H Eh) (fun cls d _ H => Eh cls d H) →
      ∃ t, DSs Y (cxOf (L2.CX P w) P w K mg base N qual (defScope st) f cdv A outer s H Eh) (defBody st) t ∧ ∀ as n R, as.length = ps.length → c as n R E → t { nx := fun _ n' => R .none n', rt := R } (startR N as) n) : FnGX P w K mg base (k + 1) f fd ps (spDX K ps.length c) := by
  refine fngx_of F S (fun vs H Q E ⟨δ, Fz, as, n, R, E', hl, w1, _⟩ => by rw [← Paired.length w1]; exact hl) fun cdv A outer s H vs Q Eh hgd hr ⟨δ, Fz, as, n, R, E, hl, w1, s1, d1, o1, hc, hk, hx⟩ => ?_
  obtain ⟨t, h1, h2⟩ := hb cdv A outer s H Eh hgd hr ⟨Fz, H, δ⟩ E (fun ex ρ n' F' H' σ cls d Z he r hd => hx _ _ _ _ _ _ he r.gr r.b.sub (by have q := r.b.dk; rw [r.de] at q; exact q) hd) (takes_of rfl rfl rfl rfl)
  exact ⟨_, h1, ⟨Fz, H, δ⟩, Fz, startR N as, n, _, sr_start w1 s1 d1 o1, h2 as n R hl hc, ⟨fun F' H' σ' ρ' n' q r' => hk _ _ _ _ _ q (Base.gr o1 r'.b) r'.b.sub r'.b.dk (by simp [Rp]), fun d n' F' H' v q b q2 => hk _ _ _ _ _ q (Base.gr o1 b) b.sub b.dk q2, fun _ _ _ _ _ q _ => q.elim, fun _ _ _ _ _ q _ => q.elim⟩⟩
end DL
set_option maxHeartbeats 4000000
namespace DL
open PySem PySem.Spec PyProof.Rows L2
def putD (f : Str) (d : PyData) : List (Str × PyData) → List (Str × PyData)
  | [] => [(f, d)]
  | (g, x) :: r => if g = f then (g, d) :: r else (g, x) :: putD f d r
section
variable {K : PySem.W.Frag} {F : Hp}
theorem FsR.lookup {f : Str} {d : PyData} : ∀ {fs : List (Str × PyData)} {vs : List (Str × V)}, FsR K F fs vs → fs.lookup f = some d → ∃ v, vs.lookup f = some v ∧ Rp K F d v
  | [], _, .nil, h => by cases h
  | (g, x) :: fs, _, .cons (b := (g', v)) (l₂ := vs) hr ht, h => by
    obtain ⟨e, hr⟩ := hr
    have e : g = g' := e
    subst e
    by_cases q : f = g
    · subst q
      have h2 : List.lookup f ((f, x) :: fs) = some x := by simp [List.lookup]
      rw [h2] at h
      cases h
      exact ⟨v, by simp [List.lookup], hr⟩
    · have q2 : (f == g) = false := by simpa using q
      have h2 : List.lookup f ((g, x) :: fs) = List.lookup f fs := by simp [List.lookup, q2]
      rw [h2] at h
      obtain ⟨w, e1, e2⟩ := FsR.lookup ht h
      exact ⟨w, by simp only [List.lookup, q2]; exact e1, e2⟩
theorem FsR.lookup_none {f : Str} : ∀ {fs : List (Str × PyData)} {vs : List (Str × V)}, FsR K F fs vs → fs.lookup f = none → vs.lookup f = none
  | [], _, .nil, h => rfl
  | (g, x) :: fs, _, .cons (b := (g', v)) (l₂ := vs) hr ht, h => by
    obtain ⟨e, hr⟩ := hr
    have e : g = g' := e
    subst e
    by_cases q : f = g
    · subst q
      have h2 : List.lookup f ((f, x) :: fs) = some x := by simp [List.lookup]
      rw [h2] at h
      cases h
    · have q2 : (f == g) = false := by simpa using q
      have h2 : List.lookup f ((g, x) :: fs) = List.lookup f fs := by simp [List.lookup, q2]
      rw [h2] at h
      simp only [List.lookup, q2]
      exact FsR.lookup_none ht h
theorem FsR.put {f : Str} {d : PyData} {v : V} (hd : Rp K F d v) : ∀ {fs : List (Str × PyData)} {vs : List (Str × V)}, FsR K F fs vs → FsR K F (putD f d fs) (putF f v vs)
  | [], _, .nil => .cons ⟨rfl, hd⟩ .nil
  | (g, x) :: fs, _, .cons (b := (g', u)) (l₂ := vs) hr ht => by
    obtain ⟨e, hr⟩ := hr
    have e : g = g' := e
    subst e
    unfold putD putF
    by_cases q : g = f
    · rw [if_pos q, if_pos q]; exact .cons ⟨rfl, hd⟩ ht
    · rw [if_neg q, if_neg q]; exact .cons ⟨rfl, hr⟩ (FsR.put hd ht)
theorem VR.ref {δ : DkS} {H : Hp} {a : Addr} {v : V} (h : VR K δ F H (.dat (refD a)) v) : v = .ref a := Rp.ref (K := K) (F := F) h
theorem vr_ref {δ : DkS} {H : Hp} {a : Addr} : VR K δ F H (.dat (refD a)) (.ref a) := rp_ref (K := K) (F := F)
theorem FsR.length {fs : List (Str × PyData)} {vs : List (Str × V)} (h : FsR K F fs vs) : fs.length = vs.length := Paired.length h
end
/-- a class whose instances are plain, and a field of it -/
structure FldC (K : PySem.W.Frag) (C : Addr) (f : Str) : Prop where
  c : Cls K C
  n : NoAttr K C f
section
variable {X : Cx} {Y : Fx}
/-- e.f -/
def dFld (K : PySem.W.Frag) (f : Str) (t : DTE) : DTE := fun ρ n R => t ρ n fun x n1 => ∃ a o d, x = .dat (refD a) ∧ n1.ob a = some o ∧ FldC K o.C f ∧ o.fs.lookup f = some d ∧ R (.dat d) n1
theorem we_fld {e : Expr} {f : Str} {t : DTE} {pos : Pos} (he : WE Y X e t) (hb : attributeBase e f X.env (eval e X.env) = eval e X.env := by rfl) : WE Y X (.Attribute e f pos) (dFld X.K f t) :=
  pe_imp (pe_fld he hb) fun σ H Q ⟨Z, F, ρ, n, R, r, ht, k⟩ => ⟨Z, F, ρ, n, _, r, ht, fun x n1 F1 H1 v ⟨a, o, d, ex, ho, hc, hl, hR⟩ g1 s1 d1 w1 => by
    subst ex
    obtain rfl := VR.ref w1
    obtain ⟨_, dx, vs, h2, h3⟩ := d1.2.1 a o ho
    obtain ⟨u, h4, h5⟩ := h3.lookup hl
    exact ⟨a, o.C, dx, vs, u, rfl, h2, hc.c, hc.n, h4, k _ _ _ _ _ hR g1 s1 d1 h5⟩⟩
/-- e.f, a constant of the class -/
def dCon (K : PySem.W.Frag) (f : Str) (t : DTE) : DTE := fun ρ n R => t ρ n fun x n1 => ∃ a o i u, x = .dat (refD a) ∧ n1.ob a = some o ∧ Cls K o.C ∧ Con K o.C f (.int i) u ∧ o.fs.lookup f = none ∧ R (.dat (.int i)) n1
theorem we_con {e : Expr} {f : Str} {t : DTE} {pos : Pos} (he : WE Y X e t) (hb : attributeBase e f X.env (eval e X.env) = eval e X.env := by rfl) : WE Y X (.Attribute e f pos) (dCon X.K f t) :=
  pe_imp (pe_con he hb) fun σ H Q ⟨Z, F, ρ, n, R, r, ht, k⟩ => ⟨Z, F, ρ, n, _, r, ht, fun x n1 F1 H1 v ⟨a, o, i, u, ex, ho, hc, hk, hl, hR⟩ g1 s1 d1 w1 => by
    subst ex
    obtain rfl := VR.ref w1
    obtain ⟨_, dx, vs, h2, h3⟩ := d1.2.1 a o ho
    exact ⟨a, o.C, dx, vs, .int i, u, rfl, h2, hc, hk, h3.lookup_none hl, k _ _ _ _ _ hR g1 s1 d1 (by simp [VR, Rp])⟩⟩
/-- an object is written -/
theorem at_put {K : PySem.W.Frag} {δ : DkS} {F H : Hp} {n : Wo} {a dx : Addr} {o : Ob} {C : Addr} {vs vs' : List (Str × V)} {fs' : List (Str × PyData)} (h : δ.at_ K F H n) (ho : n.ob a = some o) (hH : H a = some (.ins o.C dx vs)) (hr : FsR K F fs' vs') :
    δ.at_ K F (upd H a (.ins o.C dx vs')) (n.put a ⟨o.C, fs'⟩) :=
  ⟨δ.stay H _ n.n (fun b hb => upd_ne fun q => by
      obtain ⟨xs, e⟩ := δ.lsts H n.n h.1 b hb
      rw [q, hH] at e
      cases e) h.1,
    ⟨fun b ob e => by
      have e : (if b = a then some ⟨o.C, fs'⟩ else n.ob b) = some ob := e
      by_cases q : b = a
      · rw [if_pos q] at e
        cases e
        subst q
        exact ⟨(h.2.1 b o ho).1, dx, vs', upd_same, hr⟩
      · rw [if_neg q] at e
        obtain ⟨h1, dx', us, h2, h3⟩ := h.2.1 b ob e
        exact ⟨h1, dx', us, by rw [upd_ne q]; exact h2, h3⟩, h.2.2⟩⟩
theorem gr_put {δ : DkS} {F H : Hp} {a dx C : Addr} {vs vs' : List (Str × V)} (hH : H a = some (.ins C dx vs)) : Gr δ F H F (upd H a (.ins C dx vs')) where
  sF := Same.refl _
  nF := fun _ _ h => h
  kH := fun b o _ e hi => by
    rw [upd_ne fun q => by rw [q, hH] at e; cases e; cases hi]
    exact e
  iH := fun b C' dx' fs e => by
    by_cases q : b = a
    · subst q
      rw [hH] at e
      cases e
      exact ⟨vs', upd_same⟩
    · exact ⟨fs, by rw [upd_ne q]; exact e⟩
  dH := fun b h => by
    by_cases q : b = a
    · subst q; rw [upd_same]; nofun
    · rw [upd_ne q]; exact h
theorem same_put {F H : Hp} {a : Addr} {u : HO} (hs : Same F H) (hF : F a = none) : Same F (upd H a u) := fun b o e => by
  rw [upd_ne (ne_of_none e hF)]; exact hs _ _ e
/-- o.f = e -/
def dFldS (K : PySem.W.Frag) (f : Str) (to te : DTE) : DTS := fun E ρ n => te ρ n fun y n1 => needD y fun d => to ρ n1 fun x n2 => ∃ a o, x = .dat (refD a) ∧ n2.ob a = some o ∧ FldC K o.C f ∧ o.fs.length < 1000 ∧ E.nx ρ (n2.put a ⟨o.C, putD f d o.fs⟩)
theorem ds_fld {o e : Expr} {f : Str} {to te : DTE} {pos pos' : Pos} (ho : WE Y X o to) (he : WE Y X e te) (hs : swapsWith e (some (.Attribute o f pos')) pos.line X.env = pure false := by rfl) : DS Y X (.Assign [.Attribute o f pos'] e pos) (dFldS X.K f to te) :=
  ps_imp (ps_fld ho he hs) fun D σ H ⟨Z, F, ρ, n, E, r, ht, k⟩ => ⟨Z, F, ρ, n, _, r, ht, fun y n1 F1 H1 v hy g1 s1 d1 w1 => by
    obtain ⟨d, rfl, hy⟩ := needD_is hy
    have r1 := r.step g1 s1 d1
    refine ⟨Z, F1, ρ, n1, _, r1, hy, fun x n2 F2 H2 u ⟨a, o, ex, ho, hc, hl, hx⟩ g2 s2 d2 w2 => ?_⟩
    subst ex
    obtain rfl := VR.ref w2
    obtain ⟨hF, dx, vs, h2, h3⟩ := d2.2.1 a o ho
    have hd : Rp X.K F2 d v := Rp.mono g2.sF d v w1
    refine ⟨a, o.C, dx, vs, rfl, h2, hc.c, hc.n, by rw [← h3.length]; exact hl, ?_⟩
    have r2 := r1.step g2 s2 d2
    exact k.nx _ _ _ _ _ hx (r2.step (gr_put h2) (same_put s2 hF) (at_put (C := o.C) d2 ho h2 (h3.put hd)))⟩
theorem obN {K : PySem.W.Frag} {δ : DkS} {F H : Hp} {n : Wo} {x : Addr} (h : δ.at_ K F H n) (hx : H x = none) : n.ob x = none := by
  cases e : n.ob x with
  | none => rfl
  | some o =>
    obtain ⟨_, _, _, h2, _⟩ := h.2.1 x o e
    rw [hx] at h2; cases h2
theorem gr_mk {δ : DkS} {F H : Hp} {x dx : Addr} {u w : HO} (hx : H x = none) (hd : H dx = none) : Gr δ F H F (upd (upd H dx w) x u) :=
  (Gr.refl.chg hd).chg hx
theorem same_mk {F H : Hp} {x dx : Addr} {u w : HO} (hs : Same F H) (hx : H x = none) (hd : H dx = none) : Same F (upd (upd H dx w) x u) :=
  same_put (same_put hs (hs.free hd)) (hs.free hx)
theorem at_mk {K : PySem.W.Frag} {δ : DkS} {F H : Hp} {n : Wo} {x dx C : Addr} (hs : Same F H) (h : δ.at_ K F H n) (ho : ∀ a, a ∈ δ.own → F a = none ∧ H a ≠ none) (hx : H x = none) (hd : H dx = none) (hne : dx ≠ x) : δ.at_ K F (upd (upd H dx (.own x)) x (.ins C dx [])) (n.put x ⟨C, []⟩) := by
  have nd : dx ∉ δ.own := fun q => (ho dx q).2 hd
  have nx : x ∉ δ.own := fun q => (ho x q).2 hx
  have h1 := h.lay (u := .own x) nd hd
  have h2 := h1.lay (u := .ins C dx []) nx (by rw [upd_ne (Ne.symm hne)]; exact hx)
  refine ⟨h2.1, fun b ob e => ?_, h2.2.2⟩
  have e : (if b = x then some ⟨C, []⟩ else n.ob b) = some ob := e
  by_cases q : b = x
  · rw [if_pos q] at e
    cases e
    subst q
    exact ⟨hs.free hx, dx, [], upd_same, .nil⟩
  · rw [if_neg q] at e
    exact h2.2.1 b ob e
def dMake (C : Addr) (c : DSpecX) (dw : DW) (t : DTA) : DTE := fun ρ n R => t ρ n fun as n1 => ∀ x, n1.ob x = none → c (.dat (refD x) :: as) (n1.put x ⟨C, []⟩) (fun d n2 => d = .none ∧ R (.dat (refD x)) n2) fun ex n2 => dw ex ρ n2
theorem make_im {m : Nat} {C : Addr} {c : DSpecX} {dw : DW} {W : WX} {t : DTA} (ok : WOk Y X.K dw W) (hm : ∀ as n R E, c as n R E → as.length = m) : ∀ σ H Q, up Y X.K (dMake C c dw t) σ H Q → (upA Y X.K t) σ H fun vs H1 => ∀ x dx, H1 x = none → H1 dx = none → dx ≠ x →
    spDX X.K m c (.ref x :: vs) (upd (upd H1 dx (.own x)) x (.ins C dx [])) (fun v H2 => v = .non ∧ Q (.ref x) H2) (L2.WE W σ) :=
  fun σ H Q ⟨Z, F, ρ, n, R, r, ht, k⟩ => ⟨Z, F, ρ, n, _, r, ht, fun as n1 F1 H1 vs hx g1 s1 d1 w1 => fun x dx nx nd ne => by
    have r1 := r.step g1 s1 d1
    have gm : Gr Z.δ F1 H1 F1 (upd (upd H1 dx (.own x)) x (.ins C dx [])) := gr_mk nx nd
    have sm : Same F1 (upd (upd H1 dx (.own x)) x (.ins C dx [])) := same_mk s1 nx nd
    have dm := at_mk (C := C) s1 d1 r1.b.dkF nx nd ne
    have r2 := r1.step gm sm dm
    have hc := hx x (obN d1 nx)
    refine ⟨Z.δ, F1, _, _, _, _, hm _ _ _ _ hc, .cons vr_ref (Paired.mapP w1 fun a b h => h.step gm), sm, dm, r2.b.dkF, hc, fun d n2 F2 H2 v ⟨e, h2⟩ g2 s2 d2 w2 => ?_, fun ex n2 F2 H2 cls d h2 g2 s2 d2 w2 => ok _ _ _ _ _ _ _ _ _ h2 (r2.step g2 s2 d2) w2⟩
    subst e
    simp only [Rp] at w2
    exact ⟨w2, k _ _ _ _ _ h2 ((g1.trans gm).trans g2) s2 d2 vr_ref⟩⟩
theorem we_make {k : Nat} {C : Addr} {c : DSpecX} {dw : DW} {W : WX} {f : Addr} {fd : FuncData} {ps : List Str} {x : Str} {p pos : Pos} {e : Expr} {es : List Expr} {t : DTA} (tk : Takes X W) (ok : WOk Y X.K dw W) (M : Mk X.K C f) (F : FnGX X.prog X.w X.K X.mg X.base k f fd ps (spDX X.K ps.length c)) (hc : ∀ as n R E, c as n R E → as.length = ps.length) (hgd : X.A.guards = some []) (hr : Room (k + 1) X.A) (hg : Gl X x) (hm : X.mg x = some (.ref C)) (hb : Binds X.K fd ps [])
    (ha : WA Y X (e :: es) t) (hdb : (x == ("__debug__" : Str)) = false := by decide) (he : starEach (e :: es) X.env = (false, eval e X.env) :: starEach es X.env := by rfl) (hpl : (backTo pos (starEach es X.env)).any (·.1) = false := by rfl) :
    WE Y X (.Call (.Name x p) (e :: es) [] pos) (dMake C c dw t) :=
  ⟨fun pins s σ H Q I h => wpAny_Call_Name_kw (ld_glob I hg hm (PySem.W.callWith_K (h₀ := X.base) I.ok.mod.kin M.kp (thn (ha.run pos pins s σ H _ I (make_im (m := ps.length) ok hc σ H Q h)) fun us s1 ⟨vs, H1, I1, r, q⟩ => ⟨I1.kIn, runx_make M F hgd hr hb (passAt tk σ) I1 r q⟩) he hpl) hdb)⟩
/-- every class of PC has the method m, and it keeps c -/
def HasM (P : Program) (w : World) (K : PySem.W.Frag) (mg : Str → Option Value) (base : Heap) (PC : Addr → Prop) (m : Str) (k : Nat) (ps : List Str) (c : Addr → DSpecX) : Prop :=
  ∀ C, PC C → Cls K C ∧ ∃ g fd, Meth K C m g ∧ Binds K fd ps [] ∧ FnGX P w K mg base k g fd ps (spDX K ps.length (c C))
def dMeth (PC : Addr → Prop) (m : Str) (l : Nat) (c : Addr → DSpecX) (dw : DW) (to : DTE) (t : DTA) : DTE := fun ρ n R => to ρ n fun x n1 => ∃ a o, x = .dat (refD a) ∧ n1.ob a = some o ∧ PC o.C ∧ o.fs.lookup m = none ∧
  t ρ n1 fun as n2 => as.length + 1 = l ∧ c o.C (.dat (refD a) :: as) n2 (fun d n3 => R (.dat d) n3) fun ex n3 => dw ex ρ n3
theorem we_meth {pl : Sem Bool} {k : Nat} {PC : Addr → Prop} {m : Str} {ps : List Str} {c : Addr → DSpecX} {dw : DW} {W : WX} {o e : Expr} {es : List Expr} {to : DTE} {t : DTA} {apos pos : Pos} (tk : Takes X W) (ok : WOk Y X.K dw W) (HM : HasM X.prog X.w X.K X.mg X.base PC m k ps c) (hgd : X.A.guards = some []) (hr : Room k X.A)
    (ho : WE Y X o to) (ha : WA Y X (e :: es) t)
    (hst : starEach (e :: es) X.env = (false, eval e X.env) :: starEach es X.env := by rfl) (hpl : (backTo pos (starEach es X.env)).any (·.1) = false := by rfl)
    (ht : eval (.Call (.Attribute o m apos) (e :: es) [] pos) X.env = (do
      let ov ← eval o X.env
      standAt apos.atName
      let (f, first) ← holding [ov] (getMethod ov m pl)
      callWith pos f first (backTo pos (starEach (e :: es) X.env)) (backToKw pos (keywordEach [] X.env))) := by rfl) :
    WE Y X (.Call (.Attribute o m apos) (e :: es) [] pos) (dMeth PC m ps.length c dw to t) :=
  ⟨fun pins s σ H Q I ⟨Z, F, ρ, n, R, r, hto, kk⟩ => by
    refine PySem.W.methodCall_KW (pl := pl) (thn (ho.run pins s σ H (fun v H1 => ∃ x n1 F1, _ ∧ Gr Z.δ F H F1 H1 ∧ Same F1 H1 ∧ Z.δ.at_ X.K F1 H1 n1 ∧ VR X.K Z.δ F1 H1 x v) I ⟨Z, F, ρ, n, _, r, hto, fun x n1 F1 H1 v hx g1 s1 d1 w1 => ⟨x, n1, F1, hx, g1, s1, d1, w1⟩⟩) fun u s1 ⟨v, H1, I1, rx, x, n1, F1, ⟨a, ob, ex, hob, hPC, hl, hta⟩, g1, s1', d1, w1⟩ => ?_) ht
    subst ex
    obtain rfl := VR.ref w1
    obtain rfl : u = Value.ref a := rx
    obtain ⟨_, dx, vs, h2, h3⟩ := d1.2.1 a ob hob
    obtain ⟨hcl, g, fd, hM, hB, hF⟩ := HM _ hPC
    refine getmeth_ok I1 h2 hcl hM (h3.lookup_none hl) ?_
    have r1 := r.step g1 s1' d1
    refine PySem.W.callWith_K (first := [.ref a]) (h₀ := X.base) I.ok.mod.kin hM.kp (thn (ha.run pos pins s1 σ H1 (fun vs H2 => spDX X.K ps.length (c ob.C) (.ref a :: vs) H2 Q (L2.WE W σ)) I1 ⟨Z, F1, ρ, n1, _, r1, hta, fun as n2 F2 H2 vs2 ⟨hlen, hx⟩ g2 s2 d2 w2 => ?_⟩) fun us s2 ⟨vs, H2, I2, rr, q2⟩ => ⟨I2.kIn, runx (us := .ref a :: us) (vs := .ref a :: vs) hF hgd hr hB (passAt tk σ) I2 (.cons rfl rr) q2⟩) hst hpl
    have r2 := r1.step g2 s2 d2
    exact ⟨Z.δ, F2, .dat (refD a) :: as, n2, _, _, hlen, .cons vr_ref w2, s2, d2, r2.b.dkF, hx, fun d n3 F3 H3 v h4 g3 s3 d3 w3 => kk _ _ _ _ _ h4 ((g1.trans g2).trans g3) s3 d3 w3, fun ex n3 F3 H3 cls d h4 g3 s3 d3 w3 => ok _ _ _ _ _ _ _ _ _ h4 (r2.step g3 s3 d3) w3⟩⟩
theorem we_meth0 {pl : Sem Bool} {k : Nat} {PC : Addr → Prop} {m : Str} {ps : List Str} {c : Addr → DSpecX} {dw : DW} {W : WX} {o : Expr} {to : DTE} {apos pos : Pos} (tk : Takes X W) (ok : WOk Y X.K dw W) (HM : HasM X.prog X.w X.K X.mg X.base PC m k ps c) (hgd : X.A.guards = some []) (hr : Room k X.A)
    (ho : WE Y X o to)
    (ht : eval (.Call (.Attribute o m apos) [] [] pos) X.env = (do
      let ov ← eval o X.env
      standAt apos.atName
      let (f, first) ← holding [ov] (getMethod ov m pl)
      callWith pos f first (backTo pos (starEach [] X.env)) (backToKw pos (keywordEach [] X.env))) := by rfl) :
    WE Y X (.Call (.Attribute o m apos) [] [] pos) (dMeth PC m ps.length c dw to dNil) :=
  ⟨fun pins s σ H Q I ⟨Z, F, ρ, n, R, r, hto, kk⟩ => by
    refine PySem.W.methodCall_KW (pl := pl) (thn (ho.run pins s σ H (fun v H1 => ∃ x n1 F1, _ ∧ Gr Z.δ F H F1 H1 ∧ Same F1 H1 ∧ Z.δ.at_ X.K F1 H1 n1 ∧ VR X.K Z.δ F1 H1 x v) I ⟨Z, F, ρ, n, _, r, hto, fun x n1 F1 H1 v hx g1 s1 d1 w1 => ⟨x, n1, F1, hx, g1, s1, d1, w1⟩⟩) fun u s1 ⟨v, H1, I1, rx, x, n1, F1, ⟨a, ob, ex, hob, hPC, hl, hlen, hx⟩, g1, s1', d1, w1⟩ => ?_) ht
    subst ex
    obtain rfl := VR.ref w1
    obtain rfl : u = Value.ref a := rx
    obtain ⟨_, dx, vs, h2, h3⟩ := d1.2.1 a ob hob
    obtain ⟨hcl, g, fd, hM, hB, hF⟩ := HM _ hPC
    refine getmeth_ok I1 h2 hcl hM (h3.lookup_none hl) ?_
    have r1 := r.step g1 s1' d1
    exact PySem.W.callWith_K0 (first := [.ref a]) I1.kIn hM.kp (runx (us := [.ref a]) (vs := [.ref a]) hF hgd hr hB (passAt tk σ) I1 (.cons rfl .nil) ⟨Z.δ, F1, [.dat (refD a)], n1, _, _, hlen, .cons vr_ref .nil, s1', d1, r1.b.dkF, hx, fun d n3 F3 H3 v h4 g3 s3 d3 w3 => kk _ _ _ _ _ h4 (g1.trans g3) s3 d3 w3, fun ex n3 F3 H3 cls d h4 g3 s3 d3 w3 => ok _ _ _ _ _ _ _ _ _ h4 (r1.step g3 s3 d3) w3⟩)⟩
end
end DL
set_option maxHeartbeats 4000000
namespace DL
open PySem PySem.Spec PyProof.Rows L2
/-- what the __init__ of an error class with one field keeps -/
def spEI (C : Addr) (f : Str) : Sp := fun vs H Q _ => ∃ a v, vs = [.ref a, v] ∧ H a = some (exo a C none) ∧ ∀ dx, H dx = none → dx ≠ a → Q .non (upd (upd H dx (exd dx [(f, v)])) a (exo a C (some dx)))
theorem heap_back {H : Hp} {a d : Addr} {o u w x : HO} (ha : H a = none) (hne : d ≠ a) : upd (del (upd (upd (upd H a o) d u) a w) a) d x = upd H d x := by
  funext b
  by_cases h1 : b = d
  · subst h1; rw [upd_same, upd_same]
  · rw [upd_ne h1, upd_ne h1]
    by_cases h2 : b = a
    · subst h2; rw [del_same, ha]
    · rw [del_ne h2, upd_ne h2, upd_ne h1, upd_ne h2]
/-- what an error class of one field must have -/
structure ErrC (P : Program) (w : World) (K : PySem.W.Frag) (mg : Str → Option Value) (base : Heap) (x : Str) (C : Addr) (f : Str) : Prop where
  g : mg x = some (.ref C)
  T : OexC K C
  i : ∃ fI fd ps, PySem.W.findIn K (.ref C) "__init__" = some (some (.ref fI)) ∧ PySem.W.typeIn K (.ref fI) = some (.type "function") ∧ FnOk P w K mg base CX0 1 fI fd ps (spEI C f) ∧ Binds K fd ps []
/-- .. of none -/
structure ErrC0 (K : PySem.W.Frag) (mg : Str → Option Value) (x : Str) (C : Addr) : Prop where
  g : mg x = some (.ref C)
  kC : PySem.W.keepIn K (.ref C) = true
  e : PySem.W.excIn K C [.type "ValueError", .type "Exception", .type "BaseException", .type "object"] "ValueError.__new__" = true
  bP : PySem.W.subIn K (.ref C) (.type "BaseException") = some true
  tP : PySem.W.typeIn K (.ref C) = some (.type "type")
section
variable {X : Cx} {Y : Fx} {dw : DW} {W : WX}
def dRaise (C : Addr) (f : Str) (dw : DW) (t : DTE) : DTS := fun _ ρ n => t ρ n fun x n1 => needD x fun d => dw ⟨C, [(f, d)]⟩ ρ n1
theorem ds_raise {C : Addr} {x f : Str} {e : Expr} {t : DTE} {p pos pos2 : Pos} (hc : X.calm = true) (tk : Takes X W) (ok : WOk Y X.K dw W) (T : ErrC X.prog X.w X.K X.mg X.base x C f) (hr : Room 2 X.A) (hg : Gl X x) (ha : WE Y X e t)
    (hdb : (x == ("__debug__" : Str)) = false := by decide) (he : starEach [e] X.env = (false, eval e X.env) :: starEach [] X.env := by rfl) (hpl : (backTo pos (starEach [] X.env)).any (·.1) = false := by rfl) :
    DS Y X (.Raise (some (.Call (.Name x p) [e] [] pos)) none pos2) (dRaise C f dw t) := by
  obtain ⟨fI, fd, ps, i1, i2, i3, i4⟩ := T.i
  refine ps_imp (ps_raise hc tk (pmk_oex (k := 1) (ds := []) (dvs := []) T.T i1 i2 i3 hr i4 .nil pass0 hg T.g (pa_cons ha pa_nil he) hdb he hpl)) fun D σ H ⟨Z, F, ρ, n, E, r, ht, k⟩ => ?_
  refine ⟨Z, F, ρ, n, _, r, ht, fun y n1 F1 H1 v hy g1 s1 d1 w1 => ?_⟩
  obtain ⟨d, rfl, hy⟩ := needD_is hy
  refine ⟨(by decide : 1 ≤ 1000), fun a ha => ⟨a, v, rfl, upd_same, fun dx h1 h2 => ?_⟩⟩
  have hd1 : H1 dx = none := by rw [upd_ne h2] at h1; exact h1
  refine ⟨rfl, dx, [(f, v)], upd_same, by rw [upd_ne h2]; exact upd_same, hd1, ?_⟩
  rw [heap_back ha h2]
  have r1 := r.step g1 s1 d1
  obtain ⟨g2, s2⟩ := Gp.new (o := .xd [(f, v)]) hd1 s1
  exact ok _ _ _ _ _ _ _ _ _ hy (r1.step g2.gr s2 (g2.dk r1.b)) ⟨rfl, .inr ⟨dx, _, rfl, upd_same, .cons ⟨rfl, Rp.mono g2.sF d v w1⟩ .nil⟩⟩
def dRaise0 (C : Addr) (dw : DW) : DTS := fun _ ρ n => dw ⟨C, []⟩ ρ n
theorem pmk_err0 {C : Addr} {x : Str} {p pos : Pos} (T : ErrC0 X.K X.mg x C) (hg : Gl X x) (hdb : (x == ("__debug__" : Str)) = false := by decide) : PMk X (.Call (.Name x p) [] [] pos) (fun _ H Q => Q (.ref C) none H) := by
  intro pins s σ H Q I h
  refine wpAny_Call_Name_kw (ld_glob I hg T.g ?_ hdb)
  refine PySem.W.callWith_K0 I.kIn T.kC ?_
  obtain ⟨bm, N, nm, qn, bs, hdct, sn, sub, ab, col, dd, k0, k1, k2, k3, k5, mN, hC, hN, hni, Tl⟩ := exc_obj I.kIn T.e
  refine wpAny_call_exc_subT F.excBase_ValueError Tl hC hN hni (fun h' e hm => ?_) (Nat.zero_le _)
  exact mk_of I hm (raises_own T.bP T.tP) h (I.hok.gone hm.new)
theorem ds_raise0 {C : Addr} {x : Str} {p pos pos2 : Pos} (hc : X.calm = true) (tk : Takes X W) (ok : WOk Y X.K dw W) (T : ErrC0 X.K X.mg x C) (hg : Gl X x) (hdb : (x == ("__debug__" : Str)) = false := by decide) : DS Y X (.Raise (some (.Call (.Name x p) [] [] pos)) none pos2) (dRaise0 C dw) :=
  ps_imp (ps_raise hc tk (pmk_err0 T hg hdb)) fun D σ H ⟨Z, F, ρ, n, E, r, ht, k⟩ => ok _ _ _ _ _ _ _ _ _ ht r ⟨rfl, .inl ⟨rfl, rfl⟩⟩
/-- an error is caught -/
def caught (a : Addr) (ex : Ex) (d : Option Addr) (n : Wo) : Wo := n.putX a ⟨.ref ex.C, d, ex.fs⟩
theorem at_caught {K : PySem.W.Frag} {δ : DkS} {F H : Hp} {n : Wo} {a : Addr} {ex : Ex} {d : Option Addr} (h : δ.at_ K F H n) (hx : XoAt K F ⟨.ref ex.C, d, ex.fs⟩) : δ.at_ K F H (caught a ex d n) :=
  ⟨h.1, h.2.1, fun b x e => by
    have e : (if b = a then some ⟨.ref ex.C, d, ex.fs⟩ else n.xs b) = some x := e
    by_cases q : b = a
    · rw [if_pos q] at e; cases e; exact hx
    · rw [if_neg q] at e; exact h.2.2 b x e⟩
/-- the ends of a suite, where slot i is emptied -/
def endsX (i : Nat) (E : DEnds) : DEnds := { nx := fun ρ n => E.nx (ρ.set i none) n, rt := E.rt, bk := fun ρ n => E.bk (ρ.set i none) n, ct := fun ρ n => E.ct (ρ.set i none) n }
def dwAs (K : PySem.W.Frag) (c : Value) (i : Nat) (ts : Addr → Value → Option Addr → DTS) (dwo : DW) (E : DEnds) : DW := fun ex ρ n =>
  ∃ b, PySem.W.exmOne K (.ref ex.C) c = some b ∧ (b = true → ∀ a d, ts a (.ref ex.C) d (endsX i E) (ρ.set i (some (.dat (refD a)))) (caught a ex d n)) ∧ (b = false → dwo ex ρ n)
def dTryAs (K : PySem.W.Frag) (c : Value) (i : Nat) (tb : DW → DTS) (ts : Addr → Value → Option Addr → DTS) (dwo : DW) : DTS := fun E ρ n => tb (dwAs K c i ts dwo E) E ρ n
theorem SR.clear {K : PySem.W.Frag} {Z : Fx} {F H : Hp} {σ : L2.St} {ρ : Rho} {n : Wo} (r : SR Y K Z F H σ ρ n) (i : Nat) : SR Y K Z F H (σ.set i none) (ρ.set i none) n where
  b := r.b
  de := r.de
  he := r.he
  gr := r.gr
  len := by simp [r.len]
  slot := fun j x e => by
    by_cases q : i = j
    · subst q
      by_cases hl : i < ρ.length
      · rw [List.getElem?_set_self hl] at e; cases e
      · rw [List.getElem?_eq_none (by rw [List.length_set]; omega)] at e; cases e
    · rw [List.getElem?_set_ne q] at e
      obtain ⟨v, e1, e2⟩ := r.slot j x e
      exact ⟨v, by rw [List.getElem?_set_ne q]; exact e1, e2⟩
  apart := fun j k a ds y hjk e1 e2 e3 hy e4 => by
    have nz : ∀ {m : Nat} {z : Dv}, (ρ.set i none)[m]? = some (some z) → i ≠ m ∧ ρ[m]? = some (some z) := fun {m z} e => by
      by_cases q : i = m
      · subst q
        by_cases hl : i < ρ.length
        · rw [List.getElem?_set_self hl] at e; cases e
        · rw [List.getElem?_eq_none (by rw [List.length_set]; omega)] at e; cases e
      · rw [List.getElem?_set_ne q] at e; exact ⟨q, e⟩
    obtain ⟨n1, e1⟩ := nz e1
    obtain ⟨n3, e3⟩ := nz e3
    rw [List.getElem?_set_ne n1] at e2
    rw [List.getElem?_set_ne n3] at e4
    exact r.apart j k a ds y hjk e1 e2 e3 hy e4
theorem ends_x {K : PySem.W.Frag} {Z : Fx} {E : DEnds} {D : Ends} {i : Nat} (k : EndsOk Y K Z E D) : EndsOk Y K Z (endsX i E) { nx := fun σ' H' => D.nx (σ'.set i none) H', rt := D.rt, bk := fun σ' H' => D.bk (σ'.set i none) H', ct := fun σ' H' => D.ct (σ'.set i none) H' } :=
  ⟨fun F H σ ρ n h r => k.nx _ _ _ _ _ h (r.clear i), k.rt, fun F H σ ρ n h r => k.bk _ _ _ _ _ h (r.clear i), fun F H σ ρ n h r => k.ct _ _ _ _ _ h (r.clear i)⟩
/-- a def's entry, moved to where F stands -/
def Fx.at_ (Y : Fx) (F : Hp) : Fx := ⟨F, Y.H0, Y.δ⟩
theorem SlotV.re {K : PySem.W.Frag} {Z Z' : Fx} {F H : Hp} {x : Dv} {v : V} (h0 : Z.H0 = Z'.H0) (hd : Z.δ = Z'.δ) (h : SlotV K Z F H x v) : SlotV K Z' F H x v := by
  cases x with
  | mt ds =>
    obtain ⟨a, vs, e, h1, h2, h3, h4, h5⟩ := h
    exact ⟨a, vs, e, by rw [← h0]; exact h1, h2, h3, h4, by rw [← hd]; exact h5⟩
  | md a ks =>
    obtain ⟨e, h1, h2, h3, h4⟩ := h
    exact ⟨e, by rw [← h0]; exact h1, h2, h3, by rw [← hd]; exact h4⟩
  | dat d => exact h
  | vw ds =>
    obtain ⟨a, vs, e, h1, h2, h3⟩ := h
    exact ⟨a, vs, e, h1, h2, by rw [← hd]; exact h3⟩
  | deck k =>
    obtain ⟨a, e, h1⟩ := h
    exact ⟨a, e, by rw [← hd]; exact h1⟩
theorem SR.enter {K : PySem.W.Frag} {Z : Fx} {F H : Hp} {σ : L2.St} {ρ : Rho} {n : Wo} (r : SR Y K Z F H σ ρ n) : SR (Y.at_ F) K (Y.at_ F) F H σ ρ n where
  b := by
    have hd := r.de
    have h0 := r.he
    refine ⟨r.b.sub, ?_, ?_, Same.refl _, fun _ _ h => h, r.gr.kH, r.gr.iH⟩
    · show Y.δ.at_ K F H n
      rw [← hd]; exact r.b.dk
    · intro a ha
      exact r.b.dkF a (by rw [hd]; exact ha)
  de := rfl
  he := rfl
  gr := ⟨Same.refl _, fun _ _ h => h, r.gr.kH, r.gr.iH, r.gr.dH⟩
  len := r.len
  slot := fun i x e => by
    obtain ⟨v, e1, e2⟩ := r.slot i x e
    exact ⟨v, e1, e2.re r.he r.de⟩
  apart := r.apart
theorem Base.exit {K : PySem.W.Frag} {Z Z1 : Fx} {F H F2 H2 : Hp} {σ : L2.St} {ρ : Rho} {n n2 : Wo} (r : SR Y K Z F H σ ρ n) (hd : Z1.δ = Y.δ) (h0 : Z1.H0 = Y.H0) (g : Gr Y.δ F Y.H0 F2 H2) (b : Base K Z1 F2 H2 n2) : Base K Z F2 H2 n2 :=
  ⟨b.sub, by rw [r.de, ← hd]; exact b.dk, fun a ha => b.dkF a (by rw [hd, ← r.de]; exact ha), r.b.gF.trans g.sF, fun a h1 h2 => g.nF a (by rw [← r.he]; exact h1) (r.b.gN a h1 h2), fun a o na e hi => g.kH a o (by rw [← r.de]; exact na) (by rw [← r.he]; exact e) hi, fun a C dx fs e => g.iH a C dx fs (by rw [← r.he]; exact e)⟩
theorem SR.exit {K : PySem.W.Frag} {Z Z1 : Fx} {F H F2 H2 : Hp} {σ σ2 : L2.St} {ρ ρ2 : Rho} {n n2 : Wo} (r : SR Y K Z F H σ ρ n) (q : SR (Y.at_ F) K Z1 F2 H2 σ2 ρ2 n2) : SR Y K Z F2 H2 σ2 ρ2 n2 where
  b := Base.exit r q.de q.he q.gr q.b
  de := r.de
  he := r.he
  gr := ⟨r.gr.sF.trans q.gr.sF, fun a h1 h2 => q.gr.nF a h1 (r.gr.nF a h1 h2), q.gr.kH, q.gr.iH, q.gr.dH⟩
  len := q.len
  slot := fun i x e => by
    obtain ⟨v, e1, e2⟩ := q.slot i x e
    exact ⟨v, e1, e2.re (q.he.trans r.he.symm) (q.de.trans r.de.symm)⟩
  apart := q.apart
theorem ends_in {K : PySem.W.Frag} {Z : Fx} {F H : Hp} {σ : L2.St} {ρ : Rho} {n : Wo} {E : DEnds} {D : Ends} (r : SR Y K Z F H σ ρ n) (k : EndsOk Y K Z E D) : EndsOk (Y.at_ F) K (Y.at_ F) E D :=
  ⟨fun _ _ _ _ _ h q => k.nx _ _ _ _ _ h (r.exit q), fun d n2 F2 H2 v h b q => k.rt _ _ _ _ _ h (Base.exit (Z1 := Y.at_ F) r rfl rfl ⟨b.gF, b.gN, b.gH, b.gI, fun a h => b.gD a h⟩ b) q, fun _ _ _ _ _ h q => k.bk _ _ _ _ _ h (r.exit q), fun _ _ _ _ _ h q => k.ct _ _ _ _ _ h (r.exit q)⟩
theorem pss_ex {α : Sort _} {st : List Stmt} {Q : α → Prop} {t : α → TS} (h : ∀ a, Q a → PSs X st (t a)) : PSs X st (fun D σ H => ∃ a, Q a ∧ t a D σ H) := ⟨fun p s σ H D I ⟨a, q, w⟩ => (h a q).run p s σ H D I w⟩
theorem ds_try_as {x n : Str} {c : Value} {i : Nat} {body suite : List Stmt} {b₀ : Stmt} {np pos pos' : Pos} {tb : DW → DTS} {ts : Addr → Value → Option Addr → DTS} (tk : Takes X W) (ok : WOk Y X.K dw W)
    (hs : X.stack = X.env :: X.outer) (hf : X.env.frame = some X.env.locals) (hN : X.N.Nodup) (hi : X.N[i]? = some n) (hln : X.env.kindOf n = some .local) (hc : Names X x c)
    (hb : ∀ (Y1 : Fx) (W1 : WX) (pn : List (Addr × Obj)) (xe : Value → Shared → Prop) (dw1 : DW), Takes (X.tr pn xe) W1 → WOk Y1 X.K dw1 W1 → DSs Y1 (X.tr pn xe) body (tb dw1))
    (hsu : ∀ (a : Addr) (oe : Obj) (cls : Value) (d : Option Addr) (pn : List (Addr × Obj)), Zc cls d oe → (∃ vs, oe.data = .fields vs) → DSs Y (X.suite a ((a, oe) :: pn)) (b₀ :: suite) (ts a cls d)) :
    DS Y X (.Try body [.ExceptHandler (some (.Name x np)) (some n) (b₀ :: suite) pos'] [] [] pos) (dTryAs X.K c i tb ts dw) :=
  ps_imp (ps_try_as (i := i) (tb := fun W1 D σ H => ∃ q : Fx × DW, WOk q.1 X.K q.2 W1 ∧ upS q.1 X.K (tb q.2) D σ H) (ts := fun a cls d => upS Y X.K (ts a cls d)) (Wout := W) hs hf hN hi hln hc tk
    (fun W1 pn xe tk1 _ => pss_ex (Q := fun q : Fx × DW => WOk q.1 X.K q.2 W1) fun q ok1 => hb q.1 W1 pn xe q.2 tk1 ok1) (fun a oe cls d pn hz hf2 => hsu a oe cls d pn hz hf2)) fun D σ H ⟨Z, F, ρ, n, E, r, ht, k⟩ => by
    refine ⟨⟨Y.at_ F, dwAs X.K c i ts dw E⟩, fun ex ρ1 n1 F1 H1 σ1 cls d Z1 h1 q1 hx1 => ?_, Y.at_ F, F, ρ, n, E, r.enter, ht, ends_in r k⟩
    obtain ⟨b, hb1, hyes, hno⟩ := h1
    obtain ⟨hcls, hxo⟩ := hx1
    subst hcls
    have r1 := r.exit q1
    refine ⟨b, hb1, fun hbt a na => ?_, fun hbf => ok _ _ _ _ _ _ _ _ _ (hno hbf) r1 ⟨rfl, hxo⟩⟩
    have r2 : SR Y X.K Z F1 H1 σ1 ρ1 (caught a ex d n1) := r1.step Gr.refl r1.b.sub (at_caught r1.b.dk hxo)
    exact ⟨Z, F1, _, _, _, r2.setD i (rp_ref (a := a)), hyes hbt a d, ends_x k⟩
end
end DL
set_option maxHeartbeats 4000000
namespace DL
open PySem PySem.Spec PyProof.Rows L2
/-- the classes' expressions, evaluated -/
def tK (vs : List V) : TA := fun _ H Q => Q vs H
theorem pa_k0 {X : Cx} : PA X [] (tK []) := pa_nil
theorem pa_k {X : Cx} {e : Expr} {es : List Expr} {v : V} {vs : List V} (h : PE X e (tC v)) (r : PA X es (tK vs)) (hs : starEach (e :: es) X.env = (false, eval e X.env) :: starEach es X.env := by rfl) : PA X (e :: es) (tK (v :: vs)) :=
  pa_imp (pa_cons h r hs) fun σ H Q h => h
/-- what the text says of an error class, for isinstance -/
structure IsC (K : PySem.W.Frag) (C : Addr) : Prop where
  cl : (PySem.W.clsIn K C).isSome = true
  ga : PySem.W.findIn K (.ref C) "__getattribute__" = some (some (.builtin "BaseException.__getattribute__"))
  gt : PySem.W.findIn K (.ref C) "__getattr__" = some none
  su : PySem.W.subIn K (.ref C) (.type "BaseException") = some true
  ca : PySem.W.findIn K (.ref C) "__class__" = some (some (.builtin "object.__class__"))
  cg : PySem.W.specialIn K (.builtin "object.__class__") "__get__" = some (some (.builtin "getset_descriptor.__get__"))
  ct : PySem.W.takesIn K (.builtin "object.__class__") = some true
  mo : PySem.W.mroIn K C (.type "object") = some true
/-- .. of a plain class -/
structure InsC (K : PySem.W.Frag) (C : Addr) : Prop where
  c : Cls K C
  ca : PySem.W.findIn K (.ref C) "__class__" = some (some (.builtin "object.__class__"))
  cg : PySem.W.specialIn K (.builtin "object.__class__") "__get__" = some (some (.builtin "getset_descriptor.__get__"))
  ct : PySem.W.takesIn K (.builtin "object.__class__") = some true
  mo : PySem.W.mroIn K C (.type "object") = some true
section
variable {X : Cx} {Y : Fx}
/-- the caught error stands -/
theorem inst_x {pins pn : List (Addr × Obj)} {σ : L2.St} {H : Hp} {s : Shared} {a C : Addr} {oe : Obj} {d : Option Addr} (I : Inv (X.suite a ((a, oe) :: pn)) pins σ H s) (hz : Zc (.ref C) d oe) (hf : ∃ vs, oe.data = .fields vs) (hd : d = none ∨ ∃ dd fs, d = some dd ∧ H dd = some (.xd fs)) :
    ∃ od, PySem.W.InstAt s.heap a oe C od := by
  obtain ⟨hget, _⟩ := I.pin (a, oe) (List.mem_append.mpr (.inl List.mem_cons_self))
  obtain ⟨vs, hv⟩ := hf
  rcases hd with rfl | ⟨dd, fs, rfl, hdd⟩
  · refine ⟨none, hget, hz.1, by unfold PySem.W.notCls; rw [hv] <;> rfl, ?_⟩
    rw [hz.2]
    trivial
  · have hx : ObjOk X.prog X.w H s.heap dd (.xd fs) := I.hok dd _ hdd
    obtain ⟨mA, hns, hr⟩ := hx
    obtain ⟨od, ho, hl⟩ := lookIn_ns hns
    exact ⟨some od, hget, hz.1, by unfold PySem.W.notCls; rw [hv] <;> rfl, by rw [hz.2]; exact ho⟩
def rIsX (K : PySem.W.Frag) (a : Addr) (cls : Value) (d : Option Addr) : List V → Hp → VK → Prop := fun xs H Q => ∃ (c : V) (cv : Value) (C : Addr) (b : Bool), xs = [.ref a, c] ∧ cls = .ref C ∧ (d = none ∨ ∃ dd fs, d = some dd ∧ H dd = some (.xd fs)) ∧ IsC K C ∧ ClsV c cv ∧ PySem.W.kitOne K (.ref C) cv = some b ∧ Q (.bl b) H
theorem call_isX {a : Addr} {oe : Obj} {cls : Value} {d : Option Addr} {pn : List (Addr × Obj)} (hz : Zc cls d oe) (hf : ∃ vs, oe.data = .fields vs) : CallR (X.suite a ((a, oe) :: pn)) (.builtin "isinstance") (rIsX X.K a cls d) := by
  intro pins s σ H xs us Q I r h
  obtain ⟨c, cv, C, b, rfl, rfl, hd, T, hc, e, q⟩ := h
  cases r with
  | cons rx rr =>
    cases rr with
    | cons rt rr =>
      cases rr
      cases rx
      have ec := hc.eq rt
      subst ec
      obtain ⟨od, J⟩ := inst_x I hz hf hd
      exact PySem.W.kia_one (PySem.W.kitx_exc T.cl T.ga T.gt T.su T.ca T.cg T.ct T.mo) I.kIn J e (fun z => nomatch z) fun tk => ⟨.bl b, H, I.tok tk, rfl, q⟩
def rIsXT (K : PySem.W.Frag) (a : Addr) (cls : Value) (d : Option Addr) : List V → Hp → VK → Prop := fun xs H Q => ∃ (tp : Addr) (cs : List V) (us : List Value) (C : Addr) (b : Bool), xs = [.ref a, .ref tp] ∧ H tp = some (.tup cs) ∧ cls = .ref C ∧ (d = none ∨ ∃ dd fs, d = some dd ∧ H dd = some (.xd fs)) ∧ IsC K C ∧ Paired ClsV cs us ∧ PySem.W.kitAny K (.ref C) us = some b ∧ Q (.bl b) H
theorem call_isXT {a : Addr} {oe : Obj} {cls : Value} {d : Option Addr} {pn : List (Addr × Obj)} (hz : Zc cls d oe) (hf : ∃ vs, oe.data = .fields vs) : CallR (X.suite a ((a, oe) :: pn)) (.builtin "isinstance") (rIsXT X.K a cls d) := by
  intro pins s σ H xs us Q I r h
  obtain ⟨tp, cs, ts, C, b, rfl, htp, rfl, hd, T, hc, e, q⟩ := h
  cases r with
  | cons rx rr =>
    cases rr with
    | cons rt rr =>
      cases rr
      cases rx
      cases rt
      obtain ⟨od, J⟩ := inst_x I hz hf hd
      obtain ⟨its, rv, ⟨o, hg, hcl, n, hdt⟩, _⟩ := I.tuple (SqT.of htp)
      have ei := ClsV.all hc rv
      subst ei
      obtain ⟨oc, odd, oda, osl⟩ := o
      dsimp only at hcl hdt
      subst hcl hdt
      exact PySem.W.kia_tup (PySem.W.kitx_exc T.cl T.ga T.gt T.su T.ca T.cg T.ct T.mo) I.kIn J hg e (fun z => nomatch z) fun tk => ⟨.bl b, H, I.tok tk, rfl, q⟩
theorem xo_d {K : PySem.W.Frag} {F H : Hp} {x : Xo} (h : XoAt K F x) (hs : Same F H) : x.d = none ∨ ∃ dd fs, x.d = some dd ∧ H dd = some (.xd fs) := by
  rcases h with h | ⟨dd, vs, h1, h2, _⟩
  · exact .inl h.1
  · exact .inr ⟨dd, vs, h1, hs _ _ h2⟩
/-- isinstance(e, C), e the caught error -/
def dIsX (K : PySem.W.Frag) (a : Addr) (cls : Value) (d : Option Addr) (cv : Value) (t : DTE) : DTE := fun ρ n R => t ρ n fun x n1 => x = .dat (refD a) ∧ ∃ C fs b, cls = .ref C ∧ n1.xs a = some ⟨cls, d, fs⟩ ∧ IsC K C ∧ PySem.W.kitOne K (.ref C) cv = some b ∧ R (.dat (.bool b)) n1
theorem we_isX {a : Addr} {oe : Obj} {cls : Value} {d : Option Addr} {pn : List (Addr × Obj)} {c : V} {cv : Value} {e ec : Expr} {t : DTE} {p pos : Pos} (hz : Zc cls d oe) (hf : ∃ vs, oe.data = .fields vs) (hg : Gl X "isinstance") (hm : X.mg "isinstance" = none) (he : WE Y (X.suite a ((a, oe) :: pn)) e t) (hec : PE (X.suite a ((a, oe) :: pn)) ec (tC c)) (hcv : ClsV c cv)
    (h1 : starEach [e, ec] X.env = (false, eval e X.env) :: starEach [ec] X.env := by rfl) (h2 : starEach [ec] X.env = (false, eval ec X.env) :: starEach [] X.env := by rfl) (hpl : (backTo pos (starEach [ec] X.env)).any (·.1) = false := by rfl) :
    WE Y (X.suite a ((a, oe) :: pn)) (.Call (.Name "isinstance" p) [e, ec] [] pos) (dIsX X.K a cls d cv t) :=
  pe_imp (pe_callB (call_isX hz hf) hg hm PyProof.Rows.boot_isinstance (pa_cons he (pa_cons hec pa_nil h2) h1) (by decide) (by decide) h1 hpl) fun σ H Q ⟨Z, F, ρ, n, R, r, ht, k⟩ =>
    ⟨Z, F, ρ, n, _, r, ht, fun x n1 F1 H1 v ⟨ex, C, fs, b, hcls, hxs, hT, hk, hR⟩ g1 s1 d1 w1 => by
      subst ex
      obtain rfl := VR.ref w1
      exact ⟨c, cv, C, b, rfl, hcls, xo_d (d1.2.2 _ _ hxs) s1, hT, hcv, hk, k _ _ _ _ _ hR g1 s1 d1 (by simp [VR, Rp])⟩⟩
/-- isinstance(e, (C, ..)) -/
def dIsXT (K : PySem.W.Frag) (a : Addr) (cls : Value) (d : Option Addr) (us : List Value) (t : DTE) : DTE := fun ρ n R => t ρ n fun x n1 => x = .dat (refD a) ∧ ∃ C fs b, cls = .ref C ∧ n1.xs a = some ⟨cls, d, fs⟩ ∧ IsC K C ∧ PySem.W.kitAny K (.ref C) us = some b ∧ R (.dat (.bool b)) n1
theorem we_isXT {a : Addr} {oe : Obj} {cls : Value} {d : Option Addr} {pn : List (Addr × Obj)} {cs : List V} {us : List Value} {e : Expr} {es : List Expr} {t : DTE} {p pos p2 : Pos} {x1} (hz : Zc cls d oe) (hf : ∃ vs, oe.data = .fields vs) (hg : Gl X "isinstance") (hm : X.mg "isinstance" = none) (he : WE Y (X.suite a ((a, oe) :: pn)) e t) (hes : PA (X.suite a ((a, oe) :: pn)) es (tK cs)) (hcv : Paired ClsV cs us) (hl : cs.length ≤ sizeLine)
    (h1 : starEach [e, .Tuple es x1 p2] X.env = (false, eval e X.env) :: starEach [.Tuple es x1 p2] X.env := by rfl) (h2 : starEach [.Tuple es x1 p2] X.env = (false, eval (.Tuple es x1 p2) X.env) :: starEach [] X.env := by rfl) (hpl : (backTo pos (starEach [.Tuple es x1 p2] X.env)).any (·.1) = false := by rfl) :
    WE Y (X.suite a ((a, oe) :: pn)) (.Call (.Name "isinstance" p) [e, .Tuple es x1 p2] [] pos) (dIsXT X.K a cls d us t) :=
  pe_imp (pe_callB (call_isXT hz hf) hg hm PyProof.Rows.boot_isinstance (pa_cons he (pa_cons (pe_tup hes) pa_nil h2) h1) (by decide) (by decide) h1 hpl) fun σ H Q ⟨Z, F, ρ, n, R, r, ht, k⟩ =>
    ⟨Z, F, ρ, n, _, r, ht, fun x n1 F1 H1 v ⟨ex, C, fs, b, hcls, hxs, hT, hk, hR⟩ g1 s1 d1 w1 => by
      subst ex
      obtain rfl := VR.ref w1
      refine ⟨hl, fun tp hp => ?_⟩
      obtain ⟨g2, s2⟩ := Gp.newM (o := .tup cs) hp s1
      have r1 := r.step g1 s1 d1
      exact ⟨tp, cs, us, C, b, rfl, upd_same, hcls, xo_d (d1.2.2 _ _ hxs) s2, hT, hcv, hk, k _ _ _ _ _ hR (g1.trans g2.gr) s2 (g2.dk r1.b) (by simp [VR, Rp])⟩⟩
/-- e.f, e the caught error -/
def dXf (K : PySem.W.Frag) (a : Addr) (cls : Value) (d : Option Addr) (f : Str) (t : DTE) : DTE := fun ρ n R => t ρ n fun x n1 => x = .dat (refD a) ∧ ∃ C fs v, cls = .ref C ∧ n1.xs a = some ⟨cls, d, fs⟩ ∧ (XfC K C ∧ PySem.W.findIn K (.ref C) f = some none) ∧ fs.lookup f = some v ∧ R (.dat v) n1
theorem we_xf {a : Addr} {oe : Obj} {cls : Value} {d : Option Addr} {pn : List (Addr × Obj)} {e : Expr} {f : Str} {t : DTE} {pos : Pos} (hz : Zc cls d oe) (hf : ∃ vs, oe.data = .fields vs) (he : WE Y (X.suite a ((a, oe) :: pn)) e t) (hb : attributeBase e f X.env (eval e X.env) = eval e X.env := by rfl) :
    WE Y (X.suite a ((a, oe) :: pn)) (.Attribute e f pos) (dXf X.K a cls d f t) := by
  have key : PE (X.suite a ((a, oe) :: pn)) (.Attribute e f pos) (fun σ H Q => up Y X.K t σ H fun x H1 => x = .ref a ∧ ∃ C, (XfC X.K C ∧ PySem.W.findIn X.K (.ref C) f = some none) ∧ cls = .ref C ∧ ∃ (dd : Addr) (fs : List (Str × V)) (v : V), d = some dd ∧ H1 dd = some (.xd fs) ∧ fs.lookup f = some v ∧ Q v H1) := by
    refine ⟨fun pins s σ H Q I h => ?_⟩
    refine attr_of hb (thn (he.run pins s σ H _ I h) fun u s1 hh => ?_)
    obtain ⟨x, H1, I1, rx, ex, C, ⟨T, hno⟩, ec, dd, fs, v, ed, ea, l, q⟩ := hh
    subst ex
    obtain rfl : u = Value.ref a := rx
    subst ec
    obtain ⟨ha, _⟩ := I1.pin (a, oe) (List.mem_append_left _ List.mem_cons_self)
    obtain ⟨mA, hns, hr⟩ := (show ObjOk X.prog X.w H1 s1.heap dd (.xd fs) from I1.hok dd _ ea)
    obtain ⟨u, hu, ru⟩ := RelO.some_of (v := v) (o := mA f) (by rw [← l]; exact hr f)
    obtain ⟨od, ho, hl⟩ := lookIn_ns hns
    obtain ⟨ws, hw⟩ := hf
    subst ed
    have J : PySem.W.InstAt s1.heap a oe C (some od) := ⟨ha, hz.1, by unfold PySem.W.notCls; rw [hw] <;> rfl, by rw [hz.2]; exact ho⟩
    exact HandSPX.exc_get I1.kIn J T.ga T.gg T.exC (PySem.W.findObj_own T.hdC hno rfl (by rw [hl, hu])) (handed_of ru) ⟨v, H1, I1.tok _, ru, q⟩
  refine pe_imp key fun σ H Q ⟨Z, F, ρ, n, R, r, ht, k⟩ => ⟨Z, F, ρ, n, _, r, ht, fun x n1 F1 H1 v ⟨ex, C, fs, w, hcls, hxs, hT, hl, hR⟩ g1 s1 d1 w1 => ?_⟩
  subst ex
  obtain rfl := VR.ref w1
  rcases d1.2.2 _ _ hxs with ⟨h1, h2⟩ | ⟨dd, vs, h1, h2, h3⟩
  · have h2 : fs = [] := h2
    rw [h2] at hl
    cases hl
  · obtain ⟨u, h4, h5⟩ := h3.lookup hl
    exact ⟨rfl, C, hT, hcls, dd, vs, u, h1, s1 _ _ h2, h4, k _ _ _ _ _ hR g1 s1 d1 h5⟩
def TyDv (K : PySem.W.Frag) (n : Wo) (x : Dv) (ty : Value) : Prop := (isDR x = false ∧ ty = .type (tyD x.toD)) ∨ ∃ a o, x = .dat (refD a) ∧ n.ob a = some o ∧ InsC K o.C ∧ ty = .ref o.C
theorem TyDv.x {K : PySem.W.Frag} {δ : DkS} {F H : Hp} {n : Wo} {x : Dv} {v : V} {ty : Value} (h : TyDv K n x ty) (hv : VR K δ F H x v) (hs : Same F H) (hd : δ.at_ K F H n) : TyX K H v ty := by
  rcases h with ⟨h1, rfl⟩ | ⟨a, o, rfl, ho, hc, rfl⟩
  · exact tyD_of (hv.rp hs (isDR_dk h1)) (isDR_rf h1)
  · obtain rfl := VR.ref hv
    obtain ⟨_, dx, vs, h2, _⟩ := hd.2.1 a o ho
    exact .base (.ins h2 hc.c hc.ca hc.cg hc.ct hc.mo)
def dIs (K : PySem.W.Frag) (cv : Value) (t : DTE) : DTE := fun ρ n R => t ρ n fun x n1 => ∃ ty b, TyDv K n1 x ty ∧ PySem.W.kitOne K ty cv = some b ∧ R (.dat (.bool b)) n1
theorem we_is {c : V} {cv : Value} {e ec : Expr} {t : DTE} {p pos : Pos} (hg : Gl X "isinstance") (hm : X.mg "isinstance" = none) (he : WE Y X e t) (hec : PE X ec (tC c)) (hcv : ClsV c cv)
    (h1 : starEach [e, ec] X.env = (false, eval e X.env) :: starEach [ec] X.env := by rfl) (h2 : starEach [ec] X.env = (false, eval ec X.env) :: starEach [] X.env := by rfl) (hpl : (backTo pos (starEach [ec] X.env)).any (·.1) = false := by rfl) :
    WE Y X (.Call (.Name "isinstance" p) [e, ec] [] pos) (dIs X.K cv t) :=
  pe_imp (pe_callB call_isi hg hm PyProof.Rows.boot_isinstance (pa_cons he (pa_cons hec pa_nil h2) h1) (by decide) (by decide) h1 hpl) fun σ H Q ⟨Z, F, ρ, n, R, r, ht, k⟩ =>
    ⟨Z, F, ρ, n, _, r, ht, fun x n1 F1 H1 v ⟨ty, b, hty, hk, hR⟩ g1 s1 d1 w1 => ⟨v, c, ty, cv, b, rfl, hcv, hty.x w1 s1 d1, hk, k _ _ _ _ _ hR g1 s1 d1 (by simp [VR, Rp])⟩⟩
end
end DL
set_option maxHeartbeats 4000000
namespace DL
open PySem PySem.Spec PyProof.Rows L2
def HasX (P : Program) (w : World) (K : PySem.W.Frag) (mg : Str → Option Value) (base : Heap) (x : Str) (k : Nat) (ps : List Str) (c : DSpecX) : Prop :=
  ∃ f fd, mg x = some (.ref f) ∧ PySem.W.keepIn K (.ref f) = true ∧ Binds K fd ps [] ∧ FnGX P w K mg base k f fd ps (spDX K ps.length c)
/-- the class x stands at C, and its __init__ keeps c -/
def HasC (P : Program) (w : World) (K : PySem.W.Frag) (mg : Str → Option Value) (base : Heap) (x : Str) (C : Addr) (k : Nat) (ps : List Str) (c : DSpecX) : Prop :=
  mg x = some (.ref C) ∧ (∀ as n R E, c as n R E → as.length = ps.length) ∧ ∃ f fd, Mk K C f ∧ Binds K fd ps [] ∧ FnGX P w K mg base k f fd ps (spDX K ps.length c)
section
variable {X : Cx} {Y : Fx} {dw : DW} {W : WX}
theorem we_hasX {k : Nat} {c : DSpecX} {ps : List Str} {x : Str} {p pos : Pos} {e : Expr} {es : List Expr} {t : DTA} (tk : Takes X W) (ok : WOk Y X.K dw W) (h : HasX X.prog X.w X.K X.mg X.base x k ps c) (hgd : X.A.guards = some []) (hr : Room k X.A) (hg : Gl X x)
    (ha : WA Y X (e :: es) t) (hdb : (x == ("__debug__" : Str)) = false := by decide) (he : starEach (e :: es) X.env = (false, eval e X.env) :: starEach es X.env := by rfl) (hpl : (backTo pos (starEach es X.env)).any (·.1) = false := by rfl) :
    WE Y X (.Call (.Name x p) (e :: es) [] pos) (dFnX ps.length c dw t) := by
  obtain ⟨f, fd, h1, h2, h3, h4⟩ := h
  exact we_fnX tk ok h4 hgd hr hg h1 h2 h3 ha hdb he hpl
theorem we_hasC {k : Nat} {C : Addr} {c : DSpecX} {ps : List Str} {x : Str} {p pos : Pos} {e : Expr} {es : List Expr} {t : DTA} (tk : Takes X W) (ok : WOk Y X.K dw W) (h : HasC X.prog X.w X.K X.mg X.base x C k ps c) (hgd : X.A.guards = some []) (hr : Room (k + 1) X.A) (hg : Gl X x)
    (ha : WA Y X (e :: es) t) (hdb : (x == ("__debug__" : Str)) = false := by decide) (he : starEach (e :: es) X.env = (false, eval e X.env) :: starEach es X.env := by rfl) (hpl : (backTo pos (starEach es X.env)).any (·.1) = false := by rfl) :
    WE Y X (.Call (.Name x p) (e :: es) [] pos) (dMake C c dw t) := by
  obtain ⟨h1, h2, f, fd, h3, h4, h5⟩ := h
  exact we_make tk ok h3 h5 h2 hgd hr hg h1 h4 ha hdb he hpl
/-- .. in a try: statement whose body is one expression that may raise -/
theorem names_own {x : Str} {C : Addr} (hg : Gl X x) (hm : X.mg x = some (.ref C)) (hdb : (x == ("__debug__" : Str)) = false := by decide) : Names X x (.ref C) := ⟨hg, hdb, .inl hm⟩
end
def inCls (st : Stmt) (j : Nat) : Stmt := match st with
  | .ClassDef _ _ _ b _ _ _ _ _ _ _ => b.getD j (.Pass ⟨0, 0, 0, 0⟩)
  | _ => .Pass ⟨0, 0, 0, 0⟩
end DL
namespace DL
open PySem PySem.Spec PyProof.Rows L2
theorem kit_own {K : PySem.W.Frag} {t : Value} {D : Addr} {b : Bool} (h1 : PySem.W.isClsIn K D = true) (h2 : PySem.W.typeIn K (.ref D) = some (.type "type")) (h3 : PySem.W.subIn K (.ref D) (.ref D) = some true) (h4 : PySem.W.subIn K t (.ref D) = some b) : PySem.W.kitOne K t (.ref D) = some b := by
  unfold PySem.W.kitOne
  by_cases e : (t == Value.ref D) = true
  · rw [if_pos e]
    have e2 : t = .ref D := beq_iff_eq.mp e
    rw [e2] at h4
    rw [← h4, h3]
  · rw [if_neg e]
    unfold PySem.W.kitCls
    have h1' : (PySem.W.clsIn K D).isSome = true := h1
    simp only [h1', h2, Bool.true_and]
    rw [if_pos (by simp)]
    exact h4
theorem kit_oty {K : PySem.W.Frag} {T : String} {D : Addr} {b : Bool} (h1 : PySem.W.kitMeta T = true) (h4 : PySem.W.subIn K (.ref D) (.type T) = some b) : PySem.W.kitOne K (.ref D) (.type T) = some b := by
  unfold PySem.W.kitOne
  rw [if_neg (by simp)]
  unfold PySem.W.kitCls
  simp only [h1, if_true]
  exact h4
end DL
set_option maxHeartbeats 4000000
namespace DL
open PySem PySem.Spec PyProof.Rows L2
section
variable {X : Cx} {Y : Fx} {k : Nat} {f : Addr} {fd : FuncData} {ps : List Str} {sp : Sp} {W : WX} {dw : DW} {PC : Addr → Prop} {m : Str} {c : Addr → DSpecX}
theorem runxA {A : Around} {pins : List (Addr × Obj)} {σ : L2.St} {H : Hp} {s : Shared} {Q : VK} {E : XK} {us : List Value} {vs : List V} (F : FnGX X.prog X.w X.K X.mg X.base k f fd ps sp) (hgd : A.guards = some []) (hr : Room k A) (e0 : Env0 X.prog X.w X.K X.mg X.base A X.stack s H) (hb : Binds X.K fd ps [])
    (hx : PassesAt (L2.CX X.prog X.w) X σ E) (I : Inv X pins σ H s) (r : Vals vs us) (h : sp vs H Q E) : wpAny (model X.prog X.w) A (call (.ref f) us) (EP X pins σ Q) X.xe s := by
  have hl : (us ++ []).length = ps.length := by rw [List.append_nil, ← r.length]; exact F.len _ _ _ _ h
  have hbi := hb s us I.kIn hl
  rw [List.append_nil] at hbi
  refine wpAny_call (codeAny_mono (F.run A X.stack s H ⟨us, []⟩ us vs Q E hgd hr e0 hbi r h) fun q s' hq => ?_)
  cases q with
  | error e => exact hx pins H s e s' I hq
  | ok fl =>
    cases fl with
    | ret u => exact I.after hq
    | next => exact hq.elim
    | brk => exact hq.elim
    | cont => exact hq.elim
/-- the method m of the object at a, called from below -/
theorem dun {A : Around} {pins : List (Addr × Obj)} {σ : L2.St} {H F : Hp} {s : Shared} {ρ : Rho} {n : Wo} {Z : Fx} {Q : VK} {a : Addr} {ob : Ob} {as : List Dv} {us : List Value} {vs : List V} {R' : PyData → Wo → Prop}
    (tk : Takes X W) (ok : WOk Y X.K dw W) (HM : HasM X.prog X.w X.K X.mg X.base PC m k ps c) (I : Inv X pins σ H s) (r : SR Y X.K Z F H σ ρ n) (hob : n.ob a = some ob) (hPC : PC ob.C)
    (w : VRs X.K Z.δ F H as vs) (rv : Vals vs us) (hlen : as.length + 1 = ps.length) (hx : c ob.C (.dat (refD a) :: as) n R' fun ex n3 => dw ex ρ n3)
    (kk : ∀ d n3 F3 H3 v, R' d n3 → Gr Z.δ F H F3 H3 → Same F3 H3 → Z.δ.at_ X.K F3 H3 n3 → Rp X.K F3 d v → Q v H3) :
    ∃ g dx od, PySem.W.InstAt s.heap a (PySem.W.instObj ob.C dx) ob.C (some od) ∧ Cls X.K ob.C ∧ Meth X.K ob.C m g ∧
      (A.guards = some [] → Room k A → Env0 X.prog X.w X.K X.mg X.base A X.stack s H → wpAny (model X.prog X.w) A (call (.ref g) (.ref a :: us)) (EP X pins σ Q) X.xe s) := by
  obtain ⟨_, dx, vs', h2, h3⟩ := r.b.dk.2.1 a ob hob
  obtain ⟨hcl, g, fd, hM, hB, hF⟩ := HM _ hPC
  obtain ⟨mA, O, _⟩ := ins_get I.hok h2
  obtain ⟨od, J, _⟩ := O.look
  refine ⟨g, dx, od, J, hcl, hM, fun hgd hr e0 => runxA (us := .ref a :: us) (vs := .ref a :: vs) hF hgd hr e0 hB (passAt tk σ) I (.cons rfl rv) ?_⟩
  exact ⟨Z.δ, F, .dat (refD a) :: as, n, R', _, hlen, .cons vr_ref w, r.b.sub, by have q := r.b.dk; exact q, r.b.dkF, hx, kk, fun ex n3 F3 H3 cls d h4 g3 s3 d3 w3 => ok _ _ _ _ _ _ _ _ _ h4 (r.step g3 s3 d3) w3⟩
/-- two values, left then right -/
theorem two_run {a b : Expr} {ta tb : DTE} (ha : WE Y X a ta) (hb : WE Y X b tb) {pins : List (Addr × Obj)} {s : Shared} {σ : L2.St} {H F : Hp} {Z : Fx} {ρ : Rho} {n : Wo} {P : Dv → Dv → Wo → Prop} (I : Inv X pins σ H s) (r : SR Y X.K Z F H σ ρ n)
    (h : ta ρ n fun x n1 => tb ρ n1 fun y n2 => P x y n2) {Q : Value → Shared → Prop} {f : Value → Value → Sem Value}
    (hf : ∀ v u s2 x y xv yv n2 F2 H2, Inv X pins σ H2 s2 → RelV xv v → RelV yv u → P x y n2 → Gr Z.δ F H F2 H2 → Same F2 H2 → Z.δ.at_ X.K F2 H2 n2 → VR X.K Z.δ F2 H2 x xv → VR X.K Z.δ F2 H2 y yv → wpAny (model X.prog X.w) X.A (f v u) Q X.xe s2) :
    wpAny (model X.prog X.w) X.A (eval a X.env) (fun v s₁ => wpAny (model X.prog X.w) X.A (eval b X.env) (fun u s₂ => wpAny (model X.prog X.w) X.A (f v u) Q X.xe s₂) X.xe s₁) X.xe s := by
  refine thn (ha.run pins s σ H (fun v H1 => ∃ x n1 F1, _ ∧ Gr Z.δ F H F1 H1 ∧ Same F1 H1 ∧ Z.δ.at_ X.K F1 H1 n1 ∧ VR X.K Z.δ F1 H1 x v) I ⟨Z, F, ρ, n, _, r, h, fun x n1 F1 H1 v hx g1 s1 d1 w1 => ⟨x, n1, F1, hx, g1, s1, d1, w1⟩⟩) fun u s1 ⟨v, H1, I1, rx, x, n1, F1, hx, g1, s1', d1, w1⟩ => ?_
  have r1 := r.step g1 s1' d1
  refine thn (hb.run pins s1 σ H1 (fun v H2 => ∃ y n2 F2, P x y n2 ∧ Gr Z.δ F1 H1 F2 H2 ∧ Same F2 H2 ∧ Z.δ.at_ X.K F2 H2 n2 ∧ VR X.K Z.δ F2 H2 y v) I1 ⟨Z, F1, ρ, n1, _, r1, hx, fun y n2 F2 H2 v hy g2 s2 d2 w2 => ⟨y, n2, F2, hy, g2, s2, d2, w2⟩⟩) fun u2 s2 ⟨v2, H2, I2, ry, y, n2, F2, hy, g2, s2', d2, w2⟩ => ?_
  exact hf u u2 s2 x y v v2 n2 F2 H2 I2 rx ry hy (g1.trans g2) s2' d2 (w1.step g2) w2
def dLenO (PC : Addr → Prop) (c : Addr → DSpecX) (dw : DW) (ta : DTE) : DTE := fun ρ n R => ta ρ n fun x n1 => ∃ a o, x = .dat (refD a) ∧ n1.ob a = some o ∧ PC o.C ∧
  c o.C [.dat (refD a)] n1 (fun d n2 => ∃ z : Int, d = .int z ∧ 0 ≤ z ∧ z < 2 ^ 63 ∧ R (.dat (.int z)) n2) fun ex n2 => dw ex ρ n2
theorem we_lenO {e : Expr} {ta : DTE} {p pos : Pos} (tk : Takes X W) (ok : WOk Y X.K dw W) (HM : HasM X.prog X.w X.K X.mg X.base PC "__len__" k ps c) (hgd : X.A.guards = some []) (hr : Room (k + 1) X.A) (hl : ps.length = 1)
    (hg : Gl X "len") (hm : X.mg "len" = none) (he : WE Y X e ta)
    (h1 : starEach [e] X.env = (false, eval e X.env) :: starEach [] X.env := by rfl) (hpl : (backTo pos (starEach [] X.env)).any (·.1) = false := by rfl) : WE Y X (.Call (.Name "len" p) [e] [] pos) (dLenO PC c dw ta) :=
  ⟨fun pins s σ H Q I ⟨Z, F, ρ, n, R, r, h, kk⟩ => by
    refine wpAny_Call_Name_kw (ld_blt I hg hm (show bootBuiltins "len" = some (.builtin "len") by decide +kernel) ?_ (by decide) (by decide))
    refine PyProof.Rows.callWith_builtin1 (thn ((pa_cons he pa_nil h1).run pos pins s σ H (fun vs H1 => ∃ v x n1 F1, vs = [v] ∧ (∃ a o, x = .dat (refD a) ∧ n1.ob a = some o ∧ PC o.C ∧ c o.C [.dat (refD a)] n1 (fun d n2 => ∃ z : Int, d = .int z ∧ 0 ≤ z ∧ z < 2 ^ 63 ∧ R (.dat (.int z)) n2) fun ex n2 => dw ex ρ n2) ∧ Gr Z.δ F H F1 H1 ∧ Same F1 H1 ∧ Z.δ.at_ X.K F1 H1 n1 ∧ VR X.K Z.δ F1 H1 x v) I ⟨Z, F, ρ, n, _, r, h, fun x n1 F1 H1 v hx g1 s1 d1 w1 => ⟨v, x, n1, F1, rfl, hx, g1, s1, d1, w1⟩⟩) fun us s1 ⟨vs, H1, I1, r1, v, x, n1, F1, ev, ⟨a, o, ex, ho, hPC, hx⟩, g1, s1', d1, w1⟩ => ?_) h1 hpl
    subst ev ex
    obtain rfl := VR.ref w1
    obtain ⟨u, rfl, ru⟩ := r1.one
    obtain rfl : u = Value.ref a := ru
    have r2 := r.step g1 s1' d1
    obtain ⟨g, dx, od, J, hcl, hM, run⟩ := dun (A := X.A.in1) (Q := fun v H' => ∃ z : Int, v = .int z ∧ 0 ≤ z ∧ z < 2 ^ 63 ∧ Q (.int z) H') (us := []) tk ok HM I1 r2 ho hPC .nil .nil hl.symm hx fun d n3 F3 H3 v ⟨z, ed, z0, z1, h4⟩ g3 s3 d3 w4 => by
      subst ed
      simp only [Rp] at w4
      exact ⟨z, w4, z0, z1, kk _ _ _ _ _ h4 (g1.trans g3) s3 d3 (by simp [VR, Rp])⟩
    obtain ⟨mm, hF⟩ := I1.fr
    refine PySem.W.len_K hF I1.ok.mod.kin J hM.at_ hM.fn (wpAny_mono (run hgd hr.in1 I1.env0.in1) (fun w s' ⟨z, H', I', rz, i, ei, i0, i1, q⟩ => ?_) fun _ _ q => q)
    subst ei
    obtain ⟨t, rfl⟩ := (show ∃ t, w = Value.int i t from rz)
    exact ⟨⟨i0, i1⟩, .int i, H', I'.tok _, ⟨_, rfl⟩, q⟩⟩
def dStrO (PC : Addr → Prop) (c : Addr → DSpecX) (dw : DW) (ta : DTE) : DTE := fun ρ n R => ta ρ n fun x n1 => ∃ a o, x = .dat (refD a) ∧ n1.ob a = some o ∧ PC o.C ∧
  c o.C [.dat (refD a)] n1 (fun d n2 => ∃ z : Str, d = .str z ∧ R (.dat (.str z)) n2) fun ex n2 => dw ex ρ n2
theorem we_strO {e : Expr} {ta : DTE} {p pos : Pos} (tk : Takes X W) (ok : WOk Y X.K dw W) (HM : HasM X.prog X.w X.K X.mg X.base PC "__str__" k ps c) (hgd : X.A.guards = some []) (hr : Room (k + 2) X.A) (hl : ps.length = 1)
    (hg : Gl X "str") (hm : X.mg "str" = none) (he : WE Y X e ta)
    (h1 : starEach [e] X.env = (false, eval e X.env) :: starEach [] X.env := by rfl) (hpl : (backTo pos (starEach [] X.env)).any (·.1) = false := by rfl) : WE Y X (.Call (.Name "str" p) [e] [] pos) (dStrO PC c dw ta) :=
  ⟨fun pins s σ H Q I ⟨Z, F, ρ, n, R, r, h, kk⟩ => by
    refine wpAny_Call_Name_kw (ld_blt I hg hm (show bootBuiltins "str" = some (.type "str") by decide +kernel) ?_ (by decide) (by decide))
    refine PyProof.Rows.callWith_type1 (thn ((pa_cons he pa_nil h1).run pos pins s σ H (fun vs H1 => ∃ v x n1 F1, vs = [v] ∧ (∃ a o, x = .dat (refD a) ∧ n1.ob a = some o ∧ PC o.C ∧ c o.C [.dat (refD a)] n1 (fun d n2 => ∃ z : Str, d = .str z ∧ R (.dat (.str z)) n2) fun ex n2 => dw ex ρ n2) ∧ Gr Z.δ F H F1 H1 ∧ Same F1 H1 ∧ Z.δ.at_ X.K F1 H1 n1 ∧ VR X.K Z.δ F1 H1 x v) I ⟨Z, F, ρ, n, _, r, h, fun x n1 F1 H1 v hx g1 s1 d1 w1 => ⟨v, x, n1, F1, rfl, hx, g1, s1, d1, w1⟩⟩) fun us s1 ⟨vs, H1, I1, r1, v, x, n1, F1, ev, ⟨a, o, ex, ho, hPC, hx⟩, g1, s1', d1, w1⟩ => ?_) h1 hpl
    subst ev ex
    obtain rfl := VR.ref w1
    obtain ⟨u, rfl, ru⟩ := r1.one
    obtain rfl : u = Value.ref a := ru
    have r2 := r.step g1 s1' d1
    have hr2 : Room k X.A.in1.in1 := (show Room (k + 1) X.A.in1 from Room.in1 hr).in1
    obtain ⟨g, dx, od, J, hcl, hM, run⟩ := dun (A := X.A.in1.in1) (Q := fun v H' => ∃ z : Str, v = .str z ∧ Q (.str z) H') (us := []) tk ok HM I1 r2 ho hPC .nil .nil hl.symm hx fun d n3 F3 H3 v ⟨z, ed, h4⟩ g3 s3 d3 w4 => by
      subst ed
      simp only [Rp] at w4
      exact ⟨z, w4, kk _ _ _ _ _ h4 (g1.trans g3) s3 d3 (by simp [VR, Rp])⟩
    refine PySem.W.kso_call hr2.units0 I1.kIn J hM.at_ hM.fn (wpAny_mono (run hgd hr2 I1.env0.in1.in1) (fun w s' ⟨z, H', I', rz, i, ei, q⟩ => ?_) fun _ _ q => q)
    subst ei
    obtain ⟨t, rfl⟩ := (show ∃ t, w = Value.str i t from rz)
    exact ⟨.str i, H', I', ⟨_, rfl⟩, q⟩⟩
end
end DL
set_option maxHeartbeats 4000000
namespace DL
open PySem PySem.Spec PyProof.Rows L2
section
variable {X : Cx} {Y : Fx} {k : Nat} {f : Addr} {fd : FuncData} {ps : List Str} {sp : Sp} {W : WX} {dw : DW} {PC : Addr → Prop} {m : Str} {c : Addr → DSpecX}
def HasMD (P : Program) (w : World) (K : PySem.W.Frag) (mg : Str → Option Value) (base : Heap) (PC : Addr → Prop) (m : Str) (k : Nat) (ps : List Str) (c : Addr → DSpecX) : Prop :=
  ∀ C, PC C → Cls K C ∧ ∃ g fd ds, Meth K C m g ∧ Vals [V.non] ds ∧ Binds K fd ps ds ∧ FnGX P w K mg base k g fd ps (spDX K ps.length (c C))
theorem runxD {A : Around} {pins : List (Addr × Obj)} {σ : L2.St} {H : Hp} {s : Shared} {Q : VK} {E : XK} {us ds : List Value} {vs dvs : List V} (F : FnGX X.prog X.w X.K X.mg X.base k f fd ps sp) (hgd : A.guards = some []) (hr : Room k A) (e0 : Env0 X.prog X.w X.K X.mg X.base A X.stack s H) (hb : Binds X.K fd ps ds) (hd : Vals dvs ds)
    (hx : PassesAt (L2.CX X.prog X.w) X σ E) (I : Inv X pins σ H s) (r : Vals vs us) (h : sp (vs ++ dvs) H Q E) : wpAny (model X.prog X.w) A (call (.ref f) us) (EP X pins σ Q) X.xe s := by
  have r2 : Vals (vs ++ dvs) (us ++ ds) := r.append hd
  have hl : (us ++ ds).length = ps.length := by rw [← r2.length]; exact F.len _ _ _ _ h
  refine wpAny_call (codeAny_mono (F.run A X.stack s H ⟨us, []⟩ (us ++ ds) (vs ++ dvs) Q E hgd hr e0 (hb s us I.kIn hl) r2 h) fun q s' hq => ?_)
  cases q with
  | error e => exact hx pins H s e s' I hq
  | ok fl =>
    cases fl with
    | ret u => exact I.after hq
    | next => exact hq.elim
    | brk => exact hq.elim
    | cont => exact hq.elim
def dMethD (PC : Addr → Prop) (m : Str) (l : Nat) (c : Addr → DSpecX) (dw : DW) (to : DTE) (t : DTA) : DTE := fun ρ n R => to ρ n fun x n1 => ∃ a o, x = .dat (refD a) ∧ n1.ob a = some o ∧ PC o.C ∧ o.fs.lookup m = none ∧
  t ρ n1 fun as n2 => as.length + 2 = l ∧ c o.C (.dat (refD a) :: (as ++ [.dat .none])) n2 (fun d n3 => R (.dat d) n3) fun ex n3 => dw ex ρ n3
theorem we_methD0 {pl : Sem Bool} {o : Expr} {to : DTE} {apos pos : Pos} (tk : Takes X W) (ok : WOk Y X.K dw W) (HM : HasMD X.prog X.w X.K X.mg X.base PC m k ps c) (hgd : X.A.guards = some []) (hr : Room k X.A)
    (ho : WE Y X o to)
    (ht : eval (.Call (.Attribute o m apos) [] [] pos) X.env = (do
      let ov ← eval o X.env
      standAt apos.atName
      let (f, first) ← holding [ov] (getMethod ov m pl)
      callWith pos f first (backTo pos (starEach [] X.env)) (backToKw pos (keywordEach [] X.env))) := by rfl) :
    WE Y X (.Call (.Attribute o m apos) [] [] pos) (dMethD PC m ps.length c dw to dNil) :=
  ⟨fun pins s σ H Q I ⟨Z, F, ρ, n, R, r, hto, kk⟩ => by
    refine PySem.W.methodCall_KW (pl := pl) (thn (ho.run pins s σ H (fun v H1 => ∃ x n1 F1, _ ∧ Gr Z.δ F H F1 H1 ∧ Same F1 H1 ∧ Z.δ.at_ X.K F1 H1 n1 ∧ VR X.K Z.δ F1 H1 x v) I ⟨Z, F, ρ, n, _, r, hto, fun x n1 F1 H1 v hx g1 s1 d1 w1 => ⟨x, n1, F1, hx, g1, s1, d1, w1⟩⟩) fun u s1 ⟨v, H1, I1, rx, x, n1, F1, ⟨a, ob, ex, hob, hPC, hl, hlen, hx⟩, g1, s1', d1, w1⟩ => ?_) ht
    subst ex
    obtain rfl := VR.ref w1
    obtain rfl : u = Value.ref a := rx
    obtain ⟨_, dx, vs, h2, h3⟩ := d1.2.1 a ob hob
    obtain ⟨hcl, g, fd, ds, hM, hD, hB, hF⟩ := HM _ hPC
    refine getmeth_ok I1 h2 hcl hM (h3.lookup_none hl) ?_
    have r1 := r.step g1 s1' d1
    exact PySem.W.callWith_K0 (first := [.ref a]) I1.kIn hM.kp (runxD (us := [.ref a]) (vs := [.ref a]) hF hgd hr I1.env0 hB hD (passAt tk σ) I1 (.cons rfl .nil) ⟨Z.δ, F1, [.dat (refD a), .dat .none], n1, _, _, hlen, .cons vr_ref (.cons (by simp [VR, Rp]) .nil), s1', d1, r1.b.dkF, hx, fun d n3 F3 H3 v h4 g3 s3 d3 w3 => kk _ _ _ _ _ h4 (g1.trans g3) s3 d3 w3, fun ex n3 F3 H3 cls d h4 g3 s3 d3 w3 => ok _ _ _ _ _ _ _ _ _ h4 (r1.step g3 s3 d3) w3⟩)⟩
def HasMK (P : Program) (w : World) (K : PySem.W.Frag) (mg : Str → Option Value) (base : Heap) (PC : Addr → Prop) (m kw : Str) (k : Nat) (ps : List Str) (c : Addr → DSpecX) : Prop :=
  ∀ C, PC C → Cls K C ∧ ∃ g fd, Meth K C m g ∧ KBn K fd ps (ps.length - 1) [kw] (fun us ws => us ++ ws) (fun us ws => us ++ ws) ∧ FnGX P w K mg base k g fd ps (spDX K ps.length (c C))
theorem runxK {kw : Str} {A : Around} {pins : List (Addr × Obj)} {σ : L2.St} {H : Hp} {s : Shared} {Q : VK} {E : XK} {us ws : List Value} {vs zs : List V} (F : FnGX X.prog X.w X.K X.mg X.base k f fd ps sp) (hgd : A.guards = some []) (hr : Room k A) (e0 : Env0 X.prog X.w X.K X.mg X.base A X.stack s H)
    (hb : KBn X.K fd ps (ps.length - 1) [kw] (fun us ws => us ++ ws) (fun us ws => us ++ ws)) (hx : PassesAt (L2.CX X.prog X.w) X σ E) (I : Inv X pins σ H s) (r : Vals vs us) (rz : Vals zs ws) (hz : zs.length = 1) (h : sp (vs ++ zs) H Q E) : wpAny (model X.prog X.w) A (call (.ref f) us ([kw].zip ws)) (EP X pins σ Q) X.xe s := by
  have r2 : Vals (vs ++ zs) (us ++ ws) := hb.rel r rz
  have hl := F.len _ _ _ _ h
  rw [List.length_append, hz] at hl
  refine wpAny_call (codeAny_mono (F.run A X.stack s H ⟨us, [kw].zip ws⟩ (us ++ ws) (vs ++ zs) Q E hgd hr e0 (hb.to s us ws I.kIn (by rw [← r.length]; omega) (by rw [← rz.length]; exact hz)) r2 h) fun q s' hq => ?_)
  cases q with
  | error e => exact hx pins H s e s' I hq
  | ok fl =>
    cases fl with
    | ret u => exact I.after hq
    | next => exact hq.elim
    | brk => exact hq.elim
    | cont => exact hq.elim
def dMethK (PC : Addr → Prop) (m : Str) (l : Nat) (c : Addr → DSpecX) (dw : DW) (to : DTE) (t : DTA) (tv : DTE) : DTE := fun ρ n R => to ρ n fun x n1 => ∃ a o, x = .dat (refD a) ∧ n1.ob a = some o ∧ PC o.C ∧ o.fs.lookup m = none ∧
  t ρ n1 fun as n2 => tv ρ n2 fun y n3 => as.length + 2 = l ∧ c o.C (.dat (refD a) :: (as ++ [y])) n3 (fun d n4 => R (.dat d) n4) fun ex n4 => dw ex ρ n4
theorem we_methK0 {pl : Sem Bool} {kw : Str} {o ev : Expr} {to tv : DTE} {apos pos kpos : Pos} (tk : Takes X W) (ok : WOk Y X.K dw W) (HM : HasMK X.prog X.w X.K X.mg X.base PC m kw k ps c) (hgd : X.A.guards = some []) (hr : Room k X.A)
    (ho : WE Y X o to) (hv : WE Y X ev tv)
    (hall : (backToKw pos (keywordEach [⟨some kw, ev, kpos⟩] X.env)).all (·.1.isSome) = true := by rfl) (hks : (backToKw pos (keywordEach [⟨some kw, ev, kpos⟩] X.env)).filterMap (·.1) = [kw] := by rfl)
    (hpl : ((backTo pos (starEach [] X.env)).any (·.1) || (backToKw pos (keywordEach [⟨some kw, ev, kpos⟩] X.env)).any (·.1.isNone)) = false := by rfl)
    (ht : eval (.Call (.Attribute o m apos) [] [⟨some kw, ev, kpos⟩] pos) X.env = (do
      let ov ← eval o X.env
      standAt apos.atName
      let (f, first) ← holding [ov] (getMethod ov m pl)
      callWith pos f first (backTo pos (starEach [] X.env)) (backToKw pos (keywordEach [⟨some kw, ev, kpos⟩] X.env))) := by rfl) :
    WE Y X (.Call (.Attribute o m apos) [] [⟨some kw, ev, kpos⟩] pos) (dMethK PC m ps.length c dw to dNil tv) :=
  ⟨fun pins s σ H Q I ⟨Z, F, ρ, n, R, r, hto, kk⟩ => by
    refine PySem.W.methodCall_KW (pl := pl) (thn (ho.run pins s σ H (fun v H1 => ∃ x n1 F1, _ ∧ Gr Z.δ F H F1 H1 ∧ Same F1 H1 ∧ Z.δ.at_ X.K F1 H1 n1 ∧ VR X.K Z.δ F1 H1 x v) I ⟨Z, F, ρ, n, _, r, hto, fun x n1 F1 H1 v hx g1 s1 d1 w1 => ⟨x, n1, F1, hx, g1, s1, d1, w1⟩⟩) fun u s1 ⟨v, H1, I1, rx, x, n1, F1, ⟨a, ob, ex, hob, hPC, hl, hta⟩, g1, s1', d1, w1⟩ => ?_) ht
    subst ex
    obtain rfl := VR.ref w1
    obtain rfl : u = Value.ref a := rx
    obtain ⟨_, dx, vs, h2, h3⟩ := d1.2.1 a ob hob
    obtain ⟨hcl, g, fd, hM, hB, hF⟩ := HM _ hPC
    refine getmeth_ok I1 h2 hcl hM (h3.lookup_none hl) ?_
    have r1 := r.step g1 s1' d1
    refine PySem.W.callWith_KW0 (first := [.ref a]) (h₀ := X.base) I.ok.mod.kin hM.kp hall ?_ hpl
    refine thn ((pk_cons hv pk_nil).run pos pins s1 σ H1 (fun zs H3 => zs.length = 1 ∧ spDX X.K ps.length (c ob.C) ([.ref a] ++ zs) H3 Q (L2.WE W σ)) I1 ⟨Z, F1, ρ, n1, _, r1, hta, fun y n3 F3 H3 v ⟨hlen, hx⟩ g3 s3 d3 w3 => ⟨rfl, ?_⟩⟩) fun ws s3 ⟨zs, H3, I3, rz, hz, q3⟩ => ⟨I3.kIn, ?_⟩
    · have r3 := r1.step g3 s3 d3
      exact ⟨Z.δ, F3, [.dat (refD a), y], n3, _, _, hlen, .cons vr_ref (.cons w3 .nil), s3, d3, r3.b.dkF, hx, fun d n4 F4 H4 v h4 g4 s4 d4 w5 => kk _ _ _ _ _ h4 ((g1.trans g3).trans g4) s4 d4 w5, fun ex n4 F4 H4 cls d h4 g4 s4 d4 w5 => ok _ _ _ _ _ _ _ _ _ h4 (r3.step g4 s4 d4) w5⟩
    · rw [hks]
      exact runxK (us := [.ref a]) (vs := [.ref a]) hF hgd hr I3.env0 hB (passAt tk σ) I3 (.cons rfl .nil) rz hz q3⟩
def oKD (K : PySem.W.Frag) (d : Addr) : D2 := fun x y R => ∃ (z : Str) (g : Addr), x = .dat (refD d) ∧ y = .dat (.str z) ∧ PySem.W.nsIn K d z = some (some (.ref g)) ∧ R (refD g)
theorem we_kd {d : Addr} {es : Array DictEntry} {n : Nat} {a b : Expr} {ta tb : DTE} {pos : Pos} (D : KDict X.K X.w d es n) (ha : WE Y X a ta) (hb : WE Y X b tb) (hs : PlainIx b := by intro _ _; rfl) : WE Y X (.Subscript a b pos) (dBin (oKD X.K d) ta tb) :=
  ⟨fun pins s σ H Q I ⟨Z, F, ρ, n, R, r, h, kk⟩ => Subscript_ (two_run ha hb I r h fun v u s2 x y xv yv n2 F2 H2 I2 rx ry ⟨z, g, ex, ey, hg, hR⟩ g2 s2' d2 w2 w3 => by
    subst ex ey
    obtain rfl := VR.ref w2
    simp only [VR, Rp] at w3
    subst w3
    obtain rfl : v = Value.ref d := rx
    refine wpAny_mono (tail_any (kd_type D I2) (PySem.F.slot_dict_getitem).lookup (op_item_kd D pins s2 σ H2 (.ref d) (.str z) (.ref d) u (fun v H' => v = .ref g ∧ H' = H2) I2 rfl ry ⟨z, .ref g, .ref g, rfl, rfl, hg, rfl, rfl, rfl⟩) (hs _ _)) (fun w s' ⟨zz, H', I', rz, e1, e2⟩ => ?_) fun _ _ q => q
    subst e1 e2
    exact ⟨.ref g, H', I', rz, kk _ _ _ _ _ hR g2 s2' d2 vr_ref⟩)⟩
def dCallR (i : Nat) (S : Addr → DSpecX → Prop) (l : Nat) (dw : DW) (t : DTA) : DTE := fun ρ n R => ∃ g c, ρ[i]? = some (some (.dat (refD g))) ∧ S g c ∧ t ρ n fun as n1 => as.length = l ∧ c as n1 (fun d n2 => R (.dat d) n2) fun ex n2 => dw ex ρ n2
theorem we_callR {m : Nat} {S : Addr → DSpecX → Prop} {i : Nat} {x : Str} {p pos : Pos} {e : Expr} {es : List Expr} {t : DTA} (tk : Takes X W) (ok : WOk Y X.K dw W) (hS : ∀ g c, S g c → PySem.W.keepIn X.K (.ref g) = true ∧ ∃ fd ps, Binds X.K fd ps [] ∧ FnGX X.prog X.w X.K X.mg X.base k g fd ps (spDX X.K m c)) (hgd : X.A.guards = some []) (hr : Room k X.A)
    (hN : X.N[i]? = some x) (hv : Vis X.env.scope x) (ha : WA Y X (e :: es) t) (hdb : (x == ("__debug__" : Str)) = false := by decide) (hcd : (x == ("__classdict__" : Str)) = false := by decide)
    (he : starEach (e :: es) X.env = (false, eval e X.env) :: starEach es X.env := by rfl) (hpl : (backTo pos (starEach es X.env)).any (·.1) = false := by rfl) : WE Y X (.Call (.Name x p) (e :: es) [] pos) (dCallR i S m dw t) :=
  ⟨fun pins s σ H Q I ⟨Z, F, ρ, n, R, r, ⟨g, c, hi, hSc, ht⟩, kk⟩ => by
    obtain ⟨v, e1, e2⟩ := r.slot i _ hi
    obtain rfl := VR.ref (K := X.K) (δ := Z.δ) (F := F) (H := H) e2
    obtain ⟨hk, fd, ps, hb, hF⟩ := hS g c hSc
    refine wpAny_Call_Name_kw (thn ((pe_var (pos := p) hN hv hdb hcd).run pins s σ H (fun v H1 => v = .ref g ∧ H1 = H) I ⟨.ref g, e1, rfl, rfl⟩) fun u s1 ⟨v, H1, I1, r1, q1⟩ => ?_)
    obtain ⟨rfl, rfl⟩ := q1
    cases r1
    refine PySem.W.callWith_K (h₀ := X.base) I.ok.mod.kin hk (thn (ha.run pos pins s1 σ _ _ I1 (callX_im ok σ _ Q ⟨Z, F, ρ, n, R, r, ht, kk⟩)) fun us s2 ⟨vs, H2, I2, rr, q⟩ => ⟨I2.kIn, runxA hF hgd hr I2.env0 hb (passAt tk σ) I2 rr q⟩) he hpl⟩
end
end DL
set_option maxHeartbeats 4000000
namespace DL
open PySem PySem.Spec PyProof.Rows L2
section
variable {X : Cx} {Y : Fx}
/-- a global name that stands for an object -/
theorem we_gref {x : Str} {a : Addr} {pos : Pos} (hg : Gl X x) (hm : X.mg x = some (.ref a)) (hd : (x == ("__debug__" : Str)) = false := by decide) : WE Y X (.Name x pos) (dC (refD a)) :=
  pe_imp (pe_glob (v := .ref a) hg hm rfl hd) fun σ H Q ⟨Z, F, ρ, n, R, r, h, k⟩ => k _ _ F H _ h Gr.refl r.b.sub r.b.dk vr_ref
end
theorem hs_of {P : Program} {w : World} {K : PySem.W.Frag} {mg : Str → Option Value} {base : Heap} {x : Str} {j k : Nat} {ps : List Str} {c : DSpecX} {g : Addr} (h : mg x = some (.ref g)) (H : HasX P w K mg base x j ps c) (hj : j ≤ k) : PySem.W.keepIn K (.ref g) = true ∧ ∃ fd ps', Binds K fd ps' [] ∧ FnGX P w K mg base k g fd ps' (spDX K ps.length c) := by
  obtain ⟨f, fd, h1, h2, h3, h4⟩ := H
  rw [h] at h1
  cases h1
  exact ⟨h2, fd, ps, h3, h4.mono hj⟩
theorem bindsD_mk {P : Program} {K : PySem.W.Frag} {x qual : Str} {params : Arguments} {body : List Stmt} {scope : Scope} {f : Addr} {fd : FuncData} {ps : List Str} {kw : Str} (F : FunD K x qual params body scope [] [(kw, V.non)] f fd) (n : Nat) (hn : n + 1 = ps.length)
    (h : ∀ (D : Addr) (doc pm : Value) (an : Option Addr) (cdv ct : Value) (us ks : List Value), us.length = n → ks.length = 1 →
      KwChain D (([kw]).zip ks) (bindArgs (PySem.W.fnOf x qual params body scope .none (.ref D) doc pm an cdv ct) ⟨us, []⟩) (ps.zip (us ++ ks))) : ∃ ds, Vals [V.non] ds ∧ Binds K fd ps ds :=
  FunD.binds0 F n (by simp) hn h
theorem kbn_mk {K : PySem.W.Frag} {x qual : Str} {params : Arguments} {body : List Stmt} {scope : Scope} {f : Addr} {fd : FuncData} {ps : List Str} {kw : Str} (F : FunD K x qual params body scope [] [(kw, V.non)] f fd) (n : Nat)
    (h : ∀ (D : Addr) (doc pm : Value) (an : Option Addr) (cdv ct : Value) (us ws : List Value), us.length = n → ws.length = 1 →
      bindArgs (PySem.W.fnOf x qual params body scope .none (.ref D) doc pm an cdv ct) ⟨us, [kw].zip ws⟩ = pure (ps.zip (us ++ ws))) : KBn K fd ps n [kw] (fun us ws => us ++ ws) (fun us ws => us ++ ws) := by
  obtain ⟨oc, od, dV, kV, doc, pm, an, cdv, ct, osl, rfl, lk, hcd, hD, hK⟩ := F.ex
  rcases hD with ⟨_, rfl⟩ | ⟨e, _⟩
  · rcases hK with e | ⟨D, rfl, hq⟩
    · cases e
    · exact ⟨fun s us ws X l1 l2 => BindsTo.of_looks fun M => PySem.W.Looks.of_pure (h D doc pm an cdv ct us ws l1 l2), fun r1 r2 => r1.append r2⟩
  · exact absurd rfl e
theorem funD_mk {K : PySem.W.Frag} {x qual kw : Str} {st : Stmt} {f D : Addr} {oc doc pm cd ct : Value} {od an : Option Addr} {sl : Array (Option Value)} (l : K.lookup f = some ⟨oc, od, .func (PySem.W.fnOf x qual (defArgs st) (defBody st) (defScope st) .none (.ref D) doc pm an cd ct), sl⟩)
    (c : PySem.W.codeIn K cd qual = true) (k : PySem.W.keepIn K (.ref f) = true) (hd : PySem.W.nsIn K D kw = some (some .none)) : FunD K x qual (defArgs st) (defBody st) (defScope st) [] [(kw, V.non)] f (PySem.W.fnOf x qual (defArgs st) (defBody st) (defScope st) .none (.ref D) doc pm an cd ct) :=
  ⟨⟨oc, od, _, _, doc, pm, an, cd, ct, sl, rfl, l, c, .inl ⟨rfl, rfl⟩, .inr ⟨D, rfl, fun q hq => by
    obtain rfl := List.mem_singleton.mp hq
    exact ⟨.none, hd, rfl⟩⟩⟩, k⟩
end DL
set_option maxHeartbeats 4000000
namespace LkE
open PySem PySem.W PySem.Calls PyProof.Rows PySem.HandSPX
open Builtin Builtin.ObjectAttr
abbrev leT : List Value := [.type "LookupError", .type "Exception", .type "BaseException", .type "object"]
abbrev bare (C : Addr) (od : Option Addr) (fv : Array Value) : Obj := { cls := .ref C, dict := od, data := .fields fv }
section
variable {prog : Program} {w : World} {A : Around} {E : Value → Shared → Prop} {R : Result → Shared → Prop} {hp : Heap} {g : Array GenState} {d : Drawn} {t : Nat} {os : OsState}
theorem mro_pass (me : Value) (C : Addr) : refuseLoop me "__setattr__" (.ref C :: leT) = pure () := (refuseLoop_ref ..).trans (F.store_LookupError.passes me)
/-- what behind object.__setattr__ stands for such an error: its own dict is made -/
theorem own_store {name : Str} {tk : Tok} {v : Value} {x C : Addr} {fv : Array Value} {K : Frag} {cd : ClassData} (X : K.In hp) (hx : hp.get? x = some (bare C none fv)) (hc : clsIn K C = some cd) (hd : cd.hasDict = true) {Q : Fin → Shared → Prop}
    (hq : ∀ h' tk' dx, (∀ b o, b ≠ x → hp.get? b = some o → h'.get? b = some o) → hp.objs.size ≤ dx → dx ≠ x → h'.get? x = some (bare C (some dx) fv) → h'.Ns1 dx (fun y => if y = name then some v else none) → Q (.done (.ret .none)) ⟨h', g, d, tk', os⟩) :
    wpAny (model prog w) A (storeInOwnDict (.ref x) (.ref C) (.str name tk) name v false) Q E ⟨hp, g, d, t, os⟩ := by
  have see : Looks (model prog w) hp (classData C) cd := looks_clsIn X hc
  have far : hp.objs.size ≠ x := Ne.symm (Nat.ne_of_lt (Heap.lt_size hx))
  cases cd with | mk a1 a2 a3 a4 a5 has a7 a8 a9 a10 a11 =>
  have hd : has = true := hd
  cases hd
  unfold storeInOwnDict ownDictForStores
  repeat (first | with_reducible refine store_in_new ?_ ?_ | with_reducible refine wpAny_loadPart_at hx ?_ | with_reducible refine see.at ?_ | wp_step)
  · refine ⟨_, #[], _, (Heap.get?_update_ne _ _ _ _ far).trans (Heap.get?_push_at rfl rfl), rfl, ?_, fun _ => rfl⟩
    intro e he
    simp at he
  · intro h' tk' fresh same
    have there : (hp.push { cls := .type "dict", data := .dict #[] }).get? x = some (bare C none fv) := Heap.get?_push_of_some _ hx
    refine hq h' tk' _ (fun b o nb old => ?_) (Nat.le_refl _) far ((same.2 x far.symm).trans (Heap.get?_update_self _ there rfl)) fresh
    have nb2 : b ≠ hp.objs.size := Nat.ne_of_lt (Heap.lt_size old)
    rw [same.2 b nb2, Heap.get?_update_ne _ _ _ _ nb]
    exact Heap.get?_push_of_some _ old
theorem osaL {K : Frag} {name : Str} {tk : Tok} {v : Value} {x C : Addr} {fv : Array Value} {cd : ClassData} (X : K.In hp) (hx : hp.get? x = some (bare C none fv)) (hc : clsIn K C = some cd) (hm : cd.mro = .ref C :: leT) (hd : cd.hasDict = true) (hf : findIn K (.ref C) name = some none)
    (hq : ∀ h' tk' dx, (∀ b o, b ≠ x → hp.get? b = some o → h'.get? b = some o) → hp.objs.size ≤ dx → dx ≠ x → h'.get? x = some (bare C (some dx) fv) → h'.Ns1 dx (fun y => if y = name then some v else none) → R (.ok (.ret .none)) ⟨h', g, d, tk', os⟩) :
    codeAny (model prog w) A (.call (.builtin "object.__setattr__") ⟨[.ref x, .str name tk, v], []⟩) R ⟨hp, g, d, t, os⟩ := by
  have me : InstAt hp x (bare C none fv) C none := ⟨hx, rfl, rfl, trivial⟩
  have row : Looks (model prog w) hp (mroOf (.ref C)) cd.mro := (looks_clsIn X hc).andThen .now
  have isO : Looks (model prog w) hp (isInstance (.ref x) (.type "object")) true := me.type.andThen (looks_mroIn X (by
    unfold mroIn
    rw [hc, Option.bind_some, hm, if_neg (by simp [leT])]
    rfl))
  have S := F.store_object
  refine codeAny_call_builtin S.slot.plain S.entry (@check_slot (model prog w) _ _ ⟨hp, g, d, t, os⟩ "object.__setattr__" "object" "__setattr__" (.ref x) [.str name tk, v] [] _ S.kind S.split isO (S.args _ _ _) ?_)
  rw [osa_eq, refuse_eq]
  refine wpAny_bind (wpAny_bind (me.type.at (wpAny_bind (row.at ?_))))
  rw [hm, mro_pass]
  have noTaker : Looks (model prog w) hp (storeTaker? none) none := .now
  exact wpAny_pure (wpAny_bind (me.type.at (wpAny_bind ((looks_findIn X hf).at (wpAny_bind (noTaker.at (own_store X hx hc hd hq)))))))
end
end LkE
namespace DL
open PySem PySem.Spec PyProof.Rows L2 LkE
/-- what the written part says of such a class -/
structure OexL (K : PySem.W.Frag) (C : Addr) : Prop where
  row : ∃ nm q N bs sn sub ab col dd k0 k1 k2 k3 k5, K.lookup C = some (excClassObj nm q C N bs leT true sn sub ab col dd k0 k1 k2 k3 k5 "LookupError.__new__")
  sa : PySem.W.findIn K (.ref C) "__setattr__" = some (some (.builtin "object.__setattr__"))
  sb : PySem.W.subIn K (.ref C) (.type "BaseException") = some true
  ty : PySem.W.typeIn K (.ref C) = some (.type "type")
  kp : PySem.W.keepIn K (.ref C) = true
section
variable {X : Cx} {Y : Fx} {dw : DW} {W : WX} {pins : List (Addr × Obj)} {σ : L2.St} {H : Hp} {s : Shared} {a C : Addr} {f : Str} {y : V} {u : Value}
/-- its only field is stored -/
theorem ostL {A : Around} {E : Value → Shared → Prop} {Q : Unit → Shared → Prop} (T : OexL X.K C) (I : Inv X pins σ H s) (e : H a = some (exo a C none)) (hf : PySem.W.findIn X.K (.ref C) f = some none) (ry : RelV y u)
    (h : ∀ dx s', H dx = none → dx ≠ a → Inv X pins σ (upd (upd H dx (exd dx [(f, y)])) a (exo a C (some dx))) s' → Q () s') : wpAny (model X.prog X.w) A (setAttr (.ref a) f u) Q E s := by
  obtain ⟨nm, q, N, bs, sn, sub, ab, col, dd, k0, k1, k2, k3, k5, hC⟩ := T.row
  obtain ⟨t1, ho⟩ := exo_at I.hok e
  have hcl : PySem.W.clsIn X.K C = some ⟨nm, bs, .ref C :: leT, N, q, true, sn, sub, ab, col, false⟩ := by unfold PySem.W.clsIn; rw [hC] <;> rfl
  cases s with | mk hp g d t os =>
  refine PySem.W.set_plain (od := none) I.kIn ⟨ho, rfl, rfl, trivial⟩ T.sa (osaL I.kIn ho hcl rfl rfl hf fun h' tk' dx same big off at_ new => ?_)
  have nx : H dx = none := I.hok.fresh big
  have isnt : ∀ {b : Addr}, H b = none → b ≠ a := fun {b} z e2 => by subst e2; rw [e] at z; cases z
  have low : ∀ {b : Addr} {o : Obj}, hp.get? b = some o → b ≠ dx := fun z => Nat.ne_of_lt (Nat.lt_of_lt_of_le (Heap.lt_size z) big)
  have two : ∀ {b : Addr}, b ≠ a → b ≠ dx → (upd (upd H dx (exd dx [(f, y)])) a (exo a C (some dx))) b = H b := fun p1 p2 => by rw [upd_ne p1, upd_ne p2]
  have U : Un X.fs [] H (upd (upd H dx (exd dx [(f, y)])) a (exo a C (some dx))) hp h' :=
    ⟨fun b o z n _ _ => same b o (isnt n) z, fun b o z n _ _ => ⟨o.slots, same b o (isnt n) z⟩, fun b o z n _ => (two (isnt n) (low z)).trans n,
      fun b o z _ => (Decidable.em (b = a)).elim (fun p => ⟨_, p ▸ at_⟩) fun p => ⟨o, same b o p z⟩,
      fun b xs z => (two (at_ne e z exo_tup) (ne_of_none z nx)).trans z, fun b o v z => (two (at_ne e z exo_frz) (ne_of_none z nx)).trans z,
      fun b ps z => ⟨#[], by rw [two (at_ne e z exo_tbl) (ne_of_none z nx), z]; simp⟩⟩
  refine h dx _ nx off (I.un (t' := tk') U fun b o z => ?_)
  by_cases p1 : b = a
  · subst p1
    have z : some _ = some o := upd_same.symm.trans z
    cases z
    exact exo_ok at_
  by_cases p2 : b = dx
  · subst p2
    rw [upd_ne p1] at z
    have z : some _ = some o := upd_same.symm.trans z
    cases z
    exact exd_ok new (relO_put (fs := []) ry fun g => True.intro)
  rw [two p1 p2] at z
  refine (I.hok b o z).stay (fun c v hc zz => same c v ?_ zz) (fun c hc => (two (at_ne e hc exo_own) (ne_of_none hc nx)).trans hc) fun c xs hc => (two (at_ne e hc exo_tup) (ne_of_none hc nx)).trans hc
  rcases hc with hc | hc
  · rw [hc]; exact p1
  · exact at_ne e hc exo_own
def tOsL (K : PySem.W.Frag) (f : Str) (to te : TE) : TS := fun D σ H => te σ H fun y H1 => to σ H1 fun x H2 => ∃ a C : Addr, x = .ref a ∧ OexL K C ∧ PySem.W.findIn K (.ref C) f = some none ∧
  H2 a = some (exo a C none) ∧ ∀ dx, H2 dx = none → dx ≠ a → D.nx σ (upd (upd H2 dx (exd dx [(f, y)])) a (exo a C (some dx)))
theorem ps_osL {o e : Expr} {to te : TE} {p' pos : Pos} (ho : PE X o to) (he : PE X e te) (hs : swapsWith e (some (.Attribute o f p')) pos.line X.env = pure false := by rfl) : PS X (.Assign [.Attribute o f p'] e pos) (tOsL X.K f to te) :=
  ⟨fun pins s σ H D I h => plainObj_wpAny_Assign_Attribute (thn (he.run pins s σ H _ I h) fun v s1 ⟨y, H1, I1, r1, q1⟩ => thn (ho.run pins s1 σ H1 _ I1 q1) fun u s2 ⟨x, H2, I2, r2, a, C, ex, T, hno, ea, q⟩ => by
    subst ex
    obtain rfl : u = Value.ref a := r2
    exact ostL T I2 ea hno r1 fun dx s' n ne J => ⟨σ, _, J, q dx n ne⟩) hs⟩
/-- C(e) -/
theorem pmkL {x : Str} {C fI : Addr} {k : Nat} {fd : FuncData} {ps : List Str} {sp : Sp} {e : Expr} {es : List Expr} {ta : TA} {p pos : Pos} (T : OexL X.K C) (iC : PySem.W.findIn X.K (.ref C) "__init__" = some (some (.ref fI))) (tI : PySem.W.typeIn X.K (.ref fI) = some (.type "function"))
    (F1 : FnOk X.prog X.w X.K X.mg X.base CX0 k fI fd ps sp) (hr : Room (k + 1) X.A) (hb : Binds X.K fd ps []) (hx : Passes CX0 X (fun _ _ _ => False)) (hg : Gl X x) (hm : X.mg x = some (.ref C)) (ha : PA X (e :: es) ta)
    (hdb : (x == ("__debug__" : Str)) = false := by decide) (he : starEach (e :: es) X.env = (false, eval e X.env) :: starEach es X.env := by rfl) (hpl : (backTo pos (starEach es X.env)).any (·.1) = false := by rfl) :
    PMk X (.Call (.Name x p) (e :: es) [] pos) (tMkO C sp [] ta) := fun pins s σ H Q I h => by
  obtain ⟨nm, q, N, bs, sn, sub, ab, col, dd, k0, k1, k2, k3, k5, hC⟩ := T.row
  refine wpAny_Call_Name_kw (ld_glob I hg hm (PySem.W.callWith_K (h₀ := X.base) I.ok.mod.kin T.kp (thn (ha.run pos pins s σ H _ I h) fun us s1 ⟨vs, H1, I1, r1, hz, q1⟩ => ⟨I1.kIn, ?_⟩) he hpl) hdb)
  cases s1 with | mk hp g dr tk os =>
  have q2 := q1 (hp.objs.size + 1) (I1.hok.fresh (Nat.le_succ _))
  rw [List.append_nil] at q2
  let G := (hp.push (PySem.W.kdv_tup us)).push (PySem.HandSPX.excO C hp.objs.size)
  have old : ∀ b o, hp.get? b = some o → G.get? b = some o := fun b o z => Heap.get?_push_of_some _ (Heap.get?_push_of_some _ z)
  have new : G.get? (hp.objs.size + 1) = some (PySem.HandSPX.excO C hp.objs.size) := by heap_get
  have I2 : Inv X pins σ (upd H1 (hp.objs.size + 1) (exo (hp.objs.size + 1) C none)) ⟨G, g, dr, tk, os⟩ := I1.laid (t' := tk) old (Nat.le_succ _) (exo_ok new)
  have r2 : Vals (V.ref (hp.objs.size + 1) :: vs) (Value.ref (hp.objs.size + 1) :: us) := .cons rfl r1
  have hl : (Value.ref (hp.objs.size + 1) :: us ++ []).length = ps.length := by
    rw [List.append_nil, ← r2.length]
    exact F1.len _ _ _ _ q2
  have hB := hb ⟨G, g, dr, tk, os⟩ (Value.ref (hp.objs.size + 1) :: us) I2.kIn hl
  rw [List.append_nil] at hB
  have hus : us.length ≤ sizeLine := by
    rw [← Paired.length r1, sizeLine_eq]
    omega
  refine wpAny_call (PySem.HandSPX.call_own F.excBase_LookupError (fun _ => rfl) (I1.kIn _ _ hC) (PySem.W.looks_findIn I1.kIn iC) (fun me => PySem.W.bind_fn I1.kIn me tI) hus (codeAny_mono
    (F1.run _ X.stack _ _ ⟨Value.ref (hp.objs.size + 1) :: us, []⟩ _ _ _ (fun _ _ _ => False) (hr.make C us []) (I2.env0.make C us []) hB r2 q2) fun r s' hq => ?_))
  cases r with
  | error er => exact hx pins σ _ _ er s' I2 hq
  | ok fl =>
    cases fl with
    | ret u =>
      obtain ⟨v, H2, os2, bare2, un2, hok2, rv, ev, d, fs, ea, ed, hd1, q3⟩ := hq
      subst ev
      cases s' with | mk h2 g2 d2 t2 os' =>
      exact ⟨rv, mk_end (raises_own T.sb T.ty) I1 (Nat.le_succ _) old un2 hok2 os2 bare2 ea ed hd1 q3⟩
    | next => exact hq.elim
    | brk => exact hq.elim
    | cont => exact hq.elim
structure ErrL (P : Program) (w : World) (K : PySem.W.Frag) (mg : Str → Option Value) (base : Heap) (x : Str) (C : Addr) (f : Str) : Prop where
  g : mg x = some (.ref C)
  T : OexL K C
  i : ∃ fI fd ps, PySem.W.findIn K (.ref C) "__init__" = some (some (.ref fI)) ∧ PySem.W.typeIn K (.ref fI) = some (.type "function") ∧ FnOk P w K mg base CX0 1 fI fd ps (spEI C f) ∧ Binds K fd ps []
theorem ds_raiseL {C : Addr} {x f : Str} {e : Expr} {t : DTE} {p pos pos2 : Pos} (hc : X.calm = true) (tk : Takes X W) (ok : WOk Y X.K dw W) (T : ErrL X.prog X.w X.K X.mg X.base x C f) (hr : Room 2 X.A) (hg : Gl X x) (ha : WE Y X e t)
    (hdb : (x == ("__debug__" : Str)) = false := by decide) (he : starEach [e] X.env = (false, eval e X.env) :: starEach [] X.env := by rfl) (hpl : (backTo pos (starEach [] X.env)).any (·.1) = false := by rfl) :
    DS Y X (.Raise (some (.Call (.Name x p) [e] [] pos)) none pos2) (dRaise C f dw t) := by
  obtain ⟨fI, fd, ps, i1, i2, i3, i4⟩ := T.i
  refine ps_imp (ps_raise hc tk (pmkL (k := 1) T.T i1 i2 i3 hr i4 pass0 hg T.g (pa_cons ha pa_nil he) hdb he hpl)) fun D σ H ⟨Z, F, ρ, n, E, r, ht, k⟩ => ?_
  refine ⟨Z, F, ρ, n, _, r, ht, fun y n1 F1 H1 v hy g1 s1 d1 w1 => ?_⟩
  obtain ⟨d, rfl, hy⟩ := needD_is hy
  refine ⟨(by decide : 1 ≤ 1000), fun a ha => ⟨a, v, rfl, upd_same, fun dx h1 h2 => ?_⟩⟩
  have hd1 : H1 dx = none := by rw [upd_ne h2] at h1; exact h1
  refine ⟨rfl, dx, [(f, v)], upd_same, by rw [upd_ne h2]; exact upd_same, hd1, ?_⟩
  rw [heap_back ha h2]
  have r1 := r.step g1 s1 d1
  obtain ⟨g2, s2⟩ := Gp.new (o := .xd [(f, v)]) hd1 s1
  exact ok _ _ _ _ _ _ _ _ _ hy (r1.step g2.gr s2 (g2.dk r1.b)) ⟨rfl, .inr ⟨dx, _, rfl, upd_same, .cons ⟨rfl, Rp.mono g2.sF d v w1⟩ .nil⟩⟩
end
end DL
set_option maxHeartbeats 4000000
namespace DL
open PySem PySem.Spec PyProof.Rows L2
section
variable {X : Cx} {Y : Fx}
/-- {i} of an f-string, an int -/
def dFmtI (t : DTE) : DTE := fun ρ n R => t ρ n fun x n1 => ∃ i : Int, x = .dat (.int i) ∧ i.natAbs.log2 < 1920 ∧ R (.dat (.str (toString i))) n1
theorem we_fmtI {e : Expr} {t : DTE} {pos : Pos} (h : WE Y X e t) : WE Y X (.FormattedValue e (-1) none pos) (dFmtI t) :=
  pe_imp (pe_fmt h) fun σ H Q ⟨Z, F, ρ, n, R, r, ht, k⟩ => ⟨Z, F, ρ, n, _, r, ht, fun x n1 F1 H1 v ⟨i, e1, hl, hx⟩ g1 s1 d1 w1 => by
    subst e1
    simp only [VR, Rp] at w1
    subst w1
    exact .inr ⟨i, rfl, hl, k _ _ _ _ _ hx g1 s1 d1 (by simp [VR, Rp])⟩⟩
end
end DL
set_option maxHeartbeats 4000000
set_option maxHeartbeats 4000000
namespace DL
open PySem PySem.Spec PyProof.Rows L2
inductive Tst (X : Cx) : Expr → (Value → Option Bool) → Prop
  | one {x : Str} {c : Value} {np : Pos} (h : Names X x c) : Tst X (.Name x np) (fun cls => PySem.W.exmOne X.K cls c)
  | two {x1 x2 : Str} {c1 c2 : Value} {p1 p2 tp : Pos} {kk} (h1 : Names X x1 c1) (h2 : Names X x2 c2) : Tst X (.Tuple [.Name x1 p1, .Name x2 p2] kk tp) (fun cls => PySem.W.exmAny X.K cls [c1, c2])
  | three {x1 x2 x3 : Str} {c1 c2 c3 : Value} {p1 p2 p3 tp : Pos} {kk} (h1 : Names X x1 c1) (h2 : Names X x2 c2) (h3 : Names X x3 c3) : Tst X (.Tuple [.Name x1 p1, .Name x2 p2, .Name x3 p3] kk tp) (fun cls => PySem.W.exmAny X.K cls [c1, c2, c3])
section
variable {X : Cx}
theorem ld_names {X : Cx} {E : Value → Shared → Prop} {pins : List (Addr × Obj)} {s : Shared} {σ : L2.St} {H : Hp} {x : Str} {c : Value} {pos : Pos} {Q : Value → Shared → Prop} (I : Inv X pins σ H s) (hc : Names X x c) (h : Q c s) : wpAny (model X.prog X.w) X.A (eval (.Name x pos) X.env) Q E s := by
  obtain ⟨hg, hdbg, hm | ⟨hm, hv, hnn⟩⟩ := hc
  · exact ld_glob I hg hm h hdbg
  · exact ld_blt I hg hm hv h hnn hdbg
theorem Tst.run {t : Expr} {f : Value → Option Bool} (T : Tst X t f) {a : Addr} {pn : List (Addr × Obj)} {pins : List (Addr × Obj)} {σ : L2.St} {H : Hp} {s : Shared} {cls : Value} {b : Bool} {Q : Bool → Shared → Prop} {E : Value → Shared → Prop} (I : Inv (X.suite a pn) pins σ H s)
    (LT : PySem.W.Looks (model X.prog X.w) s.heap (typeOf (.ref a)) cls) (hb : f cls = some b) (q : ∀ h', (∀ q o, s.heap.get? q = some o → h'.get? q = some o) → Q b { s with heap := h' }) :
    wpAny (model X.prog X.w) (X.A.mark (some (.ref a))) (eval t X.env) (fun c s₁ => wpAny (model X.prog X.w) (X.A.mark (some (.ref a))) (excMatches (.ref a) c) Q E s₁) E s := by
  have ld : ∀ {E : Value → Shared → Prop} {x : Str} {c : Value} {p : Pos} {Q : Value → Shared → Prop}, Names X x c → Q c s → wpAny (model X.prog X.w) (X.A.mark (some (.ref a))) (eval (.Name x p) X.env) Q E s := fun h q => ld_names (X := X.suite a pn) I h q
  cases T with
  | one h => exact ld h ((PySem.W.exm_one I.kIn LT hb).here (q _ fun _ _ z => z))
  | @two x1 x2 c1 c2 p1 p2 tp kk h1 h2 =>
    refine wpAny_Tuple ?_
    refine wpAny_items_cons (ld h1 ?_)
    refine wpAny_items_cons (ld h2 ?_)
    refine wpAny_items_nil ⟨by size_fits, ?_⟩
    have kp : ∀ q o, s.heap.get? q = some o → (s.heap.push { cls := .type "tuple", data := .seq [c1, c2].toArray }).get? q = some o := fun _ _ z => Heap.get?_push_of_some _ z
    exact (PySem.W.exm_tup2 (I.kIn.keeps kp) (LT.keeps kp) (Heap.get?_push_size s.heap rfl) hb).here (q _ kp)
  | @three x1 x2 x3 c1 c2 c3 p1 p2 p3 tp kk h1 h2 h3 =>
    refine wpAny_Tuple ?_
    refine wpAny_items_cons (ld h1 ?_)
    refine wpAny_items_cons (ld h2 ?_)
    refine wpAny_items_cons (ld h3 ?_)
    refine wpAny_items_nil ⟨by size_fits, ?_⟩
    have kp : ∀ q o, s.heap.get? q = some o → (s.heap.push { cls := .type "tuple", data := .seq [c1, c2, c3].toArray }).get? q = some o := fun _ _ z => Heap.get?_push_of_some _ z
    exact (PySem.W.exm_tup3 (I.kIn.keeps kp) (LT.keeps kp) (Heap.get?_push_size s.heap rfl) hb).here (q _ kp)
structure Cz where
  f : Value → Option Bool
  i : Option Nat
  ts : Addr → Value → Option Addr → TS
variable {body : List Stmt} {h₀ : ExceptHandler} {hds : List ExceptHandler} {l : List Cz} {pos : Pos} {tb : WX → TS} {Wout : WX}
end
end DL
set_option maxHeartbeats 4000000
set_option maxHeartbeats 4000000
set_option maxHeartbeats 4000000
set_option maxHeartbeats 4000000
namespace DL
open PySem PySem.Spec PyProof.Rows L2
section
variable {X : Cx} {Y : Fx} {W : WX} {dw : DW} {PC : Addr → Prop} {k : Nat} {ps : List Str} {c : Addr → DSpecX}
theorem nf_same {K : PySem.W.Frag} {C : Addr} : PySem.W.notFirst K C (.ref C) = true := by
  unfold PySem.W.notFirst
  simp
/-- a test by a comparison of own objects -/
theorem wt_ofO {op : CmpOp} {a b : Expr} {t : DTE} {pos : Pos} (core : ∀ {pins : List (Addr × Obj)} {s : Shared} {σ : L2.St} {H : Hp} {Q : VK}, Inv X pins σ H s → up Y X.K t σ H Q →
    wpAny (model X.prog X.w) X.A (eval a X.env) (fun v s₁ => wpAny (model X.prog X.w) X.A (eval b X.env) (fun u s₂ => wpAny (model X.prog X.w) X.A (compareOp op v u) (EP X pins σ Q) X.xe s₂) X.xe s₁) X.xe s)
    (hm : behindInMarks op b = false) : WT Y X (.Compare a [op] [b] pos) (dTst t) := by
  refine ⟨fun pins s σ H Q I h => ?_⟩
  obtain ⟨Z, F, ρ, n, R, r, ht, kk⟩ := h
  have h2 : up Y X.K t σ H (fun z H' => ∃ q : Bool, z = .bl q ∧ Q q H') := ⟨Z, F, ρ, n, _, r, ht, fun x n1 F1 H1 v ⟨c, ex, hR⟩ g1 s1 d1 w1 => by
    subst ex
    simp only [VR, Rp] at w1
    exact ⟨c, w1, kk _ _ _ _ hR g1 s1 d1⟩⟩
  refine wpAny_isTrue_Compare1 (wpAny_mono (core I h2) (fun v s1 h1 => wpAny_mono h1 (fun u s2 h3 => wpAny_mono h3 (fun w s3 ⟨z, H', I', rz, q, eq, hq⟩ => ?_) fun _ _ e => e) fun _ _ e => e) fun _ _ e => e) hm
  subst eq
  obtain rfl : w = Value.bool q := rz
  exact wpAny_truthy_bool ⟨H', I', hq⟩
def dEqO (K : PySem.W.Frag) (PC : Addr → Prop) (c : Addr → DSpecX) (dw : DW) (ta tb : DTE) : DTE := fun ρ n R => ta ρ n fun x n1 => tb ρ n1 fun y n2 => ∃ a o b o', x = .dat (refD a) ∧ y = .dat (refD b) ∧ n2.ob a = some o ∧ n2.ob b = some o' ∧ PC o.C ∧ PySem.W.notFirst K o.C (.ref o'.C) = true ∧
  c o.C [.dat (refD a), .dat (refD b)] n2 (fun d n3 => ∃ q : Bool, d = .bool q ∧ R (.dat (.bool q)) n3) fun ex n3 => dw ex ρ n3
theorem eqO_core {a b : Expr} {ta tb : DTE} {pos : Pos} (tk : Takes X W) (ok : WOk Y X.K dw W) (HM : HasM X.prog X.w X.K X.mg X.base PC "__eq__" k ps c) (hgd : X.A.guards = some []) (hr : Room k X.A) (hl : ps.length = 2) (hu : X.A.units < cLine)
    (ha : WE Y X a ta) (hb : WE Y X b tb)
    {pins : List (Addr × Obj)} {s : Shared} {σ : L2.St} {H : Hp} {Q : VK} (I : Inv X pins σ H s) (h : up Y X.K (dEqO X.K PC c dw ta tb) σ H Q) :
    wpAny (model X.prog X.w) X.A (eval a X.env) (fun v s₁ => wpAny (model X.prog X.w) X.A (eval b X.env) (fun u s₂ => wpAny (model X.prog X.w) X.A (compareOp .Eq v u) (EP X pins σ Q) X.xe s₂) X.xe s₁) X.xe s := by
  obtain ⟨Z, F, ρ, n, R, r, h, kk⟩ := h
  exact two_run ha hb I r h fun v u s2 x y xv yv n2 F2 H2 I2 rx ry ⟨a, o, b, o', ex, ey, ho, ho', hPC, hnf, hx⟩ g2 s2' d2 w2 w3 => by
    subst ex ey
    obtain rfl := VR.ref w2
    obtain rfl := VR.ref w3
    obtain rfl : v = Value.ref a := rx
    obtain rfl : u = Value.ref b := ry
    have r2 := r.step g2 s2' d2
    obtain ⟨_, dxb, vsb, hb2, _⟩ := d2.2.1 b o' ho'
    obtain ⟨mB, OB, _⟩ := ins_get I2.hok hb2
    obtain ⟨odb, JB, _⟩ := OB.look
    obtain ⟨g, dx, od, J, hcl, hM, run⟩ := dun (A := X.A) (Q := fun z H' => ∃ q : Bool, z = .bl q ∧ Q (.bl q) H') (us := [.ref b]) tk ok HM I2 r2 ho hPC (.cons w3 .nil) (.cons rfl .nil) hl.symm hx fun d n3 F3 H3 v ⟨q, ed, h4⟩ g3 s3 d3 w4 => by
      subst ed
      simp only [Rp] at w4
      exact ⟨q, w4, kk _ _ _ _ _ h4 (g2.trans g3) s3 d3 (by simp [VR, Rp])⟩
    obtain ⟨mm, hF⟩ := I2.fr
    refine PySem.W.cmp_K (op := .Eq) hu hF I2.ok.mod.kin J JB.type hnf hM.at_ hM.fn ?_
    refine wpAny_mono (run hgd hr I2.env0) (fun w s' ⟨z, H', I', rz, q, eq, hq⟩ => ?_) fun _ _ q => q
    subst eq
    obtain rfl : w = Value.bool q := rz
    exact ⟨.bl q, H', I', rfl, hq⟩
theorem wt_eqO {a b : Expr} {ta tb : DTE} {pos : Pos} (tk : Takes X W) (ok : WOk Y X.K dw W) (HM : HasM X.prog X.w X.K X.mg X.base PC "__eq__" k ps c) (hgd : X.A.guards = some []) (hr : Room k X.A) (hl : ps.length = 2) (hu : X.A.units < cLine)
    (ha : WE Y X a ta) (hb : WE Y X b tb) (hm : behindInMarks .Eq b = false := by with_unfolding_all rfl) : WT Y X (.Compare a [.Eq] [b] pos) (dTst (dEqO X.K PC c dw ta tb)) :=
  wt_ofO (fun I h => eqO_core (pos := pos) tk ok HM hgd hr hl hu ha hb I h) hm
end
end DL
set_option maxHeartbeats 4000000
namespace DL
open PySem PySem.Spec PyProof.Rows L2
section
variable {X : Cx} {Y : Fx} {k : Nat} {f : Addr} {fd : FuncData} {ps : List Str} {sp : Sp} {W : WX} {dw : DW} {PC : Addr → Prop} {m : Str} {c : Addr → DSpecX}
theorem runxC {A : Around} {pins : List (Addr × Obj)} {σ : L2.St} {H : Hp} {s : Shared} {Q : VK} {E : XK} {us : List Value} {vs : List V} (F : FnGX X.prog X.w X.K X.mg X.base k f fd ps sp) (hgd : A.guards = some []) (hr : Room k A) (e0 : Env0 X.prog X.w X.K X.mg X.base A X.stack s H) (hb : Binds X.K fd ps [])
    (hx : PassesAt (L2.CX X.prog X.w) X σ E) (I : Inv X pins σ H s) (r : Vals vs us) (h : sp vs H Q E) : codeAny (model X.prog X.w) A (.call (.ref f) ⟨us, []⟩) (fun r s' => match r with | .ok (.ret v) => EP X pins σ Q v s' | .ok _ => False | .error e => X.xe e s') s := by
  have hl : (us ++ []).length = ps.length := by rw [List.append_nil, ← r.length]; exact F.len _ _ _ _ h
  have hbi := hb s us I.kIn hl
  rw [List.append_nil] at hbi
  refine codeAny_mono (F.run A X.stack s H ⟨us, []⟩ us vs Q E hgd hr e0 hbi r h) fun q s' hq => ?_
  cases q with
  | error e => exact hx pins H s e s' I hq
  | ok fl =>
    cases fl with
    | ret u => exact I.after hq
    | next => exact hq.elim
    | brk => exact hq.elim
    | cont => exact hq.elim
end
end DL
namespace PySem
open Sem (wp)
end PySem
namespace L2
open PySem PySem.Spec PyProof.Rows GenW
end L2
set_option maxHeartbeats 4000000
namespace DL
open PySem PySem.Spec PyProof.Rows L2
section
variable {X : Cx} {Y : Fx}
structure FnNG (P : Program) (w : World) (K : PySem.W.Frag) (mg : Str → Option Value) (base : Heap) (k : Nat) (f : Addr) (fd : FuncData) (ps : List Str) (sp : Sp) : Prop where
  len : ∀ vs H Q E, sp vs H Q E → vs.length = ps.length
  run : ∀ (A : Around) (outer : List Env) (s : Shared) (H : Hp) (args : Args) (us : List Value) (vs : List V) (Q : VK), Room k A → Env0 P w K mg base A outer s H →
    BindsTo s fd args (ps.zip us) → Vals vs us → sp vs H Q E0 → codeAny (model P w) A (.call (.ref f) args) (CR CX0 outer P w H s Q E0) s
end
section
variable {X : Cx} {Y : Fx}
theorem FnNG.mono {P : Program} {w : World} {K : PySem.W.Frag} {mg : Str → Option Value} {base : Heap} {j k : Nat} {f : Addr} {fd : FuncData} {ps : List Str} {sp : Sp} (F : FnNG P w K mg base j f fd ps sp) (h : j ≤ k) : FnNG P w K mg base k f fd ps sp :=
  ⟨F.len, fun A outer s H args us vs Q hr => F.run A outer s H args us vs Q (hr.mono h)⟩
end
section
variable {X : Cx} {Y : Fx}
def HasNG (P : Program) (w : World) (K : PySem.W.Frag) (mg : Str → Option Value) (base : Heap) (x : Str) (k : Nat) (ps : List Str) (c : DSpec) : Prop :=
  ∃ f fd, mg x = some (.ref f) ∧ PySem.W.keepIn K (.ref f) = true ∧ Binds K fd ps [] ∧ FnNG P w K mg base k f fd ps (spD K ps.length c)
end
section
structure FnNX (P : Program) (w : World) (K : PySem.W.Frag) (mg : Str → Option Value) (base : Heap) (k : Nat) (f : Addr) (fd : FuncData) (ps : List Str) (sp : Sp) : Prop where
  len : ∀ vs H Q E, sp vs H Q E → vs.length = ps.length
  run : ∀ (A : Around) (outer : List Env) (s : Shared) (H : Hp) (args : Args) (us : List Value) (vs : List V) (Q : VK) (E : XK), Room k A → Env0 P w K mg base A outer s H →
    BindsTo s fd args (ps.zip us) → Vals vs us → sp vs H Q E → codeAny (model P w) A (.call (.ref f) args) (CR (L2.CX P w) outer P w H s Q E) s
end
section
variable {P : Program} {w : World} {K : PySem.W.Frag} {mg : Str → Option Value} {base : Heap} {j k : Nat} {f : Addr} {fd : FuncData} {ps : List Str} {sp : Sp}
theorem FnNG.x (F : FnNG P w K mg base k f fd ps sp) : FnNX P w K mg base k f fd ps (fun vs H Q _ => sp vs H Q E0) :=
  ⟨fun vs H Q _ h => F.len vs H Q E0 h, fun A outer s H args us vs Q E hr e0 hb rv h => codeAny_mono (F.run A outer s H args us vs Q hr e0 hb rv h) fun q s' hq => by
    cases q with
    | error e => exact hq.elim
    | ok fl =>
      cases fl with
      | ret u => exact hq
      | next => exact hq
      | brk => exact hq
      | cont => exact hq⟩
end
section
variable {X : Cx} {Y : Fx}
def HasMN (P : Program) (w : World) (K : PySem.W.Frag) (mg : Str → Option Value) (base : Heap) (PC : Addr → Prop) (m : Str) (k : Nat) (ps : List Str) (c : Addr → DSpecX) : Prop :=
  ∀ C, PC C → Cls K C ∧ ∃ g fd, Meth K C m g ∧ Binds K fd ps [] ∧ FnNX P w K mg base k g fd ps (spDX K ps.length (c C))
end
section
def HasXN (P : Program) (w : World) (K : PySem.W.Frag) (mg : Str → Option Value) (base : Heap) (x : Str) (k : Nat) (ps : List Str) (c : DSpecX) : Prop :=
  ∃ f fd, mg x = some (.ref f) ∧ PySem.W.keepIn K (.ref f) = true ∧ Binds K fd ps [] ∧ FnNX P w K mg base k f fd ps (spDX K ps.length c)
end
section
variable {X : Cx} {Y : Fx} {k : Nat} {f : Addr} {fd : FuncData} {ps : List Str} {sp : Sp} {W : WX} {dw : DW} {PC : Addr → Prop} {m : Str} {c : Addr → DSpecX}
def HasMDN (P : Program) (w : World) (K : PySem.W.Frag) (mg : Str → Option Value) (base : Heap) (PC : Addr → Prop) (m : Str) (k : Nat) (ps : List Str) (c : Addr → DSpecX) : Prop :=
  ∀ C, PC C → Cls K C ∧ ∃ g fd ds, Meth K C m g ∧ Vals [V.non] ds ∧ Binds K fd ps ds ∧ FnNX P w K mg base k g fd ps (spDX K ps.length (c C))
end
section
variable {X : Cx} {Y : Fx} {k : Nat} {f : Addr} {fd : FuncData} {ps : List Str} {sp : Sp} {W : WX} {dw : DW} {PC : Addr → Prop} {m : Str} {c : Addr → DSpecX}
def HasMKN (P : Program) (w : World) (K : PySem.W.Frag) (mg : Str → Option Value) (base : Heap) (PC : Addr → Prop) (m kw : Str) (k : Nat) (ps : List Str) (c : Addr → DSpecX) : Prop :=
  ∀ C, PC C → Cls K C ∧ ∃ g fd, Meth K C m g ∧ KBn K fd ps (ps.length - 1) [kw] (fun us ws => us ++ ws) (fun us ws => us ++ ws) ∧ FnNX P w K mg base k g fd ps (spDX K ps.length (c C))
end
section
variable {P : Program} {w : World} {K : PySem.W.Frag} {mg : Str → Option Value} {base : Heap} {k : Nat} {f : Addr} {fd : FuncData} {ps : List Str} {sp : Sp}
theorem FnNG.g (F : FnNG P w K mg base k f fd ps sp) : FnG P w K mg base k f fd ps sp := ⟨F.len, fun A outer s H args us vs Q _ hr => F.run A outer s H args us vs Q hr⟩
theorem FnNX.x (F : FnNX P w K mg base k f fd ps sp) : FnGX P w K mg base k f fd ps sp := ⟨F.len, fun A outer s H args us vs Q E _ hr => F.run A outer s H args us vs Q E hr⟩
theorem FnNX.mono {j : Nat} (F : FnNX P w K mg base j f fd ps sp) (h : j ≤ k) : FnNX P w K mg base k f fd ps sp := ⟨F.len, fun A outer s H args us vs Q E hr => F.run A outer s H args us vs Q E (hr.mono h)⟩
end
end DL
set_option maxHeartbeats 4000000
namespace DL
open PySem PySem.Spec PyProof.Rows L2
/-- a generator def's contract: R, of all that is handed out -/
abbrev DSpecG := List Dv → Wo → (List PyData → Wo → Prop) → (Ex → Wo → Prop) → Prop
end DL
set_option maxHeartbeats 4000000
set_option maxHeartbeats 4000000
namespace DL
open PySem PySem.Spec PyProof.Rows L2
variable {X : Cx} {Y : Fx} {k : Nat} {f : Addr} {fd : FuncData} {ps : List Str} {PC : Addr → Prop} {m : Str} {c : Addr → DSpecG} {sp : SpG}
section
variable {P : Program} {w : World} {K : PySem.W.Frag} {mg : Str → Option Value} {base : Heap} {PC : Addr → Prop} {C : Addr} {nm m kw : Str} {k : Nat} {ps : List Str}
theorem HasNG.g {c : DSpec} (h : HasNG P w K mg base nm k ps c) : Has P w K mg base nm k ps c := let ⟨f, fd, h1, h2, h3, h4⟩ := h; ⟨f, fd, h1, h2, h3, h4.g⟩
theorem HasXN.x {c : DSpecX} (h : HasXN P w K mg base nm k ps c) : HasX P w K mg base nm k ps c := let ⟨f, fd, h1, h2, h3, h4⟩ := h; ⟨f, fd, h1, h2, h3, h4.x⟩
theorem HasMN.x {c : Addr → DSpecX} (h : HasMN P w K mg base PC m k ps c) : HasM P w K mg base PC m k ps c := fun C hC => let ⟨h0, g, fd, h1, h2, h3⟩ := h C hC; ⟨h0, g, fd, h1, h2, h3.x⟩
theorem HasMDN.x {c : Addr → DSpecX} (h : HasMDN P w K mg base PC m k ps c) : HasMD P w K mg base PC m k ps c := fun C hC => let ⟨h0, g, fd, ds, h1, h2, h3, h4⟩ := h C hC; ⟨h0, g, fd, ds, h1, h2, h3, h4.x⟩
theorem HasMKN.x {c : Addr → DSpecX} (h : HasMKN P w K mg base PC m kw k ps c) : HasMK P w K mg base PC m kw k ps c := fun C hC => let ⟨h0, g, fd, h1, h2, h3⟩ := h C hC; ⟨h0, g, fd, h1, h2, h3.x⟩
end
end DL
set_option maxHeartbeats 4000000
set_option maxHeartbeats 4000000
namespace L2
open PySem PySem.Spec PyProof.Rows
end L2
set_option maxHeartbeats 0
namespace DL
open PySem PySem.Spec PyProof.Rows L2
def sizesD (xs : List Int) : PyData := .tuple (xs.map .int)
def hallD (feet pairs : List Int) : PyData := .tuple [sizesD feet, sizesD pairs]
/-- sizes from 1 to h -/
abbrev In1 (h : Int) (xs : List Int) : Prop := ∀ x ∈ xs, 1 ≤ x ∧ x ≤ h
theorem pick3 {a b c : PyData} {r : Int} (h0 : 0 ≤ r) (h1 : r < 3) : ∃ d, atI [a, b, c] r = some d ∧ (d = a ∨ d = b ∨ d = c) := by
  obtain ⟨d, h, hm⟩ := atI_mem (xs := [a, b, c]) h0 (by simpa using h1)
  exact ⟨d, h, by simpa using hm⟩
/-- numbers as they were drawn -/
theorem ints_of {h : Int} : ∀ {ys : List PyData}, (∀ y ∈ ys, ∃ z : Int, y = .int z ∧ 1 ≤ z ∧ z ≤ h) → ∃ zs : List Int, ys = zs.map .int ∧ In1 h zs
  | [], _ => ⟨[], rfl, fun _ q => (by cases q)⟩
  | y :: ys, q => by
    obtain ⟨z, rfl, h1, h2⟩ := q y (by simp)
    obtain ⟨zs, rfl, h3⟩ := ints_of (ys := ys) fun x hx => q x (by simp [hx])
    exact ⟨z :: zs, rfl, fun x hx => by
      rcases List.mem_cons.mp hx with rfl | hx
      · exact ⟨h1, h2⟩
      · exact h3 x hx⟩
theorem nat20 {x : Int} {h : Int} (hh : h ≤ 10 ^ 6) (q : 1 ≤ x ∧ x ≤ h) : x.natAbs < 2 ^ 20 := by omega
theorem tame_hall {h : Int} {feet pairs : List Int} (hh : h ≤ 10 ^ 6) (h1 : In1 h feet) (h2 : In1 h pairs) (l1 : feet.length ≤ 40) (l2 : pairs.length ≤ 40) : Tame 3000 2 (hallD feet pairs) := by
  have a := tame_tuple (tame_ints (ns := feet) (m := 20) (fun n hn => nat20 hh (h1 n hn)) (by decide) (by decide)) (l := 40) (by rw [List.length_map]; exact l1)
  have b := tame_tuple (tame_ints (ns := pairs) (m := 20) (fun n hn => nat20 hh (h2 n hn)) (by decide) (by decide)) (l := 40) (by rw [List.length_map]; exact l2)
  refine (tame_tuple (m := 1003) (k := 1) (ds := [sizesD feet, sizesD pairs]) (l := 2) (fun d hd => ?_) (by show 2 ≤ 2; exact Nat.le_refl 2)).mono (by decide) (by decide)
  simp only [List.mem_cons, List.not_mem_nil, or_false] at hd
  rcases hd with rfl | rfl
  · exact a
  · exact b
theorem map_get {α : Type} {xs : List α} {enc : α → PyData} {k : Nat} {x : PyData} (h : (xs.map enc)[k]? = some x) : ∃ z, xs[k]? = some z ∧ x = enc z := by
  rw [List.getElem?_map] at h
  obtain ⟨z, h1, h2⟩ := Option.map_eq_some_iff.mp h
  exact ⟨z, h1, h2.symm⟩
/-- the item at a place -/
def getI (xs : List Int) (j : Int) : Int := (xs[j.toNat]?).getD 0
def intsN (m : Nat) : List Int := (List.range m).map fun (k : Nat) => (k : Int)
theorem mem_intsN {m : Nat} {j : Int} (h : j ∈ intsN m) : 0 ≤ j ∧ j < m := by
  obtain ⟨k, hk, rfl⟩ := List.mem_map.mp h
  have := List.mem_range.mp hk
  omega
/-- what is best -/
def Lx (key : Int → Int) (a b : Int) : Prop := key a < key b ∨ (key a = key b ∧ a ≤ b)
theorem intsN_lt (m : Nat) : (intsN m).Pairwise (· < ·) := by
  unfold intsN
  rw [List.pairwise_map]
  exact List.pairwise_lt_range.imp fun h => by omega
/-- how many feet are less, how many pairs are at least s -/
def cF (feet : List Int) (s : Int) : Nat := (feet.filter fun x => decide (x < s)).length
def cP (pairs : List Int) (s : Int) : Nat := (pairs.filter fun x => decide (s ≤ x)).length
def IsMost (feet pairs : List Int) (m : Int) : Prop := (∃ s, m = (cF feet s : Int) + cP pairs s) ∧ ∀ s, m ≤ (cF feet s : Int) + cP pairs s
def IsFew (feet pairs : List Int) (m : Int) : Prop := (∃ s, m = (max (cF feet s) (cP pairs s) : Nat)) ∧ ∀ s, m ≤ (max (cF feet s) (cP pairs s) : Nat)
theorem IsMost.uniq {feet pairs : List Int} {m k : Int} (h : IsMost feet pairs m) (h2 : IsMost feet pairs k) : m = k := by
  obtain ⟨⟨s, e⟩, a⟩ := h
  obtain ⟨⟨s2, e2⟩, a2⟩ := h2
  have := a s2; have := a2 s
  omega
theorem IsFew.uniq {feet pairs : List Int} {m k : Int} (h : IsFew feet pairs m) (h2 : IsFew feet pairs k) : m = k := by
  obtain ⟨⟨s, e⟩, a⟩ := h
  obtain ⟨⟨s2, e2⟩, a2⟩ := h2
  have := a s2; have := a2 s
  omega
theorem cF_cons (f : Int) (fs : List Int) (s : Int) : cF (f :: fs) s = cF fs s + if f < s then 1 else 0 := by
  unfold cF
  rw [List.filter_cons]
  by_cases h : f < s
  · rw [if_pos (decide_eq_true h), if_pos h]; rfl
  · rw [if_neg (by simpa using h), if_neg h]; rfl
theorem cP_cons (p : Int) (ps : List Int) (s : Int) : cP (p :: ps) s = cP ps s + if s ≤ p then 1 else 0 := by
  unfold cP
  rw [List.filter_cons]
  by_cases h : s ≤ p
  · rw [if_pos (decide_eq_true h), if_pos h]; rfl
  · rw [if_neg (by simpa using h), if_neg h]; rfl
theorem cF_perm {a b : List Int} (h : a.Perm b) (s : Int) : cF a s = cF b s := (h.filter _).length_eq
theorem cP_perm {a b : List Int} (h : a.Perm b) (s : Int) : cP a s = cP b s := (h.filter _).length_eq
theorem cF_zero {l : List Int} {s : Int} (h : ∀ x ∈ l, s ≤ x) : cF l s = 0 := by
  unfold cF
  rw [List.filter_eq_nil_iff.mpr fun x hx => by have := h x hx; simp; omega]
  rfl
theorem cP_zero {l : List Int} {s : Int} (h : ∀ x ∈ l, x < s) : cP l s = 0 := by
  unfold cP
  rw [List.filter_eq_nil_iff.mpr fun x hx => by have := h x hx; simp; omega]
  rfl
theorem cF_le (l : List Int) (s : Int) : cF l s ≤ l.length := List.length_filter_le _ _
theorem cF_all {l : List Int} {s : Int} (h : ∀ x ∈ l, x < s) : cF l s = l.length := by
  unfold cF
  rw [List.filter_eq_self.mpr fun x hx => by simpa using h x hx]
/-- the largest pairs to the greatest feet that they fit: feet and pairs from the greatest on -/
def gr : List Int → List Int → Nat
  | [], _ => 0
  | f :: fs, [] => gr fs []
  | f :: fs, p :: ps => if f ≤ p then gr fs ps + 1 else gr fs (p :: ps)
theorem gr_le : ∀ (F P : List Int) (s : Int), gr F P ≤ cF F s + cP P s
  | [], _, _ => Nat.zero_le _
  | f :: fs, [], s => by
    have := gr_le fs [] s
    rw [cF_cons]
    unfold gr
    omega
  | f :: fs, p :: ps, s => by
    unfold gr
    by_cases h : f ≤ p
    · rw [if_pos h, cF_cons, cP_cons]
      have := gr_le fs ps s
      split <;> split <;> omega
    · rw [if_neg h, cF_cons]
      have := gr_le fs (p :: ps) s
      omega
theorem gr_ge (top : Int) : ∀ (F P : List Int), F.Pairwise (fun a b => b ≤ a) → P.Pairwise (fun a b => b ≤ a) → (∀ x ∈ F, x < top) → (∀ x ∈ P, x < top) → ∃ s, (s ∈ F ∨ s = top) ∧ cF F s + cP P s ≤ gr F P
  | [], P, _, _, _, hP => ⟨top, .inr rfl, by rw [cP_zero hP]; exact Nat.le_refl 0⟩
  | f :: fs, [], h1, h2, hF, hP => by
    obtain ⟨p1, p2⟩ := List.pairwise_cons.mp h1
    obtain ⟨s, hs, hle⟩ := gr_ge top fs [] p2 h2 (fun x hx => hF x (by simp [hx])) hP
    unfold gr
    rcases hs with hs | rfl
    · refine ⟨s, .inl (by simp [hs]), ?_⟩
      have := p1 s hs
      rw [cF_cons, if_neg (by omega)]
      exact hle
    · rw [cF_all fun x hx => hF x (by simp [hx])] at hle
      have h0 : gr fs [] ≤ 0 := by
        cases fs with
        | nil => exact Nat.le_refl 0
        | cons a l =>
          have := gr_le (a :: l) [] (((a :: l).getLast (by simp)))
          have q : cF (a :: l) ((a :: l).getLast (by simp)) = 0 := cF_zero fun x hx => by
            have hl : (a :: l) = (a :: l).dropLast ++ [(a :: l).getLast (by simp)] := (List.dropLast_concat_getLast (by simp)).symm
            rw [hl] at hx p2
            rcases List.mem_append.mp hx with z | z
            · exact (List.pairwise_append.mp p2).2.2 x z _ (by simp)
            · rw [List.mem_singleton.mp z]; simp
          rw [q] at this
          exact this
      have hl : fs.length = 0 := by omega
      have : fs = [] := List.eq_nil_of_length_eq_zero hl
      subst this
      exact ⟨f, .inl (by simp), by rw [cF_cons, if_neg (by omega)]; exact Nat.zero_le _⟩
  | f :: fs, p :: ps, h1, h2, hF, hP => by
    obtain ⟨p1, p2⟩ := List.pairwise_cons.mp h1
    obtain ⟨q1, q2⟩ := List.pairwise_cons.mp h2
    have hF' : ∀ x ∈ fs, x < top := fun x hx => hF x (by simp [hx])
    have hf := hF f (by simp)
    have hp := hP p (by simp)
    unfold gr
    by_cases h : f ≤ p
    · rw [if_pos h]
      obtain ⟨s, hs, hle⟩ := gr_ge top fs ps p2 q2 hF' fun x hx => hP x (by simp [hx])
      rcases hs with hs | rfl
      · refine ⟨s, .inl (by simp [hs]), ?_⟩
        have := p1 s hs
        rw [cF_cons, cP_cons, if_neg (by omega)]
        split <;> omega
      · refine ⟨s, .inr rfl, ?_⟩
        rw [cF_cons, cP_cons, if_neg (show ¬ s ≤ p by omega)]
        split <;> omega
    · rw [if_neg h]
      obtain ⟨s, hs, hle⟩ := gr_ge top fs (p :: ps) p2 h2 hF' hP
      rcases hs with hs | rfl
      · refine ⟨s, .inl (by simp [hs]), ?_⟩
        have := p1 s hs
        rw [cF_cons, if_neg (by omega)]
        omega
      · refine ⟨f, .inl (by simp), ?_⟩
        rw [cF_all hF'] at hle
        rw [cF_cons, if_neg (by omega), cP_zero fun x hx => by
          rcases List.mem_cons.mp hx with rfl | hx
          · omega
          · have := q1 x hx; omega]
        have := cF_le fs f
        omega
theorem most_of_gr {feet pairs F P : List Int} {top : Int} (hF : F.Perm feet) (hP : P.Perm pairs) (h1 : F.Pairwise fun a b => b ≤ a) (h2 : P.Pairwise fun a b => b ≤ a) (t1 : ∀ x ∈ feet, x < top) (t2 : ∀ x ∈ pairs, x < top) :
    IsMost feet pairs (gr F P : Nat) ∧ ∃ s, (s ∈ feet ∨ s = top) ∧ ((gr F P : Nat) : Int) = (cF feet s : Int) + cP pairs s := by
  obtain ⟨s, hs, hle⟩ := gr_ge top F P h1 h2 (fun x hx => t1 x (hF.mem_iff.mp hx)) fun x hx => t2 x (hP.mem_iff.mp hx)
  have hge := gr_le F P s
  rw [cF_perm hF, cP_perm hP] at hle hge
  refine ⟨⟨⟨s, by omega⟩, fun s' => ?_⟩, s, hs.imp (fun h => hF.mem_iff.mp h) id, by omega⟩
  have := gr_le F P s'
  rw [cF_perm hF, cP_perm hP] at this
  omega
/-- the smallest feet beside the largest pairs -/
def cz : List Int → List Int → Nat
  | f :: fs, p :: ps => cz fs ps + if f ≤ p then 1 else 0
  | _, _ => 0
theorem cz_le : ∀ (F P : List Int) (s : Int), F.Pairwise (fun a b => a ≤ b) → P.Pairwise (fun a b => b ≤ a) → cz F P ≤ max (cF F s) (cP P s)
  | [], _, _, _, _ => by unfold cz; exact Nat.zero_le _
  | f :: fs, [], _, _, _ => by unfold cz; exact Nat.zero_le _
  | f :: fs, p :: ps, s, h1, h2 => by
    obtain ⟨p1, p2⟩ := List.pairwise_cons.mp h1
    obtain ⟨q1, q2⟩ := List.pairwise_cons.mp h2
    have ih := cz_le fs ps s p2 q2
    unfold cz
    rw [cF_cons, cP_cons]
    by_cases h : f ≤ p
    · rw [if_pos h]
      by_cases a : f < s
      · rw [if_pos a]
        by_cases b : s ≤ p
        · rw [if_pos b]; omega
        · have : cP ps s = 0 := cP_zero fun x hx => by have := q1 x hx; omega
          omega
      · rw [if_neg a, if_pos (show s ≤ p by omega)]
        have : cF fs s = 0 := cF_zero fun x hx => by have := p1 x hx; omega
        omega
    · rw [if_neg h]; omega
theorem cz_ge (top : Int) : ∀ (F P : List Int), F.Pairwise (fun a b => a ≤ b) → P.Pairwise (fun a b => b ≤ a) → (∀ x ∈ P, x < top) → ∃ s, (s ∈ F ∨ s = top) ∧ max (cF F s) (cP P s) ≤ cz F P
  | [], P, _, _, hP => ⟨top, .inr rfl, by rw [cP_zero hP]; exact Nat.zero_le _⟩
  | f :: fs, [], h1, _, _ => by
    obtain ⟨p1, p2⟩ := List.pairwise_cons.mp h1
    refine ⟨f, .inl (by simp), ?_⟩
    rw [cF_zero fun x hx => by
      rcases List.mem_cons.mp hx with rfl | hx
      · exact Int.le_refl _
      · exact p1 x hx]
    exact Nat.zero_le _
  | f :: fs, p :: ps, h1, h2, hP => by
    obtain ⟨p1, p2⟩ := List.pairwise_cons.mp h1
    obtain ⟨q1, q2⟩ := List.pairwise_cons.mp h2
    unfold cz
    by_cases h : f ≤ p
    · obtain ⟨s, hs, hle⟩ := cz_ge top fs ps p2 q2 fun x hx => hP x (by simp [hx])
      refine ⟨s, hs.imp (fun h => by simp [h]) id, ?_⟩
      rw [cF_cons, cP_cons, if_pos h]
      split <;> split <;> omega
    · refine ⟨f, .inl (by simp), ?_⟩
      rw [cF_zero fun x hx => by
        rcases List.mem_cons.mp hx with rfl | hx
        · exact Int.le_refl _
        · exact p1 x hx, cP_zero fun x hx => by
        rcases List.mem_cons.mp hx with rfl | hx
        · omega
        · have := q1 x hx; omega]
      exact Nat.zero_le _
theorem few_of_cz {feet pairs F P : List Int} {top : Int} (hF : F.Perm feet) (hP : P.Perm pairs) (h1 : F.Pairwise fun a b => a ≤ b) (h2 : P.Pairwise fun a b => b ≤ a) (t2 : ∀ x ∈ pairs, x < top) :
    IsFew feet pairs (cz F P : Nat) ∧ ∃ s, (s ∈ feet ∨ s = top) ∧ ((cz F P : Nat) : Int) = (max (cF feet s) (cP pairs s) : Nat) := by
  obtain ⟨s, hs, hle⟩ := cz_ge top F P h1 h2 fun x hx => t2 x (hP.mem_iff.mp hx)
  have hge := cz_le F P s h1 h2
  rw [cF_perm hF, cP_perm hP] at hle hge
  refine ⟨⟨⟨s, by omega⟩, fun s' => ?_⟩, s, hs.imp (fun h => hF.mem_iff.mp h) id, by omega⟩
  have := cz_le F P s' h1 h2
  rw [cF_perm hF, cP_perm hP] at this
  omega
theorem nodup_len : ∀ {ms l : List Int}, ms.Nodup → (∀ x ∈ ms, x ∈ l) → ms.length ≤ l.length
  | [], _, _, _ => Nat.zero_le _
  | x :: ms, l, h, hs => by
    obtain ⟨h1, h2⟩ := List.nodup_cons.mp h
    have hx := hs x (by simp)
    have ih := nodup_len (l := l.erase x) h2 fun y hy => (List.mem_erase_of_ne (fun e => h1 (by rw [← e]; exact hy))).mpr (hs y (by simp [hy]))
    rw [List.length_erase_of_mem hx] at ih
    have := List.length_pos_of_mem hx
    rw [List.length_cons]
    omega
def ins (a : Int) : List Int → List Int
  | [] => [a]
  | b :: l => if a ≤ b then a :: b :: l else b :: ins a l
theorem ins_perm (a : Int) : ∀ l, (ins a l).Perm (a :: l)
  | [] => List.Perm.refl _
  | b :: l => by
    unfold ins
    split
    · exact List.Perm.refl _
    · exact ((ins_perm a l).cons b).trans (List.Perm.swap _ _ _)
theorem ins_sorted (a : Int) : ∀ l : List Int, l.Pairwise (· ≤ ·) → (ins a l).Pairwise (· ≤ ·)
  | [], _ => List.pairwise_singleton _ _
  | b :: l, h => by
    obtain ⟨h1, h2⟩ := List.pairwise_cons.mp h
    unfold ins
    split
    · rename_i hab
      exact List.pairwise_cons.mpr ⟨fun x hx => by
        rcases List.mem_cons.mp hx with rfl | hx
        · exact hab
        · exact Int.le_trans hab (h1 x hx), h⟩
    · exact List.pairwise_cons.mpr ⟨fun x hx => by
        rcases List.mem_cons.mp ((ins_perm a l).mem_iff.mp hx) with rfl | hx
        · omega
        · exact h1 x hx, ins_sorted a l h2⟩
theorem exists_sorted : ∀ l : List Int, ∃ F : List Int, F.Perm l ∧ F.Pairwise (· ≤ ·)
  | [] => ⟨[], List.Perm.refl _, List.Pairwise.nil⟩
  | a :: l => by
    obtain ⟨F, h1, h2⟩ := exists_sorted l
    exact ⟨ins a F, (ins_perm a F).trans (h1.cons a), ins_sorted a F h2⟩
theorem rev_desc {F : List Int} (h : F.Pairwise (· ≤ ·)) : F.reverse.Pairwise fun a b => b ≤ a := List.pairwise_reverse.mpr h
/-- where the least number of both is attained -/
theorem most_at {feet pairs : List Int} {top : Int} (t1 : ∀ x ∈ feet, x < top) (t2 : ∀ x ∈ pairs, x < top) : ∃ s, (s ∈ feet ∨ s = top) ∧ ∀ s', (cF feet s : Int) + cP pairs s ≤ (cF feet s' : Int) + cP pairs s' := by
  obtain ⟨F, f1, f2⟩ := exists_sorted feet
  obtain ⟨Q, p1, p2⟩ := exists_sorted pairs
  obtain ⟨h, s, hs, e⟩ := most_of_gr ((List.reverse_perm F).trans f1) ((List.reverse_perm Q).trans p1) (rev_desc f2) (rev_desc p2) t1 t2
  exact ⟨s, hs, fun s' => by rw [← e]; exact h.2 s'⟩
theorem few_at {feet pairs : List Int} {top : Int} (t2 : ∀ x ∈ pairs, x < top) : ∃ s, (s ∈ feet ∨ s = top) ∧ ∀ s', ((max (cF feet s) (cP pairs s) : Nat) : Int) ≤ (max (cF feet s') (cP pairs s') : Nat) := by
  obtain ⟨F, f1, f2⟩ := exists_sorted feet
  obtain ⟨Q, p1, p2⟩ := exists_sorted pairs
  obtain ⟨h, s, hs, e⟩ := few_of_cz (top := top) f1 ((List.reverse_perm Q).trans p1) f2 (rev_desc p2) t2
  exact ⟨s, hs, fun s' => by rw [← e]; exact h.2 s'⟩
theorem zip_enc (F Q : List Int) : zipD (F.map .int) (Q.map .int) = (F.zip Q).map fun q => .tuple [.int q.1, .int q.2] := by
  unfold zipD
  rw [List.zip_map, List.map_map]
  rfl
theorem cz_count : ∀ F Q : List Int, ((F.zip Q).map fun q => decide (q.1 ≤ q.2)).count true = cz F Q
  | [], _ => by unfold cz; rfl
  | f :: fs, [] => by unfold cz; rfl
  | f :: fs, p :: ps => by
    rw [List.zip_cons_cons, List.map_cons, List.count_cons, cz_count fs ps]
    show _ = cz fs ps + if f ≤ p then 1 else 0
    by_cases h : f ≤ p <;> simp [h]
structure HallOk (feet pairs : List Int) : Prop where
  f1 : 1 ≤ feet.length
  f2 : feet.length ≤ 40
  p2 : pairs.length ≤ 40
  fi : In1 (10 ^ 6) feet
  pi : In1 (10 ^ 6) pairs
theorem eqv_int (a b : Int) : PyData.eqv (.int a) (.int b) = decide (a = b) := by rfl
/-- a run, as pairs of numbers -/
structure RunOk (f p : Nat) (run : List (Int × Int)) : Prop where
  g : (run.map (·.1)).Perm (intsN f)
  s : ∀ q ∈ run, -1 ≤ q.2 ∧ (q.2 < (p : Int) ∨ q.2 = -1)
theorem intsN_len (m : Nat) : (intsN m).length = m := by simp [intsN]
theorem RunOk.len {f p : Nat} {run : List (Int × Int)} (h : RunOk f p run) : run.length = f := by
  have := h.g.length_eq
  rwa [List.length_map, intsN_len] at this
theorem RunOk.nd {f p : Nat} {run : List (Int × Int)} (h : RunOk f p run) : (run.map (·.1)).Nodup := h.g.nodup_iff.mpr ((intsN_lt f).imp fun h => Int.ne_of_lt h)
theorem sorted_uniq : ∀ {l m : List Int}, l.Perm m → l.Pairwise (· ≤ ·) → m.Pairwise (· ≤ ·) → l = m
  | [], m, hp, _, _ => hp.nil_eq
  | a :: l, [], hp, _, _ => hp.eq_nil
  | a :: l, b :: m, hp, h1, h2 => by
    obtain ⟨p1, p2⟩ := List.pairwise_cons.mp h1
    obtain ⟨q1, q2⟩ := List.pairwise_cons.mp h2
    have e : a = b := by
      have ha : a ∈ b :: m := hp.mem_iff.mp (by simp)
      have hb : b ∈ a :: l := hp.mem_iff.mpr (by simp)
      rcases List.mem_cons.mp ha with h | h
      · exact h
      · rcases List.mem_cons.mp hb with h' | h'
        · exact h'.symm
        · exact Int.le_antisymm (p1 b h') (q1 a h)
    subst e
    rw [sorted_uniq hp.cons_inv p2 q2]
theorem sh_int (i : Int) : Sh (.int i) := rfl
/-- a pair fits a guest -/
def fitG (feet pairs : List Int) (g j : Int) : Bool := decide (getI feet g ≤ getI pairs j)
/-- how the guests go: each takes a pair that fits, that the rule likes, or there is none -/
def Gs (rl : Int → Int → Prop) (feet pairs : List Int) : List Int → List (Int × Int) → Prop
  | _, [] => True
  | left, q :: r => ((∀ j ∈ left, fitG feet pairs q.1 j = false) ∧ q.2 = -1 ∧ Gs rl feet pairs left r) ∨
      (q.2 ∈ left ∧ fitG feet pairs q.1 q.2 = true ∧ (∀ i ∈ left, fitG feet pairs q.1 i = true → rl q.2 i) ∧ Gs rl feet pairs (left.erase q.2) r)
def srv (run : List (Int × Int)) : Nat := (run.filter fun q => decide (q.2 ≠ -1)).length
theorem Gs.mono {rl rl' : Int → Int → Prop} {feet pairs : List Int} (h : ∀ a b, rl a b → rl' a b) : ∀ {run : List (Int × Int)} {left : List Int}, Gs rl feet pairs left run → Gs rl' feet pairs left run
  | [], _, _ => trivial
  | q :: r, left, g => by
    rcases g with ⟨a, b, c⟩ | ⟨a, b, c, d⟩
    · exact .inl ⟨a, b, c.mono h⟩
    · exact .inr ⟨a, b, fun i hi hf => h _ _ (c i hi hf), d.mono h⟩
/-- a run of the hall -/
structure RunV (rl : Int → Int → Prop) (feet pairs : List Int) (run : List (Int × Int)) : Prop where
  g : (run.map (·.1)).Perm (intsN feet.length)
  s : Gs rl feet pairs (intsN pairs.length) run
abbrev anyR : Int → Int → Prop := fun _ _ => True
theorem RunV.any {rl : Int → Int → Prop} {feet pairs : List Int} {run : List (Int × Int)} (h : RunV rl feet pairs run) : RunV anyR feet pairs run := ⟨h.g, h.s.mono fun _ _ _ => trivial⟩
instance (key : Int → Int) (a b : Int) : Decidable (Lx key a b) := inferInstanceAs (Decidable (_ ∨ _))
theorem Lx_uniq {key : Int → Int} : ∀ {l m : List Int}, l.Perm m → l.Pairwise (Lx key) → m.Pairwise (Lx key) → l = m
  | [], m, hp, _, _ => hp.nil_eq
  | a :: l, [], hp, _, _ => hp.eq_nil
  | a :: l, b :: m, hp, h1, h2 => by
    obtain ⟨p1, p2⟩ := List.pairwise_cons.mp h1
    obtain ⟨q1, q2⟩ := List.pairwise_cons.mp h2
    have e : a = b := by
      have ha : a ∈ b :: m := hp.mem_iff.mp (by simp)
      have hb : b ∈ a :: l := hp.mem_iff.mpr (by simp)
      rcases List.mem_cons.mp ha with h | h
      · exact h
      · rcases List.mem_cons.mp hb with h' | h'
        · exact h'.symm
        · have x := p1 b h'
          have y := q1 a h
          unfold Lx at x y
          omega
    subst e
    rw [Lx_uniq hp.cons_inv p2 q2]
/-- sorted, each once -/
def insU (a : Int) : List Int → List Int
  | [] => [a]
  | b :: l => if a < b then a :: b :: l else if a = b then b :: l else b :: insU a l
theorem mem_insU {a x : Int} : ∀ {l : List Int}, x ∈ insU a l ↔ x = a ∨ x ∈ l
  | [] => by simp [insU]
  | b :: l => by
    unfold insU
    split
    · simp
    · split
      · rename_i h; subst h; simp
      · rw [List.mem_cons, mem_insU (l := l), List.mem_cons]
        constructor
        · rintro (h | h | h) <;> simp [h]
        · rintro (h | h | h) <;> simp [h]
theorem insU_sorted (a : Int) : ∀ {l : List Int}, l.Pairwise (· < ·) → (insU a l).Pairwise (· < ·)
  | [], _ => List.pairwise_singleton _ _
  | b :: l, h => by
    obtain ⟨h1, h2⟩ := List.pairwise_cons.mp h
    unfold insU
    split
    · rename_i hab
      exact List.pairwise_cons.mpr ⟨fun x hx => by
        rcases List.mem_cons.mp hx with rfl | hx
        · exact hab
        · exact Int.lt_trans hab (h1 x hx), h⟩
    · split
      · exact h
      · refine List.pairwise_cons.mpr ⟨fun x hx => ?_, insU_sorted a h2⟩
        rcases mem_insU.mp hx with rfl | hx
        · omega
        · exact h1 x hx
def sd (xs : List Int) : List Int := xs.foldr insU []
theorem sd_sorted : ∀ xs : List Int, (sd xs).Pairwise (· < ·)
  | [] => List.Pairwise.nil
  | x :: xs => insU_sorted x (sd_sorted xs)
theorem mem_sd {k : Int} : ∀ {xs : List Int}, k ∈ sd xs ↔ k ∈ xs
  | [] => Iff.rfl
  | x :: xs => by
    show k ∈ insU x (sd xs) ↔ _
    rw [mem_insU, mem_sd (xs := xs), List.mem_cons]
theorem sd_uniq {xs ms : List Int} (h : ms.Pairwise (· < ·)) (hm : ∀ k, k ∈ ms ↔ k ∈ xs) : ms = sd xs := by
  have hp : ms.Perm (sd xs) := (List.perm_ext_iff_of_nodup (h.imp fun h => Int.ne_of_lt h) ((sd_sorted xs).imp fun h => Int.ne_of_lt h)).mpr fun k => (hm k).trans mem_sd.symm
  exact Lx_uniq (key := id) hp (h.imp fun h => .inl h) ((sd_sorted xs).imp fun h => .inl h)
theorem RunV.len {rl : Int → Int → Prop} {feet pairs : List Int} {run : List (Int × Int)} (h : RunV rl feet pairs run) : run.length = feet.length := by
  have := h.g.length_eq
  rwa [List.length_map, intsN_len] at this
theorem RunV.nd {rl : Int → Int → Prop} {feet pairs : List Int} {run : List (Int × Int)} (h : RunV rl feet pairs run) : (run.map (·.1)).Nodup := h.g.nodup_iff.mpr ((intsN_lt _).imp fun h => Int.ne_of_lt h)
theorem gs_snd {rl : Int → Int → Prop} {feet pairs : List Int} : ∀ {run : List (Int × Int)} {left : List Int}, Gs rl feet pairs left run → ∀ q ∈ run, q.2 = -1 ∨ q.2 ∈ left
  | [], _, _, _, h => nomatch h
  | p :: r, left, g, q, hq => by
    rcases List.mem_cons.mp hq with rfl | hq
    · rcases g with ⟨_, b, _⟩ | ⟨a, _⟩
      · exact .inl b
      · exact .inr a
    · rcases g with ⟨_, _, c⟩ | ⟨_, _, _, d⟩
      · exact gs_snd c q hq
      · exact (gs_snd d q hq).imp id List.mem_of_mem_erase
theorem RunV.snd {rl : Int → Int → Prop} {feet pairs : List Int} {run : List (Int × Int)} (h : RunV rl feet pairs run) {q : Int × Int} (hq : q ∈ run) : -1 ≤ q.2 ∧ (q.2 < (pairs.length : Int) ∨ q.2 = -1) := by
  rcases gs_snd h.s q hq with e | e
  · exact ⟨by omega, .inr e⟩
  · have := mem_intsN e; exact ⟨by omega, .inl this.2⟩
theorem ifN {b : Bool} {A B : Prop} (hb : b = true) (h : B) : if (!b) = true then A else B := by subst hb; exact h
theorem ifF {b : Bool} {A B : Prop} (hb : b = false) (h : B) : if b = true then A else B := by subst hb; exact iteF h
theorem ifT {b : Bool} {A B : Prop} (hb : b = true) (h : A) : if b = true then A else B := by subst hb; exact iteT h
theorem ifNF {b : Bool} {A B : Prop} (hb : b = false) (h : A) : if (!b) = true then A else B := by subst hb; exact h
theorem iteD {c A B : Prop} [Decidable c] (hc : c) (h : A) : if decide c = true then A else B := by rw [if_pos (decide_eq_true hc)]; exact h
theorem iteDF {c A B : Prop} [Decidable c] (hc : ¬ c) (h : B) : if decide c = true then A else B := by rw [if_neg (fun q => hc (of_decide_eq_true q))]; exact h
theorem isi_tt (ds : List PyData) : isiB (tyD (.tuple ds)) "tuple" = true := show isiB "tuple" "tuple" = true by decide +kernel
theorem isi_ii (i : Int) : isiB (tyD (.int i)) "int" = true := show isiB "int" "int" = true by decide +kernel
theorem isi_ib (i : Int) : isiB (tyD (.int i)) "bool" = false := show isiB "int" "bool" = false by decide +kernel
theorem isi_ss (i : Str) : isiB (tyD (.str i)) "str" = true := show isiB "str" "str" = true by decide +kernel
theorem isi_bb (i : Bool) : isiB (tyD (.bool i)) "bool" = true := show isiB "bool" "bool" = true by decide +kernel
theorem isi_bi (i : Bool) : isiB (tyD (.bool i)) "int" = true := show isiB "bool" "int" = true by decide +kernel
theorem neI {a b : Int} {A B : Prop} (e : a = b) (h : B) : if (!PyData.eqv (.int a) (.int b)) = true then A else B := ifN (by rw [eqv_int]; exact decide_eq_true e) h
def runD (run : List (Int × Int)) : PyData := .tuple (run.map prD)
theorem asB_T {c : Bool} {R : Bool → Prop} (hc : c = true) (h : R true) : asB (.dat (.bool c)) R := by subst hc; exact h
theorem asB_F {c : Bool} {R : Bool → Prop} (hc : c = false) (h : R false) : asB (.dat (.bool c)) R := by subst hc; exact h
def srt (P : List Int) : List Int := P.mergeSort fun a b => decide (a ≤ b)
theorem srt_perm (P : List Int) : (srt P).Perm P := List.mergeSort_perm _ _
theorem le_tot (a b : Int) : (decide (a ≤ b) || decide (b ≤ a)) = true := by
  rw [Bool.or_eq_true, decide_eq_true_eq, decide_eq_true_eq]
  exact Int.le_total a b
theorem srt_sorted (P : List Int) : (srt P).Pairwise (· ≤ ·) :=
  (List.pairwise_mergeSort (le := fun a b : Int => decide (a ≤ b)) (fun a b c h1 h2 => decide_eq_true (Int.le_trans (of_decide_eq_true h1) (of_decide_eq_true h2))) le_tot P).imp fun h => of_decide_eq_true h
theorem cut_drop {α : Type} (xs : List α) (k : Nat) : cutG xs (some (k : Int)) none = xs.drop k := by
  unfold cutG
  have e1 : HT.sIx xs.length 0 (some (k : Int)) = min k xs.length := HT.sIx_nat _ _ _
  have e2 : HT.sIx xs.length xs.length none = xs.length := rfl
  rw [e1, e2]
  by_cases h : k ≤ xs.length
  · rw [Nat.min_eq_left h]
    exact List.take_of_length_le (by rw [List.length_drop]; omega)
  · rw [Nat.min_eq_right (by omega), List.drop_length, List.drop_of_length_le (by omega)]
    simp
theorem cut_take {α : Type} (xs : List α) (k : Nat) : cutG xs none (some (k : Int)) = xs.take k := by
  unfold cutG
  have e1 : HT.sIx xs.length xs.length (some (k : Int)) = min k xs.length := HT.sIx_nat _ _ _
  have e2 : HT.sIx xs.length 0 none = 0 := rfl
  rw [e1, e2, List.drop_zero, Nat.sub_zero]
  by_cases h : k ≤ xs.length
  · rw [Nat.min_eq_left h]
  · rw [Nat.min_eq_right (by omega), List.take_length, List.take_of_length_le (by omega)]
theorem sh_tints (ns : List Int) : Sh (.tuple (ns.map .int)) :=
  Bool.and_eq_true_iff.mpr ⟨by simp only [PyData.canLay0]; exact canAll fun d hd => by obtain ⟨_, _, rfl⟩ := List.mem_map.mp hd; rfl, decide_eq_true (by
    simp only [PyData.depth]
    exact Nat.le_trans (Nat.succ_le_succ (depthAll_le (k := 0) fun d hd => by obtain ⟨_, _, rfl⟩ := List.mem_map.mp hd; exact Nat.le_refl _)) (by decide))⟩
theorem eqvA_ints : ∀ a b : List Int, PyData.eqvAll (a.map .int) (b.map .int) = decide (a = b)
  | [], [] => by rfl
  | [], _ :: _ => by rfl
  | _ :: _, [] => by rfl
  | x :: xs, y :: ys => by
    show (decide (x = y) && PyData.eqvAll (xs.map .int) (ys.map .int)) = _
    rw [eqvA_ints xs ys]
    by_cases h : x = y <;> by_cases h2 : xs = ys <;> simp [h, h2]
theorem eqv_ints (a b : List Int) : PyData.eqv (.list (a.map .int)) (.list (b.map .int)) = decide (a = b) := eqvA_ints a b
theorem atI_lastG {α : Type} (l : List α) (p : α) : atI (l ++ [p]) (-1) = some p := by
  unfold atI ixN
  rw [if_neg (by decide)]
  rw [List.length_append, List.length_singleton, if_pos (by omega), show (-1 + ((l.length + 1 : Nat) : Int)).toNat = l.length by omega]
  show (l ++ [p])[l.length]? = _
  rw [List.getElem?_append_right (Nat.le_refl _), Nat.sub_self]
  rfl
theorem RunV.ok {rl : Int → Int → Prop} {F P : List Int} {run : List (Int × Int)} (h : RunV rl F P run) : RunOk F.length P.length run := ⟨h.g, fun _ hq => h.snd hq⟩
theorem eqv_tints (a b : List Int) : PyData.eqv (.tuple (a.map .int)) (.tuple (b.map .int)) = decide (a = b) := eqvA_ints a b
theorem eqv_hall (F P : List Int) : PyData.eqv (hallD F P) (hallD F P) = true := by
  show (PyData.eqv (.tuple (F.map .int)) (.tuple (F.map .int)) && (PyData.eqv (.tuple (P.map .int)) (.tuple (P.map .int)) && true)) = true
  rw [eqv_tints, eqv_tints, decide_eq_true rfl, decide_eq_true rfl]
  rfl
theorem sh_hall (F P : List Int) : Sh (hallD F P) :=
  Bool.and_eq_true_iff.mpr ⟨by
    show PyData.canLay0 (.tuple [sizesD F, sizesD P]) = true
    simp only [PyData.canLay0]
    exact canAll fun d hd => by
      simp only [List.mem_cons, List.not_mem_nil, or_false] at hd
      rcases hd with rfl | rfl
      · exact (Bool.and_eq_true_iff.mp (sh_tints F)).1
      · exact (Bool.and_eq_true_iff.mp (sh_tints P)).1, decide_eq_true (by
    show PyData.depth (.tuple [sizesD F, sizesD P]) ≤ 64
    have hd1 : ∀ X : List Int, PyData.depth (sizesD X) ≤ 1 := fun X => by
      show PyData.depth (.tuple (X.map .int)) ≤ 1
      simp only [PyData.depth]
      exact Nat.succ_le_succ (depthAll_le (k := 0) fun d hd => by obtain ⟨_, _, rfl⟩ := List.mem_map.mp hd; exact Nat.le_refl _)
    show PyData.depth (.tuple [sizesD F, sizesD P]) ≤ 64
    simp only [PyData.depth]
    exact Nat.le_trans (Nat.succ_le_succ (depthAll_le (k := 1) fun d hd => by
      simp only [List.mem_cons, List.not_mem_nil, or_false] at hd
      rcases hd with rfl | rfl
      · exact hd1 F
      · exact hd1 P)) (by decide))⟩
inductive Cv where
  | run (r : List (Int × Int))
  | tab (ws : List Str)
  | siz (z : Int)
def Cv.d : Cv → PyData
  | .run r => .tuple [.str "run", runD r]
  | .tab ws => .tuple [.str "table", .tuple (ws.map .str)]
  | .siz z => .tuple [.str "size", .int z]
def Cv.pos (feet pairs : List Int) (num : Int) : Cv → Bool
  | .run r => decide (num ≤ (srv r : Int))
  | .tab _ => false
  | .siz z => decide ((cF feet z : Int) + cP pairs z < num)
end DL
set_option maxHeartbeats 0
namespace DL
open PySem PySem.Spec PyProof.Rows L2
def chs (s : Str) : List Nat := s.cps.toList
def numT (x : Int) : Str := toString x
def joinT (xs : List Int) : Str := Txt.join "," (xs.map numT)
theorem chs_app (a b : Str) : chs (a ++ b) = chs a ++ chs b := by
  show (a.cps ++ b.cps).toList = _
  rw [Array.toList_append]; rfl
theorem str_ext {a b : Str} (h : chs a = chs b) : a = b := by
  cases a; cases b
  unfold chs at h
  congr 1
  exact Array.ext' h
theorem len_chs (s : Str) : s.length = (chs s).length := by
  unfold chs
  rw [Array.length_toList]; rfl
def tailT (xs : List Int) : List Nat := xs.flatMap fun y => 44 :: chs (numT y)
theorem glued_chs (ys : List Str) : ∀ (acc : Array Nat), (ys.foldl (fun acc p => acc ++ ("," : Str).cps ++ p.cps) acc).toList = acc.toList ++ ys.flatMap fun y => 44 :: chs y := by
  induction ys with
  | nil => intro acc; simp
  | cons y ys ih =>
    intro acc
    rw [List.foldl_cons, ih, List.flatMap_cons]
    have e : ("," : Str).cps.toList = [44] := by decide +kernel
    simp [chs, e]
theorem joinT_cons (x : Int) (xs : List Int) : chs (joinT (x :: xs)) = chs (numT x) ++ tailT xs := by
  show ((xs.map numT).foldl (fun acc p => acc ++ ("," : Str).cps ++ p.cps) (numT x).cps).toList = _
  rw [glued_chs]
  unfold tailT
  rw [List.flatMap_map]
  rfl
theorem joinT_nil : chs (joinT []) = [] := by decide +kernel
def pairsT (P : List Int) : Str := if P = [] then "-" else joinT P
def hallT (F P : List Int) : Str := joinT F ++ " / " ++ pairsT P
theorem num_len {x : Int} (h : 0 ≤ x ∧ x ≤ 10 ^ 6) : (numT x).length ≤ 7 := PyProof.Rows.toString_length_le h.1 (by decide) (by omega)
theorem num_log {x : Int} (h : 0 ≤ x ∧ x ≤ 10 ^ 6) : x.natAbs.log2 < 1920 := by
  have h1 : x.natAbs < 2 ^ 20 := by omega
  by_cases h0 : x.natAbs = 0
  · rw [h0]; decide
  · have := (Nat.log2_lt h0).mpr h1
    omega
theorem sum_len : ∀ {xs : List Int}, In1 (10 ^ 6) xs → ((xs.map numT).map (·.length)).sum ≤ xs.length * 7
  | [], _ => by simp
  | x :: xs, h => by
    have h1 := h x (by simp)
    have h2 := num_len (x := x) (by omega)
    have h3 := sum_len (xs := xs) fun y hy => h y (by simp [hy])
    rw [List.map_cons, List.map_cons, List.sum_cons, List.length_cons, Nat.succ_mul]
    omega
theorem join_len {xs : List Int} (h : In1 (10 ^ 6) xs) : (joinT xs).length ≤ xs.length * 8 := by
  rw [len_chs]
  have key : ∀ ys : List Int, In1 (10 ^ 6) ys → (tailT ys).length ≤ ys.length * 8 := by
    intro ys
    induction ys with
    | nil => intro _; simp [tailT]
    | cons y ys ih =>
      intro hy
      have h1 := hy y (by simp)
      have h2 := num_len (x := y) (by omega)
      rw [len_chs] at h2
      have h3 := ih fun z hz => hy z (by simp [hz])
      unfold tailT at h3 ⊢
      rw [List.flatMap_cons, List.length_append, List.length_cons, List.length_cons, Nat.succ_mul]
      omega
  cases xs with
  | nil => rw [joinT_nil]; simp
  | cons x xs =>
    have h1 := h x (by simp)
    have h2 := num_len (x := x) (by omega)
    rw [len_chs] at h2
    have h3 := key xs fun z hz => h z (by simp [hz])
    rw [joinT_cons, List.length_append, List.length_cons, Nat.succ_mul]
    omega
theorem app_len (a b : Str) : (a ++ b).length = a.length + b.length := by
  rw [len_chs, len_chs, len_chs, chs_app, List.length_append]
theorem pairsT_len {P : List Int} (h : In1 (10 ^ 6) P) : (pairsT P).length ≤ P.length * 8 + 1 := by
  unfold pairsT
  split
  · rw [show ("-" : Str).length = 1 by decide +kernel]; omega
  · have := join_len h; omega
end DL
set_option maxHeartbeats 4000000
namespace DL
open PySem PySem.Spec PyProof.Rows L2
section
variable {X : Cx} {Y : Fx}
/-- s.m() of a text -/
def dM0 (g : Str → PyData) (P : Str → Prop) (t : DTE) : DTE := fun ρ n R => t ρ n fun x n1 => ∃ a : Str, x = .dat (.str a) ∧ P a ∧ R (.dat (g a)) n1
theorem we_isdigit {o : Expr} {t : DTE} {apos pos : Pos} (ho : WE Y X o t) (hbase : attributeBase o "isdigit" X.env (eval o X.env) = eval o X.env := by rfl) (hline : (apos.endLine == pos.line) = true := by rfl) :
    WE Y X (.Call (.Attribute o "isdigit" apos) [] [] pos) (dM0 (fun a => .bool (Txt.isdigit a)) (fun _ => True) t) :=
  pe_imp (pe_m0 PySem.F.slot_str_isdigit PySem.F.type_str_isdigit mt_isdigit ho hbase hline) fun σ H Q ⟨Z, F, ρ, n, R, r, ht, k⟩ => ⟨Z, F, ρ, n, _, r, ht, fun x n1 F1 H1 v ⟨a, e1, _, hx⟩ g1 s1 d1 w1 => by
    subst e1
    simp only [VR, Rp] at w1
    subst w1
    exact ⟨⟨a, rfl⟩, a, rfl, rfl, trivial, k _ _ _ _ _ hx g1 s1 d1 (by simp [VR, Rp])⟩⟩
theorem we_isascii {o : Expr} {t : DTE} {apos pos : Pos} (ho : WE Y X o t) (hbase : attributeBase o "isascii" X.env (eval o X.env) = eval o X.env := by rfl) (hline : (apos.endLine == pos.line) = true := by rfl) :
    WE Y X (.Call (.Attribute o "isascii" apos) [] [] pos) (dM0 (fun a => .bool (Txt.isascii a)) (fun _ => True) t) :=
  pe_imp (pe_m0 PySem.F.slot_str_isascii PySem.F.type_str_isascii mt_isascii ho hbase hline) fun σ H Q ⟨Z, F, ρ, n, R, r, ht, k⟩ => ⟨Z, F, ρ, n, _, r, ht, fun x n1 F1 H1 v ⟨a, e1, _, hx⟩ g1 s1 d1 w1 => by
    subst e1
    simp only [VR, Rp] at w1
    subst w1
    exact ⟨⟨a, rfl⟩, a, rfl, rfl, trivial, k _ _ _ _ _ hx g1 s1 d1 (by simp [VR, Rp])⟩⟩
/-- a.split(b) -/
def mSplit (t u : DTE) : DTM := fun ρ n R => t ρ n fun x n1 => ∃ a : Str, x = .dat (.str a) ∧ u ρ n1 fun y n2 => ∃ b : Str, y = .dat (.str b) ∧ (b.length == 0) = false ∧ a.length + 2 ≤ sizeLine ∧ R ((Txt.split a b).map .str) n2
theorem rps_strs {K : PySem.W.Frag} {F : Hp} : ∀ (ss : List Str), Rps K F (ss.map PyData.str) (ss.map V.str)
  | [] => rps_nil
  | s :: ss => rps_cons (by simp [Rp]) (rps_strs ss)
theorem me_split {o e : Expr} {t u : DTE} {apos pos : Pos} (ho : WE Y X o t) (he : WE Y X e u) (h1 : starEach [e] X.env = [(false, eval e X.env)] := by rfl)
    (h2 : attributeBase o "split" X.env (eval o X.env) = eval o X.env := by rfl) (h3 : (apos.endLine == pos.line) = true := by rfl) : ME Y X (.Call (.Attribute o "split" apos) [e] [] pos) (mSplit t u) :=
  pe_imp (pe_split ho he h1 h2 h3) fun σ H Q ⟨Z, F, ρ, n, R, r, ht, k⟩ => ⟨Z, F, ρ, n, _, r, ht, fun x n1 F1 H1 v ⟨a, e1, hx⟩ g1 s1 d1 w1 => by
    subst e1
    simp only [VR, Rp] at w1
    subst w1
    refine ⟨⟨a, rfl⟩, Z, F1, ρ, n1, _, r.step g1 s1 d1, hx, fun y n2 F2 H2 u2 ⟨b, e2, hb, hl, hy⟩ g2 s2 d2 w2 => ?_⟩
    subst e2
    simp only [VR, Rp] at w2
    subst w2
    refine ⟨a, b, rfl, rfl, hb, hl, fun p hp => ?_⟩
    obtain ⟨g3, s3⟩ := Gp.newM (o := .lst ((Txt.split a b).map V.str)) hp s2
    have hp0 : H p = none := by
      cases e : H p with
      | none => rfl
      | some o => exact absurd hp ((g1.trans g2).dH p (by rw [e]; nofun))
    exact k _ _ _ _ _ _ hy ((g1.trans g2).trans g3.gr) s3 (g3.dk (((r.step g1 s1 d1).step g2 s2 d2).b)) hp0 (s2.free hp) upd_same (rps_strs _)⟩
/-- len(s), int(s) -/
def oLenS : DC := fun xs R => ∃ a : Str, xs = [.dat (.str a)] ∧ a.length ≤ sizeLine ∧ R (.int (a.length : Nat))
theorem ck_lenS {K : PySem.W.Frag} : CallOk K (fun xs H Q => ∃ z : Str, xs = [.str z] ∧ z.length ≤ sizeLine ∧ Q (.int z.length) H) oLenS := fun δ F H xs vs R Q hs hv ⟨a, e, hl, hr⟩ bk => by
  subst e
  obtain ⟨v, rfl, h⟩ := vr1 hv
  simp only [VR, Rp] at h
  subst h
  exact ⟨a, rfl, hl, bk.here hs hr (by simp [Rp])⟩
def oIntS : DC := fun xs R => ∃ (a : Str) (i : Int), xs = [.dat (.str a)] ∧ PySem.intText? a = some i ∧ a.length ≤ 640 ∧ R (.int i)
theorem ck_intS {K : PySem.W.Frag} : CallOk K (fun xs H Q => ∃ (a : Str) (n : Int), xs = [.str a] ∧ PySem.intText? a = some n ∧ a.length ≤ 640 ∧ Q (.int n) H) oIntS := fun δ F H xs vs R Q hs hv ⟨a, i, e, hi, hl, hr⟩ bk => by
  subst e
  obtain ⟨v, rfl, h⟩ := vr1 hv
  simp only [VR, Rp] at h
  subst h
  exact ⟨a, i, rfl, hi, hl, bk.here hs hr (by simp [Rp])⟩
/-- s[i] -/
def oIxS : D2 := fun x y R => ∃ (a : Str) (i : Int) (c : Nat), x = .dat (.str a) ∧ y = .dat (.int i) ∧ a.length ≤ sizeLine ∧ atI a.cps.toList i = some c ∧ R (.str ⟨#[c]⟩)
theorem bi_ixS {K : PySem.W.Frag} : BinOk K rIxS oIxS := fun δ F H x y v u R Q hs hx hy ⟨a, i, c, e1, e2, hl, ha, hr⟩ bk => by
  subst e1 e2
  simp only [VR, Rp] at hx hy
  exact ⟨a, i, c, hx, hy, hl, ha, bk.here hs hr (by simp [Rp])⟩
theorem we_ixS {a b : Expr} {t u : DTE} {pos : Pos} (ha : WE Y X a t) (hb : WE Y X b u) (hs : PlainIx b) : WE Y X (.Subscript a b pos) (dBin oIxS t u) := pe_imp (pe_ix ix_str ha hb hs) (two bi_ixS)
/-- s[a:b] -/
def dSlS (t : DTE) (l h : DTO) : DTE := fun ρ n R => t ρ n fun x n1 => ∃ a : Str, x = .dat (.str a) ∧ l ρ n1 fun lo n2 => h ρ n2 fun hi n3 => a.length ≤ sizeLine ∧ R (.dat (.str (cutS a lo hi))) n3
theorem we_sliceS {e : Expr} {lo hi : Option Expr} {t : DTE} {l h : DTO} {pos p2 : Pos} (he : WE Y X e t) (hl : WO Y X lo l) (hh : WO Y X hi h) : WE Y X (.Subscript e (.Slice lo hi none p2) pos) (dSlS t l h) :=
  pe_imp (pe_slice sl_str he hl hh) fun σ H Q ⟨Z, F, ρ, n, R, r, ht, k⟩ =>
    ⟨Z, F, ρ, n, _, r, ht, fun x n1 F1 H1 v ⟨a, e1, hx⟩ g1 s1 d1 w1 => by
      subst e1
      simp only [VR, Rp] at w1
      subst w1
      exact ⟨Z, F1, ρ, n1, _, r.step g1 s1 d1, hx, fun lo n2 F2 H2 hlo g2 s2 d2 => ⟨Z, F2, ρ, n2, _, (r.step g1 s1 d1).step g2 s2 d2, hlo, fun hi n3 F3 H3 ⟨hz, hhi⟩ g3 s3 d3 =>
        ⟨a, rfl, hz, k _ _ _ _ _ hhi ((g1.trans g2).trans g3) s3 d3 (by simp [VR, Rp])⟩⟩⟩⟩
/-- a sign in a text -/
def oInC (neg : Bool) : D2 := fun x y R => ∃ (s : Str) (c : Nat) (z : Str), x = .dat (.str s) ∧ s = ⟨#[c]⟩ ∧ y = .dat (.str z) ∧ R (.bool (if neg then !decide (c ∈ z.cps.toList) else decide (c ∈ z.cps.toList)))
theorem bi_notInC {K : PySem.W.Frag} : BinOk K (fun x y H Q => ∃ (c : Nat) (z : Str), x = .str ⟨#[c]⟩ ∧ y = .str z ∧ Q (.bl (!decide (c ∈ z.cps.toList))) H) (oInC true) := fun δ F H x y v u R Q hs hx hy ⟨s, c, z, e1, e, e2, hr⟩ bk => by
  subst e1 e e2
  simp only [VR, Rp] at hx hy
  exact ⟨c, z, hx, hy, bk.here hs hr (by simp [Rp])⟩
/-- for c in s -/
def sgnD (a : Str) : List PyData := (chs a).map fun c => .str ⟨#[c]⟩
def dSrcStr (t : DTE) : DSrc := fun ρ n R => t ρ n fun x n' => ∃ a : Str, x = .dat (.str a) ∧ R (sgnD a) n'
theorem itOk_str {K : PySem.W.Frag} {F : Hp} {a : Str} : ItOk K (Its a) F (sgnD a) where
  go := fun i H s hi => by
    have : (sgnD a).length = a.cps.size := by simp [sgnD, chs]
    rw [this] at hi; exact hi
  stop := fun i H s hi => by
    have : (sgnD a).length = a.cps.size := by simp [sgnD, chs]
    rw [this] at hi; exact hi
  yld := fun i H v H' x ⟨e, c, hc, hv⟩ s hx => by
    refine .inl ⟨e, ?_⟩
    subst hv
    unfold sgnD chs at hx
    rw [List.getElem?_map, Array.getElem?_toList, hc] at hx
    cases hx
    simp [Rp]
theorem di_str {tg e : Expr} {t : DTE} (he : WE Y X e t) : DI Y X tg e (dSrcStr t) := pi_imp (pi_str he) fun σ H R ⟨Z, F, ρ, n, Q, r, ht, k⟩ =>
  ⟨Z, F, ρ, n, _, r, ht, fun x n1 F1 H1 v ⟨a, e1, hx⟩ g1 s1 d1 w1 => by
    subst e1
    simp only [VR, Rp] at w1
    exact ⟨a, w1, k _ _ _ _ _ hx g1 s1 d1 itOk_str⟩⟩
/-- three of a list -/
def gL3 (i j l : Nat) : DTG := fun d ρ R => ∃ a b c, d = .list [a, b, c] ∧ R (((ρ.set i (some (.dat a))).set j (some (.dat b))).set l (some (.dat c)))
theorem gok_threeL {K : PySem.W.Frag} {i j l : Nat} : GOk K (gLst K 3 (gCons (gName i) (gCons (gName j) (gCons (gName l) gNil)))) (gL3 i j l) [i, j, l] := ⟨fun Y Z F H σ ρ n d v R Q r hr h k => by
  obtain ⟨a, b, c, rfl, h⟩ := h
  simp only [Rp] at hr
  obtain ⟨p, xs, rfl, hp, hxs⟩ := hr
  obtain ⟨u, v, w, rfl, h1, h2, h3⟩ := rps3 hxs
  refine ⟨p, _, rfl, SqL.of (r.b.sub _ _ hp), rfl, u, _, rfl, v, _, rfl, w, _, rfl, rfl, k _ _ h (((r.setD i h1).setD j h2).setD l h3) fun vs hv => ?_⟩
  rw [wipe_set (hv l (by simp)), wipe_set (hv j (by simp)), wipe_set (hv i (by simp))]⟩
end
end DL
set_option maxHeartbeats 0
set_option maxHeartbeats 0
namespace DL
open PySem PySem.Spec PyProof.Rows L2
def numB : PyData → Bool
  | .int _ => true
  | _ => false
def numIn (d : PyData) (a b : Int) : Bool := match d with
  | .int z => decide (a ≤ z) && decide (z ≤ b)
  | _ => false
theorem numIn_true {d : PyData} {a b : Int} (h : numIn d a b = true) : ∃ z, d = .int z ∧ a ≤ z ∧ z ≤ b := by
  unfold numIn at h
  split at h
  · rw [Bool.and_eq_true, decide_eq_true_eq, decide_eq_true_eq] at h
    exact ⟨_, rfl, h⟩
  · cases h
theorem tameE_int {i : Int} {m : Nat} (h : i.natAbs < 2 ^ m) (hm : m ≤ 1000) (h0 : 0 < m) : TameE (m + 3) 0 (.int i) := (tame_int h hm h0).e
end DL
set_option maxHeartbeats 0
namespace DL
open PySem PySem.Spec PyProof.Rows L2
abbrev szD (d : PyData) : Bool := numIn d 1 1000000
theorem num_ok (z : Int) : PyData.strOk (toString z : Str) = true := by
  unfold PyData.strOk
  rw [Array.all_eq_true']
  intro c hc
  have h1 : c ∈ (Str.ofString (toString z)).cps.toList := by simpa using hc
  have h2 : ¬ (c ≠ 45 ∧ (c < 48 ∨ 57 < c)) := fun h => int_text_free' c h z h1
  have h3 : c < 58 := by omega
  have key : ∀ c : Nat, c < 58 → (decide (c < 1114112) && !(decide (55296 ≤ c) && decide (c ≤ 57343))) = true := by decide +kernel
  have := key c h3
  simp at this ⊢
  omega
end DL
set_option maxHeartbeats 0
namespace DL
open PySem PySem.Spec PyProof.Rows L2
theorem isDR_dat {d : PyData} (h : isRefD d = false) : isDR (.dat d) = false := Bool.or_eq_false_iff.mpr ⟨rfl, h⟩
theorem Wo.put_at {w : Wo} {a : Addr} {o : Ob} : (w.put a o).ob a = some o := if_pos rfl
theorem Wo.put_ne {w : Wo} {a b : Addr} {o : Ob} (h : b ≠ a) : (w.put a o).ob b = w.ob b := if_neg h
theorem Wo.put_put {w : Wo} {a : Addr} {o u : Ob} : (w.put a o).put a u = w.put a u := by
  unfold Wo.put
  congr 1
  funext b
  simp only
  split <;> rfl
/-- the same, but for the errors that were handled -/
structure Sim (n n' : Wo) : Prop where
  nn : n'.n = n.n
  ob : n'.ob = n.ob
theorem Sim.trans {a b c : Wo} (h : Sim a b) (g : Sim b c) : Sim a c := ⟨g.nn.trans h.nn, g.ob.trans h.ob⟩
theorem caught_at {a : Addr} {ex : Ex} {d : Option Addr} {n : Wo} : (DL.caught a ex d n).xs a = some ⟨.ref ex.C, d, ex.fs⟩ := if_pos rfl
/-- none of a list of classes -/
theorem kitAny_no {K : PySem.W.Frag} {t : Value} : ∀ {cs : List Value}, (∀ c ∈ cs, PySem.W.kitOne K t c = some false) → PySem.W.kitAny K t cs = some false
  | [], _ => rfl
  | c :: cs, h => by
    unfold PySem.W.kitAny
    rw [h c (by simp)]
    exact kitAny_no fun d hd => h d (List.mem_cons_of_mem _ hd)
end DL
set_option maxHeartbeats 4000000
namespace DL
open PySem PySem.Spec PyProof.Rows L2
abbrev Hl := List Int × List Int
def halD (h : Hl) : PyData := hallD h.1 h.2
structure HlOk (h : Hl) : Prop where
  ok : HallOk h.1 h.2
  l1 : h.1.length ≤ 20
  l2 : h.2.length ≤ 20
/-- what a party's object holds -/
structure Pt where
  busy : Bool
  h : Hl
  m : Int
  f : Int
  hs : List Hl
  done : List PyData
def Pt.fs (p : Pt) : List (Str × PyData) := [("_busy", .bool p.busy), ("hall", halD p.h), ("most", .int p.m), ("fewest", .int p.f), ("_halls", .tuple (p.hs.map halD)), ("_done", .tuple p.done)]
structure Pt.Ok (p : Pt) : Prop where
  hh : HlOk p.h
  mo : IsMost p.h.1 p.h.2 p.m
  fe : IsFew p.h.1 p.h.2 p.f
  last : p.hs.getLast? = some p.h
  all : ∀ h ∈ p.hs, HlOk h
  len : p.hs.length = p.done.length + 1
  few : p.done.length ≤ 60
abbrev Out := Sum (Nat × List (Str × PyData)) Hl
def OutK (o : Out) (R : Hl → Prop) (E : Nat → List (Str × PyData) → Prop) : Prop := match o with
  | .inl (b, fs) => E b fs
  | .inr h => R h
def intD : PyData → Int
  | .int z => z
  | _ => 0
def aCome (d : PyData) (h : Hl) : Out := if szD d = true then (if 20 ≤ h.1.length then .inl (1, []) else .inr (h.1 ++ [intD d], h.2)) else .inl (0, [("value", d)])
def aLeave (d : PyData) (h : Hl) : Out := if numIn d 0 ((h.1.length : Int) - 1) = true then (if h.1.length = 1 then .inl (3, []) else .inr (h.1.take (intD d).toNat ++ h.1.drop ((intD d).toNat + 1), h.2)) else .inl (2, [("value", d)])
def aPut (d : PyData) (h : Hl) : Out := if szD d = true then (if 20 ≤ h.2.length then .inl (5, []) else .inr (h.1, h.2 ++ [intD d])) else .inl (4, [("value", d)])
def aTake (d : PyData) (h : Hl) : Out := if numIn d 0 ((h.2.length : Int) - 1) = true then .inr (h.1, h.2.take (intD d).toNat ++ h.2.drop ((intD d).toNat + 1)) else .inl (6, [("value", d)])
def aft (nm : Str) (d : PyData) (h : Hl) : Out := if nm = "come" then aCome d h else if nm = "leave" then aLeave d h else if nm = "put" then aPut d h else aTake d h
theorem aft_come {d : PyData} {h : Hl} : aft "come" d h = aCome d h := if_pos rfl
theorem aft_leave {d : PyData} {h : Hl} : aft "leave" d h = aLeave d h := (if_neg (by decide)).trans (if_pos rfl)
theorem aft_put {d : PyData} {h : Hl} : aft "put" d h = aPut d h := (if_neg (by decide)).trans ((if_neg (by decide)).trans (if_pos rfl))
theorem aft_take {d : PyData} {h : Hl} : aft "take" d h = aTake d h := (if_neg (by decide)).trans ((if_neg (by decide)).trans (if_neg (by decide)))
theorem numIn_int {z a b : Int} (h1 : a ≤ z) (h2 : z ≤ b) : numIn (.int z) a b = true := by
  show (decide (a ≤ z) && decide (z ≤ b)) = true
  rw [decide_eq_true h1, decide_eq_true h2]; rfl
theorem szD_true {d : PyData} (h : szD d = true) : ∃ z, d = .int z ∧ 1 ≤ z ∧ z ≤ 1000000 := numIn_true h
theorem in1_app {F : List Int} {z : Int} (h : In1 (10 ^ 6) F) (h1 : 1 ≤ z) (h2 : z ≤ 1000000) : In1 (10 ^ 6) (F ++ [z]) := fun x hx => by
  rcases List.mem_append.mp hx with q | q
  · exact h x q
  · obtain rfl := List.mem_singleton.mp q
    exact ⟨h1, h2⟩
theorem in1_cut {F : List Int} {i : Nat} (h : In1 (10 ^ 6) F) : In1 (10 ^ 6) (F.take i ++ F.drop (i + 1)) := fun x hx => by
  rcases List.mem_append.mp hx with q | q
  · exact h x (List.mem_of_mem_take q)
  · exact h x (List.mem_of_mem_drop q)
theorem cut_len {F : List Int} {i : Nat} (h : i < F.length) : (F.take i ++ F.drop (i + 1)).length + 1 = F.length := by
  rw [List.length_append, List.length_take, List.length_drop]
  omega
theorem come_ok {d : PyData} {h h' : Hl} (k : HlOk h) (e : aCome d h = .inr h') : HlOk h' := by
  unfold aCome at e
  split at e
  · rename_i q
    obtain ⟨z, rfl, z1, z2⟩ := szD_true q
    split at e
    · cases e
    · cases e
      exact ⟨⟨by rw [List.length_append]; have := k.ok.f1; show 1 ≤ h.1.length + 1; omega, by rw [List.length_append]; show h.1.length + 1 ≤ 40; omega, k.ok.p2, in1_app k.ok.fi z1 z2, k.ok.pi⟩, by rw [List.length_append]; show h.1.length + 1 ≤ 20; omega, k.l2⟩
  · cases e
theorem leave_ok {d : PyData} {h h' : Hl} (k : HlOk h) (e : aLeave d h = .inr h') : HlOk h' := by
  unfold aLeave at e
  split at e
  · rename_i q
    obtain ⟨z, rfl, z1, z2⟩ := numIn_true q
    split at e
    · cases e
    · cases e
      have hc : (h.1.take (intD (.int z)).toNat ++ h.1.drop ((intD (.int z)).toNat + 1)).length + 1 = h.1.length := cut_len (by show z.toNat < _; omega)
      have f1 := k.ok.f1
      have l1 := k.l1
      exact ⟨⟨by dsimp only; omega, by dsimp only; omega, k.ok.p2, in1_cut k.ok.fi, k.ok.pi⟩, by dsimp only; omega, k.l2⟩
  · cases e
theorem put_ok {d : PyData} {h h' : Hl} (k : HlOk h) (e : aPut d h = .inr h') : HlOk h' := by
  unfold aPut at e
  split at e
  · rename_i q
    obtain ⟨z, rfl, z1, z2⟩ := szD_true q
    split at e
    · cases e
    · cases e
      exact ⟨⟨k.ok.f1, k.ok.f2, by rw [List.length_append]; show h.2.length + 1 ≤ 40; omega, k.ok.fi, in1_app k.ok.pi z1 z2⟩, k.l1, by rw [List.length_append]; show h.2.length + 1 ≤ 20; omega⟩
  · cases e
theorem take_ok {d : PyData} {h h' : Hl} (k : HlOk h) (e : aTake d h = .inr h') : HlOk h' := by
  unfold aTake at e
  split at e
  · rename_i q
    obtain ⟨z, rfl, z1, z2⟩ := numIn_true q
    cases e
    have hc : (h.2.take (intD (.int z)).toNat ++ h.2.drop ((intD (.int z)).toNat + 1)).length + 1 = h.2.length := cut_len (by show z.toNat < _; omega)
    have l2 := k.l2
    exact ⟨⟨k.ok.f1, k.ok.f2, by dsimp only; omega, k.ok.fi, in1_cut k.ok.pi⟩, k.l1, by dsimp only; omega⟩
  · cases e
theorem aft_ok {nm : Str} {d : PyData} {h h' : Hl} (k : HlOk h) (e : aft nm d h = .inr h') : HlOk h' := by
  unfold aft at e
  split at e
  · exact come_ok k e
  split at e
  · exact leave_ok k e
  split at e
  · exact put_ok k e
  · exact take_ok k e
def Pt.next (p : Pt) (h : Hl) (m f : Int) (e : PyData) : Pt := ⟨p.busy, h, m, f, p.hs ++ [h], p.done ++ [e]⟩
theorem Pt.Ok.next {p : Pt} (k : p.Ok) {h : Hl} {m f : Int} {e : PyData} (hh : HlOk h) (mo : IsMost h.1 h.2 m) (fe : IsFew h.1 h.2 f) (l : p.done.length < 60) : (p.next h m f e).Ok :=
  ⟨hh, mo, fe, by show (p.hs ++ [h]).getLast? = some h; simp, fun x hx => by
    rcases List.mem_append.mp hx with q | q
    · exact k.all x q
    · obtain rfl := List.mem_singleton.mp q; exact hh, by show (p.hs ++ [h]).length = (p.done ++ [e]).length + 1; rw [List.length_append, List.length_append]; have := k.len; simp; omega, by show (p.done ++ [e]).length ≤ 60; rw [List.length_append]; show p.done.length + 1 ≤ 60; omega⟩
end DL
namespace DL
open PySem PySem.Spec PyProof.Rows L2
def four (nm : Str) : Prop := nm = "come" ∨ nm = "leave" ∨ nm = "put" ∨ nm = "take"
theorem last_at {hs : List Hl} {h : Hl} (e : hs.getLast? = some h) : atI (hs.map halD) (-1) = some (halD h) := by
  have hl : 0 < hs.length := by cases hs with | nil => cases e | cons a b => simp
  unfold atI ixN
  rw [if_neg (by decide), if_pos (by rw [List.length_map]; omega)]
  show (hs.map halD)[_]? = _
  rw [List.getElem?_map]
  have : ((-1 : Int) + ((hs.map halD).length : Int)).toNat = hs.length - 1 := by rw [List.length_map]; omega
  rw [this, ← List.getLast?_eq_getElem?, e]
  rfl
theorem get_int {K : PySem.W.Frag} {i : Int} {t : Tok} : PySem.W.specialIn K (.int i t) "__get__" = some none := by first | rfl | kernel_rfl
/-- what str shows of a party -/
def cat (ys : List Str) : Str := ys.foldl (· ++ ·) Str.empty
def partyT (p : Pt) : Str := cat [numT p.h.1.length, " guests, ", numT p.h.2.length, " pairs, ", cat ["served ", numT p.f, " to ", numT p.m], ", ", numT p.done.length, " edits"]
theorem cat_go {b : Nat} : ∀ (ys : List Str) (acc : Str), (∀ y ∈ ys, y.length ≤ b) → (ys.foldl (· ++ ·) acc).length ≤ acc.length + ys.length * b
  | [], acc, _ => by simp
  | y :: ys, acc, h => by
    rw [List.foldl_cons]
    refine Nat.le_trans (cat_go ys (acc ++ y) fun z hz => h z (List.mem_cons_of_mem _ hz)) ?_
    rw [PySem.Str.length_append, List.length_cons, Nat.succ_mul]
    have := h y (List.mem_cons_self ..)
    omega
theorem cat_take {L : List Str} (h : ∀ y ∈ L, y.length ≤ 1000) (k : Nat) (hk : k ≤ 100) : (cat (L.take k)).length ≤ sizeLine := by
  refine Nat.le_trans (cat_go (b := 1000) _ _ fun y hy => h y (List.mem_of_mem_take hy)) ?_
  have : (L.take k).length ≤ k := List.length_take_le _ _
  have e : (Str.empty).length = 0 := rfl
  rw [e, sizeLine_eq]
  have : (L.take k).length * 1000 ≤ 100 * 1000 := Nat.mul_le_mul_right _ (by omega)
  omega
theorem num_small {x : Int} (h : x.natAbs < 2 ^ 40) : (numT x).length ≤ 100 ∧ x.natAbs.log2 < 1920 := by
  have t := tame_int (m := 40) h (by decide) (by decide)
  have l := t.e.le
  refine ⟨Nat.le_trans l (by decide), ?_⟩
  by_cases z : x.natAbs = 0
  · rw [z]; decide
  · exact Nat.lt_trans ((Nat.log2_lt z).mpr h) (by decide)
theorem few_nn2 {F P : List Int} {f : Int} (h : IsFew F P f) (hf : F.length ≤ 40) (hp : P.length ≤ 40) : 0 ≤ f ∧ f ≤ 100 := by
  obtain ⟨⟨s, rfl⟩, _⟩ := h
  have a : cF F s ≤ F.length := List.length_filter_le _ _
  have b : cP P s ≤ P.length := List.length_filter_le _ _
  omega
theorem most_nn2 {F P : List Int} {f : Int} (h : IsMost F P f) (hf : F.length ≤ 40) (hp : P.length ≤ 40) : 0 ≤ f ∧ f ≤ 100 := by
  obtain ⟨⟨s, rfl⟩, _⟩ := h
  have a : cF F s ≤ F.length := List.length_filter_le _ _
  have b : cP P s ≤ P.length := List.length_filter_le _ _
  omega
end DL
namespace DL
open PySem PySem.Spec PyProof.Rows L2
theorem Wo.tr {a b c : Wo} {i j : Nat} (h : b ≤ a + i) (g : c ≤ b + j) : c ≤ a + (i + j) := ⟨by have h1 : b.n ≤ a.n + i := h.1; have h2 : c.n ≤ b.n + j := g.1; show c.n ≤ a.n + (i + j); omega, g.2.1.trans h.2.1, g.2.2.trans h.2.2⟩
theorem Wo.one {a : Wo} : a + 1 ≤ a + 1 := ⟨Nat.le_refl _, rfl, rfl⟩
theorem Wo.le' {a b : Wo} {i j : Nat} (h : b ≤ a + i) (q : i ≤ j) : b ≤ a + j := ⟨by have h1 : b.n ≤ a.n + i := h.1; show b.n ≤ a.n + j; omega, h.2.1, h.2.2⟩
theorem sizes_of {ys : List PyData} (h : ∀ y ∈ ys, ∃ z : Int, y = .int z ∧ 1 ≤ z ∧ z ≤ 10 ^ 6) : ∃ xs : List Int, ys = xs.map .int ∧ In1 (10 ^ 6) xs := ints_of h
end DL
namespace DL
open PySem PySem.Spec PyProof.Rows L2
structure SumsOk (feet pairs L sums : List Int) (b : Nat) : Prop where
  top : (feet.length : Int) ∈ sums
  all : ∀ y ∈ sums, ∃ s : Int, y = (cF feet s : Int) + cP pairs s
  has : ∀ s ∈ L, ((cF feet s : Int) + cP pairs s) ∈ sums
  len : sums.length ≤ b
theorem top_sum {feet pairs : List Int} (h1 : In1 (10 ^ 6) feet) (h2 : In1 (10 ^ 6) pairs) : (feet.length : Int) = (cF feet 1000001 : Int) + cP pairs 1000001 := by
  have a : cF feet 1000001 = feet.length := by
    unfold cF
    rw [List.filter_eq_self.mpr fun x hx => by have := h1 x hx; simp; omega]
  have b : cP pairs 1000001 = 0 := by
    unfold cP
    rw [List.filter_eq_nil_iff.mpr fun x hx => by have := h2 x hx; simp; omega]
    rfl
  rw [a, b]; simp
theorem SumsOk.start {feet pairs : List Int} (h1 : In1 (10 ^ 6) feet) (h2 : In1 (10 ^ 6) pairs) : SumsOk feet pairs [] [(feet.length : Int)] 1 :=
  ⟨List.mem_singleton.mpr rfl, fun y hy => ⟨1000001, (List.mem_singleton.mp hy).trans (top_sum h1 h2)⟩, fun s hs => (nomatch hs), Nat.le_refl _⟩
theorem SumsOk.add {feet pairs L sums : List Int} {b : Nat} (h : SumsOk feet pairs L sums b) (s : Int) : SumsOk feet pairs L (sums ++ [(cF feet s : Int) + cP pairs s]) (b + 1) :=
  ⟨List.mem_append_left _ h.top, fun y hy => (List.mem_append.mp hy).elim (h.all y) fun q => ⟨s, List.mem_singleton.mp q⟩, fun z hz => List.mem_append_left _ (h.has z hz), by rw [List.length_append]; have := h.len; show sums.length + 1 ≤ b + 1; omega⟩
theorem SumsOk.most {feet pairs sums : List Int} {b : Nat} (h1 : In1 (10 ^ 6) feet) (h2 : In1 (10 ^ 6) pairs) (h : SumsOk feet pairs (feet ++ pairs) sums b) {m : Int} (hm : m ∈ sums) (hle : ∀ y ∈ sums, m ≤ y) : IsMost feet pairs m := by
  refine ⟨h.all m hm, fun s' => ?_⟩
  obtain ⟨s0, h0, h3⟩ := most_at (feet := feet) (pairs := pairs) (top := 1000001) (fun x hx => by have := h1 x hx; omega) fun x hx => by have := h2 x hx; omega
  refine Int.le_trans ?_ (h3 s')
  rcases h0 with q | rfl
  · exact hle _ (h.has s0 (List.mem_append_left _ q))
  · rw [← top_sum h1 h2]; exact hle _ h.top
theorem ifN' {b : Bool} {A B : Prop} (hb : b = false) (h : A) : if (!b) = true then A else B := by subst hb; exact h
theorem ifNF' {b : Bool} {A B : Prop} (hb : b = true) (h : B) : if (!b) = true then A else B := by subst hb; exact h
end DL
namespace DL
open PySem PySem.Spec PyProof.Rows L2
theorem glued32 (ys : List Str) : ∀ (acc : Array Nat), (ys.foldl (fun acc p => acc ++ (" " : Str).cps ++ p.cps) acc).toList = acc.toList ++ ys.flatMap fun y => 32 :: chs y := by
  induction ys with
  | nil => intro acc; simp
  | cons y ys ih =>
    intro acc
    have e : (" " : Str).cps.toList = [32] := by decide +kernel
    rw [List.foldl_cons, ih, List.flatMap_cons]
    simp [chs, e]
theorem join32 (x : Str) (ys : List Str) : chs (Txt.join " " (x :: ys)) = chs x ++ ys.flatMap fun y => 32 :: chs y := by
  show (Array.toList _) = _
  exact glued32 ys x.cps
theorem cat_chs : ∀ (ys : List Str) (acc : Str), chs (ys.foldl (· ++ ·) acc) = chs acc ++ ys.flatMap chs
  | [], acc => by simp
  | y :: ys, acc => by
    rw [List.foldl_cons, cat_chs ys, chs_app, List.flatMap_cons, List.append_assoc]
theorem partyT_join (a b c d e : Str) : cat [a, " guests, ", b, " pairs, ", cat ["served ", c, " to ", d], ", ", e, " edits"] = Txt.join " " [a, "guests,", b, "pairs, served", c, "to", d ++ ",", e, "edits"] := by
  refine str_ext ?_
  rw [join32]
  unfold cat
  rw [cat_chs]
  have h0 : chs Str.empty = [] := rfl
  have h1 : chs " guests, " = 32 :: (chs "guests," ++ [32]) := by decide +kernel
  have h2 : chs " pairs, " ++ chs "served " = 32 :: (chs "pairs, served" ++ [32]) := by decide +kernel
  have h3 : chs " to " = 32 :: (chs "to" ++ [32]) := by decide +kernel
  have h4 : chs ", " = chs "," ++ [32] := by decide +kernel
  have h5 : chs " edits" = 32 :: chs "edits" := by decide +kernel
  simp only [List.flatMap_cons, List.flatMap_nil, cat_chs, h0, h1, h3, h4, h5, chs_app, List.nil_append, List.append_nil, List.append_assoc, List.cons_append]
  rw [show chs " pairs, " ++ (chs "served " ++ (chs c ++ 32 :: (chs "to" ++ 32 :: (chs d ++ (chs "," ++ 32 :: (chs e ++ 32 :: chs "edits")))))) = (chs " pairs, " ++ chs "served ") ++ (chs c ++ 32 :: (chs "to" ++ 32 :: (chs d ++ (chs "," ++ 32 :: (chs e ++ 32 :: chs "edits"))))) by rw [List.append_assoc], h2]
  simp
end DL
namespace DL
open PySem PySem.Spec PyProof.Rows L2
theorem len_sum : ∀ {ys : List Str}, (∀ y ∈ ys, y.length ≤ 1000) → (ys.map (fun x => x.length)).sum ≤ ys.length * 1000
  | [], _ => Nat.le_refl _
  | y :: ys, h => by
    rw [List.map_cons, List.sum_cons, List.length_cons, Nat.succ_mul]
    have a := h y (List.mem_cons_self ..)
    have b := len_sum (ys := ys) fun z hz => h z (List.mem_cons_of_mem _ hz)
    omega
end DL
open PySem PySem.Spec PyProof.Rows L2
namespace DL
theorem cut_init {α : Type} (xs : List α) : cutG xs none (some (-1)) = xs.dropLast := by
  unfold cutG
  have e0 : HT.sIx xs.length 0 none = 0 := rfl
  have e1 : HT.sIx xs.length xs.length (some (-1)) = xs.length - 1 := by
    unfold HT.sIx
    simp only []
    split <;> omega
  rw [e0, e1, List.drop_zero, List.dropLast_eq_take]
  rfl
def Pt.back (p : Pt) (h : Hl) (m f : Int) : Pt := ⟨p.busy, h, m, f, p.hs.dropLast, p.done.dropLast⟩
theorem back_last {p : Pt} (k : p.Ok) (h : p.done ≠ []) : ∃ h' : Hl, p.hs.dropLast.getLast? = some h' ∧ HlOk h' := by
  have l1 := List.length_pos_iff.mpr h
  have hl : 0 < p.hs.dropLast.length := by rw [List.length_dropLast, k.len]; omega
  have hne : p.hs.dropLast ≠ [] := List.length_pos_iff.mp hl
  exact ⟨_, List.getLast?_eq_some_getLast hne, k.all _ (List.dropLast_subset _ (List.getLast_mem hne))⟩
theorem Pt.Ok.back {p : Pt} (k : p.Ok) {h : Hl} {m f : Int} (hd : p.done ≠ []) (e : p.hs.dropLast.getLast? = some h) (hh : HlOk h) (mo : IsMost h.1 h.2 m) (fe : IsFew h.1 h.2 f) : (p.back h m f).Ok :=
  ⟨hh, mo, fe, e, fun x hx => k.all x (List.dropLast_subset _ hx), by
    have := List.length_pos_iff.mpr hd
    show p.hs.dropLast.length = p.done.dropLast.length + 1
    rw [List.length_dropLast, List.length_dropLast, k.len]; omega, by
    show p.done.dropLast.length ≤ 60
    rw [List.length_dropLast]; have := k.few; omega⟩
end DL
open PySem PySem.Spec PyProof.Rows L2
namespace DL
def okPL (d : PyData) : Bool := !isRefD d && d.showable && decide (d.depth ≤ 5) && decide (d.shown.length ≤ 1000) && PyData.strOk d.shown
structure PL (d : PyData) : Prop where
  nr : isRefD d = false
  tm : TameE 1000 5 d
  ok : PyData.strOk d.shown = true
theorem PL.of {d : PyData} (h : okPL d = true) : PL d := by
  unfold okPL at h
  simp only [Bool.and_eq_true, Bool.not_eq_true', decide_eq_true_eq] at h
  exact ⟨h.1.1.1.1, ⟨h.1.1.1.2, h.1.1.2, h.1.2⟩, h.2⟩
theorem PL.int {z : Int} (h1 : -1 ≤ z) (h2 : z ≤ 1001) : PL (.int z) := ⟨rfl, (tameE_int (m := 20) (by omega) (by decide) (by decide)).mono (by decide) (by decide), num_ok z⟩
end DL
open PySem PySem.Spec PyProof.Rows L2
namespace DL
abbrev Edt := Str × PyData
def edT' (e : Edt) : PyData := .tuple [.str e.1, e.2]
def BatK : List Edt → Pt → (Pt → Prop) → Prop
  | [], p, k => k p
  | e :: r, p, k => ∃ h, aft e.1 e.2 p.h = .inr h ∧ ∀ m f, IsMost h.1 h.2 m → IsFew h.1 h.2 f → BatK r (p.next h m f (edT' e)) k
theorem BatK.mono {k k' : Pt → Prop} (hk : ∀ q, k q → k' q) : ∀ {es : List Edt} {p : Pt}, BatK es p k → BatK es p k'
  | [], p, h => hk p h
  | e :: r, p, ⟨h, e1, h2⟩ => ⟨h, e1, fun m f hm hf => BatK.mono hk (h2 m f hm hf)⟩
end DL
open PySem PySem.Spec PyProof.Rows L2
namespace DL
def xt : Option Int → List (Str × PyData)
  | none => []
  | some k => [("pledge", .int k)]
theorem fx_no {p : Pt} {o : Option Int} {m : Str} (h : p.fs.lookup m = none) (h2 : (m == ("pledge" : Str)) = false) : (p.fs ++ xt o).lookup m = none := by
  have key : ∀ (l : List (Str × PyData)), l.lookup m = none → (l ++ xt o).lookup m = none := by
    intro l
    induction l with
    | nil =>
      intro _
      cases o with
      | none => rfl
      | some k => show List.lookup m [("pledge", PyData.int k)] = none; simp [List.lookup, h2]
    | cons a l ih =>
      obtain ⟨g, x⟩ := a
      intro h
      rw [List.cons_append]
      simp only [List.lookup] at h ⊢
      split at h
      · cases h
      · exact ih h
  exact key _ h
theorem fx_len {p : Pt} {o : Option Int} : (p.fs ++ xt o).length < 1000 := by cases o <;> exact Nat.le_of_ble_eq_true rfl
/-- is the pledge kept -/
def okP (o : Option Int) (f : Int) : Prop := ∀ k, o = some k → k ≤ f
def StX (b : Bool) (o : Option Int) (fs : List (Str × PyData)) : Prop := (fs = ([("_busy", .bool b)] : List (Str × PyData)) ∧ o = none) ∨ ∃ p : Pt, p.busy = b ∧ fs = p.fs ++ xt o
/-- a contract made stronger -/
theorem FnGX.imp {P : Program} {w : World} {K : PySem.W.Frag} {mg : Str → Option Value} {base : Heap} {k m : Nat} {f : Addr} {fd : FuncData} {ps : List Str} {c c' : DSpecX} (F : FnGX P w K mg base k f fd ps (spDX K m c)) (h : ∀ as n R E, c' as n R E → c as n R E) : FnGX P w K mg base k f fd ps (spDX K m c') :=
  have g : ∀ vs H Q E, spDX K m c' vs H Q E → spDX K m c vs H Q E := fun vs H Q E ⟨δ, Fz, as, n, R, E', hl, w1, s1, d1, o1, hc, hk, hx⟩ => ⟨δ, Fz, as, n, R, E', hl, w1, s1, d1, o1, h _ _ _ _ hc, hk, hx⟩
  ⟨fun vs H Q E hs => F.len vs H Q E (g _ _ _ _ hs), fun A outer s H args us vs Q E hg hr e0 hb rv hs => F.run A outer s H args us vs Q E hg hr e0 hb rv (g _ _ _ _ hs)⟩
end DL
open PySem PySem.Spec PyProof.Rows L2
namespace DL
def Nr : Nat → PyData → Prop
  | 0, d => isRefD d = false
  | k + 1, d => isRefD d = false ∧ ∀ ds, d = .tuple ds → ∀ x ∈ ds, Nr k x
theorem Nr.one : ∀ {k : Nat} {d : PyData}, Nr k d → isRefD d = false
  | 0, _, h => h
  | _ + 1, _, h => h.1
def NrA (d : PyData) : Prop := ∀ k, Nr k d
theorem NrA.leaf {d : PyData} (h : isRefD d = false) (h2 : ∀ ds, d ≠ .tuple ds) : NrA d := fun k => by
  cases k with
  | zero => exact h
  | succ k => exact ⟨h, fun ds e => absurd e (h2 ds)⟩
theorem NrA.tup {ds : List PyData} (h : ∀ x ∈ ds, NrA x) : NrA (.tuple ds) := fun k => by
  cases k with
  | zero => rfl
  | succ k => exact ⟨rfl, fun es e x hx => by cases e; exact h x hx k⟩
theorem NrA.int (z : Int) : NrA (.int z) := .leaf rfl fun _ e => (nomatch e)
theorem NrA.nr {d : PyData} (h : NrA d) : isRefD d = false := h 0
structure GV (m k : Nat) (d : PyData) : Prop where
  tm : TameE m k d
  nr : NrA d
theorem GV.mono {m k m' k' : Nat} {d : PyData} (h : GV m k d) (h1 : m ≤ m') (h2 : k ≤ k') : GV m' k' d := ⟨h.tm.mono h1 h2, h.nr⟩
theorem gv_int {z : Int} (h0 : -1 ≤ z) (h1 : z ≤ 10000000) : GV 500 4 (.int z) := ⟨(tameE_int (m := 24) (by omega) (by decide) (by decide)).mono (by decide) (by decide), .int z⟩
theorem gv_tup {m k l : Nat} {ds : List PyData} (h : ∀ x ∈ ds, GV m k x) (hl : ds.length ≤ l) : GV (l * (m + 2) + 3) (k + 1) (.tuple ds) := ⟨(tameE_tuple (m := m) (k := k) (l := l) (fun d hd => (h d hd).tm) hl).mono (by first | exact Nat.le_refl _ | omega | (rw [Nat.mul_add]; omega)) (Nat.le_refl _), .tup fun x hx => (h x hx).nr⟩
theorem gv_lst {m k l : Nat} {ds : List PyData} (h : ∀ x ∈ ds, GV m k x) (hl : ds.length ≤ l) : GV (l * (m + 2) + 3) (k + 1) (.list ds) := ⟨(tameE_list (m := m) (k := k) (l := l) (fun d hd => (h d hd).tm) hl).mono (by first | exact Nat.le_refl _ | omega | (rw [Nat.mul_add]; omega)) (Nat.le_refl _), .leaf rfl fun _ e => (nomatch e)⟩
def BentJ : Nat → PyData → Prop
  | 0, d => ∃ z : Int, d = .int z ∧ 1 ≤ z ∧ z ≤ 1000000
  | j + 1, d => (∃ z : Int, d = .int z ∧ 1 ≤ z ∧ z ≤ 1000000) ∨ ∃ ds, d = .tuple ds ∧ ds.length ≤ 20 ∧ ∀ x ∈ ds, BentJ j x
def bnd : Nat → Nat | 0 => 500 | 1 => 21000 | _ => 900000
def dep : Nat → Nat | 0 => 4 | 1 => 6 | _ => 7
def GJ (j : Nat) (d : PyData) : Prop := GV (bnd j) (dep j) d
theorem GV.gj {d : PyData} (h : GV 500 4 d) : ∀ {j : Nat}, j ≤ 2 → GJ j d
  | 0, _ => h
  | 1, _ => GV.mono h (by decide) (by decide)
  | 2, _ => GV.mono h (by decide) (by decide)
theorem gj_tup {j : Nat} {ds : List PyData} (h : ∀ x ∈ ds, GJ j x) (hl : ds.length ≤ 41) (hj : j ≤ 1) : GJ (j + 1) (.tuple ds) := by
  match j, hj, h with
  | 0, _, h => exact GV.mono (gv_tup h hl) (by decide) (by decide)
  | 1, _, h => exact GV.mono (gv_tup h hl) (by decide) (by decide)
theorem BentJ.gj : ∀ {j : Nat} {d : PyData}, j ≤ 1 → BentJ j d → GJ j d
  | 0, _, _, ⟨z, e, h0, h1⟩ => by subst e; exact (gv_int (by omega) (by omega)).gj (by decide)
  | 1, _, _, .inl ⟨z, e, h0, h1⟩ => by subst e; exact (gv_int (by omega) (by omega)).gj (by decide)
  | 1, _, _, .inr ⟨ds, e, hl, h⟩ => by subst e; exact gj_tup (fun x hx => (h x hx).gj (by decide)) (by omega) (by decide)
theorem BentJ.nr {j : Nat} {d : PyData} (hj : j ≤ 1) (h : BentJ j d) : isRefD d = false := (BentJ.gj hj h).nr.nr
def okT (s : Str) : Prop := PyData.strOk s = true
theorem okT.sh {s : Str} (h : okT s) : Sh (.str s) := (tame_str h).shaped (by decide)
end DL
open PySem PySem.Spec PyProof.Rows L2
namespace DL
theorem all_map (ds : List PyData) : (ds.map szD).all id = ds.all szD := by
  rw [List.all_map]
  rfl
/-- no object is named, told by looking -/
def noRef : Nat → PyData → Bool
  | 0, _ => false
  | k + 1, .tuple ds => ds.all (noRef k)
  | _ + 1, d => !isRefD d
theorem noRef_ok : ∀ {k : Nat} {d : PyData}, noRef k d = true → NrA d
  | 0, _, h => by cases h
  | k + 1, .tuple ds, h => .tup fun x hx => noRef_ok (List.all_eq_true.mp h x hx)
  | _ + 1, .int _, _ => .leaf rfl fun _ e => PyData.noConfusion e
  | _ + 1, .bool _, _ => .leaf rfl fun _ e => PyData.noConfusion e
  | _ + 1, .none, _ => .leaf rfl fun _ e => PyData.noConfusion e
  | _ + 1, .str _, _ => .leaf rfl fun _ e => PyData.noConfusion e
  | _ + 1, .list _, _ => .leaf rfl fun _ e => PyData.noConfusion e
  | _ + 1, .dict _, h => .leaf (by simpa [noRef] using h) fun _ e => PyData.noConfusion e
theorem gv_look {ds : List PyData} {m k : Nat} (h : (ds.all fun d => d.showable && decide (d.depth ≤ k) && decide (d.shown.length ≤ m) && noRef 9 d) = true) : ∀ d ∈ ds, GV m k d := fun d hd => by
  have k2 := List.all_eq_true.mp h d hd
  rw [Bool.and_eq_true, Bool.and_eq_true, Bool.and_eq_true, decide_eq_true_eq, decide_eq_true_eq] at k2
  exact ⟨⟨k2.1.1.1, k2.1.1.2, k2.1.2⟩, noRef_ok k2.2⟩
end DL
open PySem PySem.Spec PyProof.Rows L2
set_option maxHeartbeats 0
namespace DL
open PySem PySem.Spec PyProof.Rows L2
def isDg (c : Nat) : Bool := decide (48 ≤ c) && decide (c ≤ 57)
def digs (l : List Nat) : Bool := !l.isEmpty && l.all isDg
theorem dg128 : ∀ c : Nat, c < 128 → Unicode.isDigit c = isDg c := by decide +kernel
theorem isDg_iff {c : Nat} : isDg c = true ↔ 48 ≤ c ∧ c ≤ 57 := by
  unfold isDg
  rw [Bool.and_eq_true, decide_eq_true_eq, decide_eq_true_eq]
theorem digs_all {l : List Nat} (h : digs l = true) : NumText.AllDigits l ∧ l ≠ [] := by
  unfold digs at h
  rw [Bool.and_eq_true, List.all_eq_true] at h
  exact ⟨fun c hc => isDg_iff.mp (h.2 c hc), fun e => by rw [e] at h; simp at h⟩
theorem digs_of {l : List Nat} (h : NumText.AllDigits l) (hne : l ≠ []) : digs l = true := by
  unfold digs
  rw [Bool.and_eq_true, List.all_eq_true]
  refine ⟨?_, fun c hc => isDg_iff.mpr (h c hc)⟩
  cases l with
  | nil => exact absurd rfl hne
  | cons c l => rfl
theorem digs_txt (w : Str) : (Txt.isascii w && Txt.isdigit w) = digs (chs w) := by
  have e1 : Txt.isascii w = (chs w).all (· < 128) := by
    unfold Txt.isascii chs
    rw [Array.all_toList]
  have e2 : Txt.isdigit w = (!(chs w).isEmpty && (chs w).all Unicode.isDigit) := by
    unfold Txt.isdigit chs
    rw [Array.all_toList]
    congr 1
    unfold Str.length
    cases w with
    | mk a =>
      show decide (a.size > 0) = !a.toList.isEmpty
      rw [Bool.eq_iff_iff, decide_eq_true_eq]
      cases h : a.toList with
      | nil =>
        have : a.size = 0 := by rw [← Array.length_toList, h]; rfl
        simp [this]
      | cons x xs =>
        have : a.size = xs.length + 1 := by rw [← Array.length_toList, h]; rfl
        simp [this]
  rw [e1, e2, Bool.eq_iff_iff]
  unfold digs
  simp only [Bool.and_eq_true, List.all_eq_true, decide_eq_true_eq]
  constructor
  · rintro ⟨h1, h2, h3⟩
    exact ⟨h2, fun c hc => by rw [← dg128 c (h1 c hc)]; exact h3 c hc⟩
  · rintro ⟨h2, h3⟩
    have h1 : ∀ c ∈ chs w, c < 128 := fun c hc => by have := isDg_iff.mp (h3 c hc); omega
    exact ⟨h1, h2, fun c hc => by rw [dg128 c (h1 c hc)]; exact h3 c hc⟩
abbrev valL (l : List Nat) : Nat := NumText.digitsVal l
theorem val_snoc (p : List Nat) (c : Nat) : valL (p ++ [c]) = valL p * 10 + (c - 48) := by
  show (p ++ [c]).foldl _ 0 = _
  rw [List.foldl_append]; rfl
theorem fold_ge : ∀ (l : List Nat) (a : Nat), a ≤ l.foldl (fun acc c => acc * 10 + (c - 48)) a
  | [], a => Nat.le_refl _
  | c :: l, a => Nat.le_trans (by omega) (fold_ge l (a * 10 + (c - 48)))
theorem val_pos {c : Nat} {l : List Nat} (hc : 48 < c) : 0 < valL (c :: l) := by
  show 0 < (c :: l).foldl _ 0
  rw [List.foldl_cons]
  exact Nat.lt_of_lt_of_le (by omega) (fold_ge l _)
theorem canon : ∀ (l : List Nat), NumText.AllDigits l → l ≠ [] → (TL.numL (valL l) = l ↔ l = [48] ∨ l.head? ≠ some 48) := by
  suffices h : ∀ (r : List Nat), NumText.AllDigits r.reverse → r ≠ [] → (TL.numL (valL r.reverse) = r.reverse ↔ r.reverse = [48] ∨ r.reverse.head? ≠ some 48) by
    intro l h1 h2
    have := h l.reverse (by rwa [List.reverse_reverse]) (by simpa using h2)
    rwa [List.reverse_reverse] at this
  intro r
  induction r with
  | nil => intro _ h; exact absurd rfl h
  | cons c r ih =>
    intro hd _
    rw [List.reverse_cons] at hd ⊢
    have hc := hd c (by simp)
    have hp : NumText.AllDigits r.reverse := fun d hd' => hd d (by simp at hd' ⊢; exact .inl hd')
    by_cases hr : r = []
    · subst hr
      have e0 : valL (([] : List Nat).reverse ++ [c]) = c - 48 := by rw [val_snoc]; simp [valL, NumText.digitsVal]
      rw [e0, TL.numL_lt (by omega)]
      have e1 : 48 + (c - 48) = c := by omega
      simp only [List.reverse_nil, List.nil_append, e1]
      constructor
      · intro _
        by_cases q : c = 48
        · exact .inl (by rw [q])
        · exact .inr (by simpa using q)
      · intro _; trivial
    · have ih := ih hp hr
      have hne : r.reverse ≠ [] := by simpa using hr
      rw [val_snoc]
      generalize hq : r.reverse = p at *
      cases p with
      | nil => exact absurd rfl hne
      | cons a p =>
        have ha := hp a (by simp)
        by_cases h48 : a = 48
        · subst h48
          constructor
          · intro e
            exfalso
            by_cases hv : valL (48 :: p) = 0
            · rw [hv, TL.numL_lt (by omega)] at e
              have := congrArg List.length e
              simp at this
            · rw [TL.numL_step (by omega)] at e
              have e3 : (valL (48 :: p) * 10 + (c - 48)) / 10 = valL (48 :: p) := by omega
              rw [e3] at e
              have e4 := List.append_inj_left' e rfl
              rcases ih.mp e4 with q | q
              · rw [q] at hv
                exact hv (by decide)
              · exact q rfl
          · rintro (q | q)
            · have := congrArg List.length q
              simp at this
            · exact absurd rfl q
        · have hv : 0 < valL (a :: p) := val_pos (by omega)
          constructor
          · intro _; exact .inr (by simpa using h48)
          · intro _
            rw [TL.numL_step (by omega)]
            have e3 : (valL (a :: p) * 10 + (c - 48)) / 10 = valL (a :: p) := by omega
            have e4 : (valL (a :: p) * 10 + (c - 48)) % 10 = c - 48 := by omega
            rw [e3, e4, ih.mpr (.inr (by simpa using h48)), show 48 + (c - 48) = c by omega]
/-- what number_in gives -/
def numO (w : Str) (k : Nat) : Option Nat := if w.length ≤ k ∧ digs (chs w) = true ∧ TL.numL (valL (chs w)) = chs w then some (valL (chs w)) else none
def numOD (w : Str) (k : Nat) : PyData := match numO w k with
  | some v => .int (v : Nat)
  | none => .none
theorem numT_chs (v : Nat) : chs (Str.ofString (toString ((v : Nat) : Int))) = TL.numL v := TL.tl_num v
theorem str_num {w : Str} {v : Nat} : decide (Str.ofString (toString ((v : Nat) : Int)) = w) = decide (TL.numL v = chs w) := by
  rw [Bool.eq_iff_iff, decide_eq_true_eq, decide_eq_true_eq, ← numT_chs]
  exact ⟨fun e => by rw [e], fun e => str_ext e⟩
theorem int_txt {w : Str} (h : digs (chs w) = true) (hl : w.length ≤ 4300) : PySem.intText? w = some ((valL (chs w) : Nat) : Int) :=
  PySem.intText_digits (digs_all h).1 (digs_all h).2 hl
/-- the size that a word denotes, by the law's own look -/
def szO (w : Str) : Option Nat := if w.length ≤ 7 ∧ digs (chs w) = true ∧ (chs w).head? ≠ some 48 ∧ valL (chs w) ≤ 1000000 then some (valL (chs w)) else none
theorem szO_num {w : Str} {v : Nat} : szO w = some v ↔ numO w 7 = some v ∧ 1 ≤ v ∧ v ≤ 1000000 := by
  unfold szO numO
  constructor
  · intro h
    split at h
    · rename_i q
      cases h
      obtain ⟨q1, q2, q3, q4⟩ := q
      obtain ⟨d1, d2⟩ := digs_all q2
      rw [if_pos ⟨q1, q2, (canon _ d1 d2).mpr (.inr q3)⟩]
      refine ⟨rfl, ?_, q4⟩
      cases e : chs w with
      | nil => exact absurd e d2
      | cons c l =>
        rw [e] at q3 d1
        have := d1 c (by simp)
        have h48 : c ≠ 48 := fun z => q3 (by rw [z]; rfl)
        exact val_pos (by omega)
    · cases h
  · rintro ⟨h, h1, h2⟩
    split at h
    · rename_i q
      cases h
      obtain ⟨q1, q2, q3⟩ := q
      obtain ⟨d1, d2⟩ := digs_all q2
      refine if_pos ⟨q1, q2, ?_, h2⟩
      rcases (canon _ d1 d2).mp q3 with z | z
      · rw [z] at h1
        exact absurd h1 (by decide)
      · exact z
    · cases h
theorem szD_num (w : Str) : szD (numOD w 7) = (szO w).isSome := by
  unfold numOD
  cases e : numO w 7 with
  | none =>
    cases e2 : szO w with
    | none => rfl
    | some v => rw [(szO_num.mp e2).1] at e; cases e
  | some v =>
    show (decide ((1 : Int) ≤ (v : Nat)) && decide (((v : Nat) : Int) ≤ 1000000)) = _
    by_cases q : 1 ≤ v ∧ v ≤ 1000000
    · rw [szO_num.mpr ⟨e, q.1, q.2⟩]
      simp only [Option.isSome_some, Bool.and_eq_true, decide_eq_true_eq]
      omega
    · have : szO w = none := by
        cases e2 : szO w with
        | none => rfl
        | some u =>
          have := szO_num.mp e2
          rw [e] at this
          cases this.1
          exact absurd this.2 q
      rw [this]
      simp only [Option.isSome_none, Bool.and_eq_false_iff, decide_eq_false_iff_not]
      omega
def szV (w : Str) : Int := (valL (chs w) : Nat)
theorem szO_val {w : Str} {v : Nat} (h : szO w = some v) : (v : Int) = szV w := by
  unfold szO at h
  split at h
  · cases h; rfl
  · cases h
theorem numOD_val {w : Str} (h : (szO w).isSome = true) : numOD w 7 = .int (szV w) := by
  obtain ⟨v, e⟩ := Option.isSome_iff_exists.mp h
  unfold numOD
  rw [(szO_num.mp e).1, ← szO_val e]
theorem szV_in {w : Str} (h : (szO w).isSome = true) : 1 ≤ szV w ∧ szV w ≤ 10 ^ 6 := by
  obtain ⟨v, e⟩ := Option.isSome_iff_exists.mp h
  have := szO_num.mp e
  rw [← szO_val e]
  omega
/-- the sizes of a word -/
def szsO (ws : List Str) (most : Nat) : Option (List Int) := if ws.length ≤ most ∧ (ws.all fun w => (szO w).isSome) = true then some (ws.map szV) else none
def szsD (w : Str) (most : Nat) : PyData := match szsO (Txt.split w ",") most with
  | some xs => sizesD xs
  | none => .none
/-- what a word denotes at its place -/
def partD (i : Nat) (w : Str) : PyData := if i = 0 then szsD w 20 else if i = 1 then (if w = "/" then .str w else .none) else if i = 2 then (if w = "-" then .tuple [] else szsD w 20) else .none
def partsD (ws : List Str) : List PyData := ws.zipIdx.map fun p => partD p.2 p.1
/-- the first None among them -/
def firstN : Nat → List PyData → Option Nat
  | _, [] => none
  | i, d :: ds => if isN d = true then some i else firstN (i + 1) ds
def twoD : List PyData → PyData
  | [a, _, b] => .tuple [a, b]
  | _ => .none
def parseR (s : Str) : Sum Nat PyData := match firstN 0 (partsD (Txt.split s " ")) with
  | some j => .inl j
  | none => if (Txt.split s " ").length = 3 then .inr (twoD (partsD (Txt.split s " "))) else .inl (Txt.split s " ").length
theorem partsD_length (ws : List Str) : (partsD ws).length = ws.length := by simp [partsD]
theorem partsD_get {ws : List Str} {i : Nat} {w : Str} (h : ws[i]? = some w) : (partsD ws)[i]? = some (partD i w) := by
  unfold partsD
  rw [List.getElem?_map, List.getElem?_zipIdx, h]
  simp
theorem firstN_some : ∀ {ds : List PyData} {i j : Nat}, firstN i ds = some j → ∃ k, j = i + k ∧ ds[k]? = some .none ∧ ∀ m d, m < k → ds[m]? = some d → isN d = false
  | [], _, _, h => by cases h
  | d :: ds, i, j, h => by
    unfold firstN at h
    cases e : isN d with
    | true =>
      rw [e, if_pos rfl] at h
      cases h
      have : d = .none := by cases d <;> first | rfl | cases e
      exact ⟨0, by simp, by rw [this]; rfl, fun m _ hm => absurd hm (Nat.not_lt_zero _)⟩
    | false =>
      rw [e, if_neg Bool.false_ne_true] at h
      obtain ⟨k, e1, e2, e3⟩ := firstN_some h
      refine ⟨k + 1, by omega, by simpa using e2, fun m x hm hx => ?_⟩
      cases m with
      | zero => simp at hx; rw [← hx]; exact e
      | succ m => exact e3 m x (by omega) (by simpa using hx)
theorem firstN_none : ∀ {ds : List PyData} {i : Nat}, firstN i ds = none → ∀ d ∈ ds, isN d = false
  | [], _, _ => fun _ h => nomatch h
  | d :: ds, i, h => by
    unfold firstN at h
    cases e : isN d with
    | true => rw [e, if_pos rfl] at h; cases h
    | false =>
      rw [e, if_neg Bool.false_ne_true] at h
      intro x hx
      rcases List.mem_cons.mp hx with rfl | hx
      · exact e
      · exact firstN_none h x hx
theorem firstN_eq : ∀ {ds : List PyData} {i k : Nat} {d : PyData}, ds[k]? = some d → isN d = true → (∀ x ∈ ds.take k, isN x = false) → firstN i ds = some (i + k)
  | [], _, _, _, h, _, _ => by simp at h
  | e :: ds, i, 0, d, h, hd, _ => by
    simp at h; subst h
    unfold firstN
    rw [hd, if_pos rfl]; rfl
  | e :: ds, i, k + 1, d, h, hd, hno => by
    unfold firstN
    rw [hno e (by simp), if_neg Bool.false_ne_true, firstN_eq (i := i + 1) (k := k) (by simpa using h) hd fun x hx => hno x (by simp [hx])]
    congr 1; omega
theorem firstN_all : ∀ {ds : List PyData} {i : Nat}, (∀ d ∈ ds, isN d = false) → firstN i ds = none
  | [], _, _ => rfl
  | e :: ds, i, h => by
    unfold firstN
    rw [h e (by simp), if_neg Bool.false_ne_true]
    exact firstN_all fun d hd => h d (by simp [hd])
theorem isi_ns {d : PyData} (h : ∀ s, d ≠ .str s) : isiB (tyD d) "str" = false := by
  cases d with
  | str s => exact absurd rfl (h s)
  | none => exact (show isiB "NoneType" "str" = false by decide +kernel)
  | bool _ => exact (show isiB "bool" "str" = false by decide +kernel)
  | int _ => exact (show isiB "int" "str" = false by decide +kernel)
  | list _ => exact (show isiB "list" "str" = false by decide +kernel)
  | tuple _ => exact (show isiB "tuple" "str" = false by decide +kernel)
  | dict _ => exact (show isiB "dict" "str" = false by decide +kernel)
theorem szsD_no {w p : Str} {m : Nat} (h : p ∈ Txt.split w ",") (hn : szO p = none) : szsD w m = .none := by
  unfold szsD szsO
  rw [if_neg fun q => by have := List.all_eq_true.mp q.2 p h; rw [hn] at this; cases this]
theorem szsD_ok {w : Str} {m : Nat} (h : ∀ p ∈ Txt.split w ",", (szO p).isSome = true) : szsD w m = if (Txt.split w ",").length ≤ m then sizesD ((Txt.split w ",").map szV) else .none := by
  unfold szsD szsO
  have h2 : ((Txt.split w ",").all fun w => (szO w).isSome) = true := List.all_eq_true.mpr h
  by_cases q : (Txt.split w ",").length ≤ m
  · rw [if_pos ⟨q, h2⟩, if_pos q]
  · rw [if_neg fun z => q z.1, if_neg q]
theorem eqv_none (d : PyData) : PyData.eqv d .none = isN d := by cases d <;> rfl
theorem enumD_strs (ws : List Str) : enumD (ws.map .str) = ws.zipIdx.map fun p => .tuple [.int (p.2 : Nat), .str p.1] := by
  unfold enumD
  rw [List.zipIdx_map, List.map_map]
  rfl
theorem val_lt : ∀ {l : List Nat}, NumText.AllDigits l → valL l < 10 ^ l.length := by
  suffices h : ∀ (r : List Nat), NumText.AllDigits r.reverse → valL r.reverse < 10 ^ r.length by
    intro l h1
    have := h l.reverse (by rwa [List.reverse_reverse])
    rwa [List.reverse_reverse, List.length_reverse] at this
  intro r
  induction r with
  | nil => intro _; decide
  | cons c r ih =>
    intro hd
    rw [List.reverse_cons] at hd ⊢
    have hc := hd c (by simp)
    have := ih fun d hd' => hd d (by simp at hd' ⊢; exact .inl hd')
    rw [val_snoc, List.length_cons, Nat.pow_succ]
    omega
theorem val_log {l : List Nat} (h : NumText.AllDigits l) (hl : l.length ≤ 500) : ((valL l : Nat) : Int).natAbs.log2 < 1920 := by
  rw [Int.natAbs_natCast]
  have h1 := val_lt h
  have h2 : 10 ^ l.length ≤ 10 ^ 500 := Nat.pow_le_pow_right (by decide) hl
  have h3 : 10 ^ 500 < 2 ^ 1920 := by decide +kernel
  by_cases h0 : valL l = 0
  · rw [h0]; decide
  · exact (Nat.log2_lt h0).mpr (by omega)
theorem atI_hd {α : Type} (c : α) (l : List α) : atI (c :: l) 0 = some c := by
  unfold atI ixN
  simp
def wt (ws : List Str) : Nat := (ws.map (·.length)).sum + ws.length
theorem wt_mem {ws : List Str} {w : Str} (h : w ∈ ws) : w.length ≤ wt ws := by
  induction ws with
  | nil => cases h
  | cons a ws ih =>
    have e : wt (a :: ws) = a.length + 1 + wt ws := by unfold wt; simp; omega
    rcases List.mem_cons.mp h with rfl | h
    · omega
    · have := ih h; omega
theorem wt_split {s y : Str} (hy : 1 ≤ y.length) : wt (Txt.split s y) ≤ s.length + 1 := split_weight s y hy
theorem wt_len (ws : List Str) : ws.length ≤ wt ws := by unfold wt; omega
def Ch3 (s : Str) : Prop := ∀ c ∈ chs s, c < 1000
theorem Ch3.cut {a : Str} (ha : Ch3 a) (lo hi : Option Int) : Ch3 (cutS a lo hi) := fun c hc => ha c (List.mem_of_mem_drop (List.mem_of_mem_take (by simpa [cutS, chs] using hc)))
theorem joinL_mem {S : List Nat} {c : Nat} : ∀ {ws : List (List Nat)}, c ∈ TL.joinL S ws → c ∈ S ∨ ∃ w ∈ ws, c ∈ w
  | [], h => nomatch h
  | [p], h => .inr ⟨p, by simp, h⟩
  | p :: q :: r, h => by
    rcases List.mem_append.mp (show c ∈ p ++ (S ++ TL.joinL S (q :: r)) from h) with h | h
    · exact .inr ⟨p, by simp, h⟩
    rcases List.mem_append.mp h with h | h
    · exact .inl h
    rcases joinL_mem h with h | ⟨w, hw, hc⟩
    · exact .inl h
    · exact .inr ⟨w, List.mem_cons_of_mem _ hw, hc⟩
theorem mem_joinL {S : List Nat} {c : Nat} : ∀ {ws : List (List Nat)} {w : List Nat}, w ∈ ws → c ∈ w → c ∈ TL.joinL S ws
  | [], _, h, _ => nomatch h
  | [p], w, h, hc => by rw [List.mem_singleton.mp h] at hc; exact hc
  | p :: q :: r, w, h, hc => by
    show c ∈ p ++ (S ++ TL.joinL S (q :: r))
    rcases List.mem_cons.mp h with rfl | h
    · exact List.mem_append_left _ hc
    · exact List.mem_append_right _ (List.mem_append_right _ (mem_joinL h hc))
theorem Ch3.join {y : Str} {ws : List Str} (hy : Ch3 y) (h : ∀ w ∈ ws, Ch3 w) : Ch3 (Txt.join y ws) := fun c hc => by
  rw [show Txt.join y ws = Str.join y ws from StrLaws.glued_eq_join y ws] at hc
  have hc : c ∈ TL.joinL (chs y) (ws.map TL.tl) := (TL.tl_join y ws) ▸ hc
  rcases joinL_mem hc with h1 | ⟨l, hl, hcl⟩
  · exact hy c h1
  · obtain ⟨w, hw, rfl⟩ := List.mem_map.mp hl
    exact h w hw c hcl
theorem Ch3.split {s y : Str} (hs : Ch3 s) : ∀ w ∈ Txt.split s y, Ch3 w := fun w hw c hc => by
  refine hs c ?_
  have e := StrLaws.join_split s y
  have : c ∈ TL.joinL (chs y) ((Txt.split s y).map TL.tl) := mem_joinL (List.mem_map_of_mem hw) hc
  rw [← e]
  show c ∈ TL.tl (Str.join y (Txt.split s y))
  rw [TL.tl_join]
  exact this
theorem Ch3.ok {s : Str} (h : Ch3 s) : PyData.strOk s = true := by
  unfold PyData.strOk
  rw [Array.all_eq_true']
  intro c hc
  have := h c (by simpa [chs] using hc)
  simp; omega
theorem gv_str {s : Str} (h : Ch3 s) (hl : s.length ≤ 5000) : GV 60000 8 (.str s) := ⟨((tame_str h.ok).e).mono (by omega) (by decide), .leaf rfl fun _ e => (nomatch e)⟩
structure Tx (k : Nat) (s : Str) : Prop where
  ch : Ch3 s
  l : s.length ≤ k
theorem Tx.mono {a b : Nat} {s : Str} (h : Tx a s) (hl : a ≤ b) : Tx b s := ⟨h.ch, Nat.le_trans h.l hl⟩
end DL
set_option maxHeartbeats 0
namespace DL
open PySem PySem.Spec PyProof.Rows L2
theorem numT_szV {p : Str} (h : (szO p).isSome = true) : numT (szV p) = p := by
  obtain ⟨v, e⟩ := Option.isSome_iff_exists.mp h
  have h1 := (szO_num.mp e).1
  unfold numO at h1
  split at h1
  · rename_i q
    apply str_ext
    have : chs (numT (szV p)) = TL.numL (valL (chs p)) := TL.tl_num _
    rw [this]; exact q.2.2
  · cases h1
theorem szsD_some {w : Str} {m : Nat} (h : isN (szsD w m) = false) : ∃ xs : List Int, szsD w m = sizesD xs ∧ xs ≠ [] ∧ xs.length ≤ m ∧ In1 (10 ^ 6) xs ∧ joinT xs = w := by
  unfold szsD szsO at h ⊢
  split at h
  · rename_i xs e
    split at e
    · rename_i q
      cases e
      have hall := List.all_eq_true.mp q.2
      refine ⟨_, rfl, fun e => ?_, by rw [List.length_map]; exact q.1, fun x hx => ?_, ?_⟩
      · have := split_pos w ","
        rw [List.map_eq_nil_iff] at e
        rw [e] at this
        exact absurd this (by decide)
      · obtain ⟨p, hp, rfl⟩ := List.mem_map.mp hx
        exact szV_in (hall p hp)
      · unfold joinT
        rw [List.map_map]
        have e : (Txt.split w ",").map (numT ∘ szV) = Txt.split w "," := by
          conv => rhs; rw [← List.map_id (Txt.split w ",")]
          exact List.map_congr_left fun p hp => numT_szV (hall p hp)
        rw [e]
        exact (StrLaws.glued_eq_join _ _).trans (StrLaws.join_split w ",")
    · cases e
  · cases h
theorem parse_acc {s : Str} {p : PyData} (h : parseR s = .inr p) : ∃ F P : List Int, p = hallD F P ∧ HallOk F P ∧ F.length ≤ 20 ∧ P.length ≤ 20 ∧ hallT F P = s := by
  unfold parseR at h
  split at h
  · cases h
  · rename_i hf
    split at h
    · rename_i h3
      cases h
      have hj := StrLaws.join_split s " "
      have hno := firstN_none hf
      generalize Txt.split s " " = ws at *
      match ws, h3 with
      | [a, b, c], _ =>
        have e : partsD [a, b, c] = [partD 0 a, partD 1 b, partD 2 c] := rfl
        rw [e] at hno ⊢
        have h0 := hno (partD 0 a) (by simp)
        have h1 := hno (partD 1 b) (by simp)
        have h2 := hno (partD 2 c) (by simp)
        obtain ⟨F, f1, f2, f3, f4, f5⟩ := szsD_some (show isN (szsD a 20) = false from h0)
        have hb : b = "/" := by
          have h1 : isN (if b = "/" then PyData.str b else .none) = false := h1
          by_cases q : b = "/"
          · exact q
          · rw [if_neg q] at h1; cases h1
        obtain ⟨P, p1, p2, p3, p4⟩ : ∃ P : List Int, partD 2 c = sizesD P ∧ P.length ≤ 20 ∧ In1 (10 ^ 6) P ∧ pairsT P = c := by
          have h2 : isN (if c = "-" then PyData.tuple [] else szsD c 20) = false := h2
          by_cases q : c = "-"
          · exact ⟨[], by show (if c = "-" then PyData.tuple [] else szsD c 20) = _; rw [if_pos q]; rfl, Nat.zero_le _, (fun _ h => nomatch h), q.symm⟩
          · rw [if_neg q] at h2
            obtain ⟨P, p1, p2, p3, p4, p5⟩ := szsD_some h2
            exact ⟨P, by show (if c = "-" then PyData.tuple [] else szsD c 20) = _; rw [if_neg q]; exact p1, p3, p4, by unfold pairsT; rw [if_neg p2]; exact p5⟩
        have f1 : partD 0 a = sizesD F := f1
        refine ⟨F, P, by rw [f1, p1]; rfl, ⟨by have := List.length_pos_iff.mpr f2; omega, by omega, by omega, f4, p3⟩, f3, p2, ?_⟩
        rw [← hj]
        apply str_ext
        unfold hallT
        rw [chs_app, chs_app, f5, p4, hb]
        have e1 : chs (" / " : Str) = [32, 47, 32] := by decide +kernel
        have e2 : chs (Str.join " " [a, "/", c]) = TL.joinL (TL.tl " ") [chs a, chs "/", chs c] := TL.tl_join " " [a, "/", c]
        have e3 : TL.tl (" " : Str) = [32] := by decide +kernel
        have e4 : chs ("/" : Str) = [47] := by decide +kernel
        rw [e1, e2, e3, e4]
        show _ = chs a ++ ([32] ++ ([47] ++ ([32] ++ chs c)))
        simp
    · cases h
end DL
namespace DL
open PySem PySem.Spec PyProof.Rows L2
/-- what _sorted_sizes returns -/
def srtD (h : Hl) : PyData := .tuple [.list ((srt h.1).map .int), .list ((srt h.2).map .int)]
theorem eqv_srt (h g : Hl) : PyData.eqv (srtD h) (srtD g) = (decide (srt h.1 = srt g.1) && decide (srt h.2 = srt g.2)) := by
  show (PyData.eqv (.list ((srt h.1).map .int)) (.list ((srt g.1).map .int)) && (PyData.eqv (.list ((srt h.2).map .int)) (.list ((srt g.2).map .int)) && true)) = _
  rw [eqv_ints, eqv_ints, Bool.and_true]
theorem eqv_srt1 (h : Hl) : PyData.eqv (srtD h) (srtD h) = true := by rw [eqv_srt]; simp
end DL
namespace DL
open PySem PySem.Spec PyProof.Rows L2
theorem sh_srt {h : Hl} (hh : HlOk h) : Sh (srtD h) := by
  refine (tame_tuple (m := 2000) (k := 1) (l := 2) (fun d hd => ?_) (by simp)).shaped (by decide)
  simp only [List.mem_cons, List.not_mem_nil, or_false] at hd
  rcases hd with rfl | rfl
  · exact (tame_list (m := 23) (k := 0) (l := 40) (tame_ints (m := 20) (fun z hz => by have := hh.ok.fi z ((srt_perm _).mem_iff.mp hz); omega) (by decide) (by decide)) (by rw [List.length_map, (srt_perm _).length_eq]; exact hh.ok.f2)).mono (by decide) (by decide)
  · exact (tame_list (m := 23) (k := 0) (l := 40) (tame_ints (m := 20) (fun z hz => by have := hh.ok.pi z ((srt_perm _).mem_iff.mp hz); omega) (by decide) (by decide)) (by rw [List.length_map, (srt_perm _).length_eq]; exact hh.ok.p2)).mono (by decide) (by decide)
def promD : Option Int → PyData
  | none => .none
  | some k => .int k
end DL
namespace DL
open PySem PySem.Spec PyProof.Rows L2
/-- edits and the halls between them -/
structure Hst (es : List Edt) (hs : List Hl) : Prop where
  len : hs.length = es.length + 1
  st : ∀ (i : Nat) e h1 h2, es[i]? = some e → hs[i]? = some h1 → hs[i + 1]? = some h2 → aft e.1 e.2 h1 = .inr h2
theorem Hst.one (h : Hl) : Hst [] [h] := ⟨rfl, fun i e _ _ h1 => by simp at h1⟩
theorem Hst.next {es : List Edt} {hs : List Hl} {h h' : Hl} {e : Edt} (H : Hst es hs) (hl : hs.getLast? = some h) (ha : aft e.1 e.2 h = .inr h') : Hst (es ++ [e]) (hs ++ [h']) := by
  have l := H.len
  refine ⟨by simp [l], fun i e1 h1 h2 a b c => ?_⟩
  by_cases hi : i < es.length
  · rw [List.getElem?_append_left hi] at a
    rw [List.getElem?_append_left (by omega)] at b c
    exact H.st i e1 h1 h2 a b c
  · have hi2 : i = es.length := by
      have := (List.getElem?_eq_some_iff.mp a).1
      rw [List.length_append] at this
      simp at this
      omega
    subst hi2
    rw [List.getElem?_append_right (Nat.le_refl _), Nat.sub_self] at a
    rw [List.getElem?_append_left (by omega)] at b
    rw [List.getElem?_append_right (by omega), l, Nat.sub_self] at c
    rw [List.getLast?_eq_getElem?, l, Nat.add_sub_cancel, b] at hl
    cases a; cases c; cases hl
    exact ha
theorem Hst.back {es : List Edt} {hs : List Hl} (H : Hst es hs) (hne : es ≠ []) : Hst es.dropLast hs.dropLast := by
  have l := H.len
  have l1 := List.length_pos_iff.mpr hne
  refine ⟨by simp; omega, fun i e1 h1 h2 a b c => ?_⟩
  rw [List.dropLast_eq_take] at a b c
  have ha := (List.getElem?_eq_some_iff.mp a).1
  have hc := (List.getElem?_eq_some_iff.mp c).1
  rw [List.length_take] at ha hc
  rw [List.getElem?_take_of_lt (by omega)] at a b c
  exact H.st i e1 h1 h2 a b c
end DL
set_option maxHeartbeats 4000000
namespace DL
open PySem PySem.Spec PyProof.Rows L2
def HasKM (P : Program) (w : World) (K : PySem.W.Frag) (mg : Str → Option Value) (base : Heap) (x : Str) (C : Addr) (m : Str) (k : Nat) (ps : List Str) (c : DSpecX) : Prop :=
  mg x = some (.ref C) ∧ ∃ mc p g fd, ClX.CRead K C mc ∧ ClX.CMet K C mc m p g ∧ Binds K fd ps [] ∧ FnGX P w K mg base k g fd ps (spDX K ps.length c)
def dKM (C : Addr) (l : Nat) (c : DSpecX) (dw : DW) (t : DTA) : DTE := fun ρ n R => t ρ n fun as n1 => as.length + 1 = l ∧ c (.dat (refD C) :: as) n1 (fun d n2 => R (.dat d) n2) fun ex n2 => dw ex ρ n2
def dMakeL (i : Nat) (C : Addr) (c : DSpecX) (dw : DW) (t : DTA) : DTE := fun ρ n R => ρ[i]? = some (some (.dat (refD C))) ∧ dMake C c dw t ρ n R
section
variable {X : Cx} {Y : Fx} {W : WX} {dw : DW} {m : Str} {c : DSpecX} {k : Nat} {ps : List Str}
theorem km_im {l : Nat} {C : Addr} {t : DTA} (ok : WOk Y X.K dw W) : ∀ σ H Q, up Y X.K (dKM C l c dw t) σ H Q → (upA Y X.K t) σ H fun vs H1 => spDX X.K l c (.ref C :: vs) H1 Q (L2.WE W σ) :=
  fun σ H Q ⟨Z, F, ρ, n, R, r, ht, kk⟩ => ⟨Z, F, ρ, n, _, r, ht, fun as n1 F1 H1 vs hx g1 s1 d1 w1 => by
    obtain ⟨hl, hc⟩ := hx
    have r2 := r.step g1 s1 d1
    exact ⟨Z.δ, F1, .dat (refD C) :: as, n1, _, _, hl, .cons vr_ref w1, r2.b.sub, d1, r2.b.dkF, hc, fun d n2 F2 H2 v h2 g2 s2 d2 w2 => kk _ _ _ _ _ h2 (g1.trans g2) s2 d2 w2, fun ex n2 F2 H2 cls d h2 g2 s2 d2 w2 => ok _ _ _ _ _ _ _ _ _ h2 (r2.step g2 s2 d2) w2⟩⟩
theorem we_km {pl : Sem Bool} {x : Str} {C : Addr} {e : Expr} {es : List Expr} {t : DTA} {np apos pos : Pos} (tk : Takes X W) (ok : WOk Y X.K dw W) (HC : HasKM X.prog X.w X.K X.mg X.base x C m k ps c) (hgd : X.A.guards = some []) (hr : Room k X.A) (hg : Gl X x)
    (ha : WA Y X (e :: es) t) (hdb : (x == ("__debug__" : Str)) = false := by decide)
    (hst : starEach (e :: es) X.env = (false, eval e X.env) :: starEach es X.env := by rfl) (hpl : (backTo pos (starEach es X.env)).any (·.1) = false := by rfl)
    (ht : eval (.Call (.Attribute (.Name x np) m apos) (e :: es) [] pos) X.env = (do
      let ov ← eval (.Name x np) X.env
      standAt apos.atName
      let (f, first) ← holding [ov] (getMethod ov m pl)
      callWith pos f first (backTo pos (starEach (e :: es) X.env)) (backToKw pos (keywordEach [] X.env))) := by rfl) :
    WE Y X (.Call (.Attribute (.Name x np) m apos) (e :: es) [] pos) (dKM C ps.length c dw t) :=
  ⟨fun pins s σ H Q I h => by
    obtain ⟨hm, mc, p, g, fd, h1, h2, h3, h4⟩ := HC
    refine PySem.W.methodCall_KW (pl := pl) (ld_glob I hg hm ?_ hdb) ht
    refine ClX.getmethcm_ok I h1 h2 fun s2 I2 => ?_
    refine ClX.callwith_cm I2 (ClX.base_none I (Nat.le_refl _)) h2.fi (thn (ha.run pos _ s2 σ H _ I2 (km_im ok σ H Q h)) fun us s3 ⟨vs, H2, I3, rv, q2⟩ => ⟨⟨ClX.pin_at I3, I3.kIn⟩, ?_⟩) hst hpl
    have z : wpAny (model X.prog X.w) X.A (call (.ref s.heap.objs.size) us) (EP X ((s.heap.objs.size, PySem.W.methodObj (.ref g) (.ref C)) :: pins) σ Q) X.xe s3 :=
      wpAny_call (PySem.W.method_call (ClX.pin_at I3) (runxC (us := .ref C :: us) (vs := .ref C :: vs) h4 hgd hr I3.env0 h3 (passAt tk σ) I3 (.cons rfl rv) q2))
    exact thn z fun _ _ y => ClX.unpinE y⟩
theorem we_makeL {i : Nat} {C : Addr} {x xx : Str} {p pos : Pos} {e : Expr} {es : List Expr} {t : DTA} (tk : Takes X W) (ok : WOk Y X.K dw W) (h : HasC X.prog X.w X.K X.mg X.base xx C k ps c) (hgd : X.A.guards = some []) (hr : Room (k + 1) X.A)
    (hN : X.N[i]? = some x) (hv : Vis X.env.scope x) (ha : WA Y X (e :: es) t) (hdb : (x == ("__debug__" : Str)) = false := by decide) (hcd : (x == ("__classdict__" : Str)) = false := by decide)
    (he : starEach (e :: es) X.env = (false, eval e X.env) :: starEach es X.env := by rfl) (hpl : (backTo pos (starEach es X.env)).any (·.1) = false := by rfl) : WE Y X (.Call (.Name x p) (e :: es) [] pos) (dMakeL i C c dw t) :=
  ⟨fun pins s σ H Q I ⟨Z, F, ρ, n, R, r, ⟨hi, hmk⟩, kk⟩ => by
    obtain ⟨v, e1, e2⟩ := r.slot i _ hi
    obtain rfl := VR.ref (K := X.K) (δ := Z.δ) (F := F) (H := H) e2
    obtain ⟨_, hc, f, fd, M, hb, hF⟩ := h
    refine wpAny_Call_Name_kw (thn ((pe_var (pos := p) hN hv hdb hcd).run pins s σ H (fun v H1 => v = .ref C ∧ H1 = H) I ⟨.ref C, e1, rfl, rfl⟩) fun u s1 ⟨v, H1, I1, r1, q1⟩ => ?_)
    obtain ⟨rfl, rfl⟩ := q1
    cases r1
    exact PySem.W.callWith_K (h₀ := X.base) I.ok.mod.kin M.kp (thn (ha.run pos pins s1 σ _ _ I1 (make_im (m := ps.length) ok hc σ _ Q ⟨Z, F, ρ, n, R, r, hmk, kk⟩)) fun us s2 ⟨vs, H2, I2, rr, q⟩ => ⟨I2.kIn, runx_make M hF hgd hr hb (passAt tk σ) I2 rr q⟩) he hpl⟩
end
end DL
open PySem PySem.W
namespace DL
def szN (w : Str) : PyData := match szO w with
  | some v => .int (v : Nat)
  | none => .none
theorem len7 {w : Str} (h1 : digs (chs w) = true) (h2 : (chs w).head? ≠ some 48) (h3 : valL (chs w) ≤ 1000000) : w.length ≤ 7 := by
  obtain ⟨d1, d2⟩ := digs_all h1
  have e := (canon _ d1 d2).mpr (.inr h2)
  have := TL.numL_len (k := 7) (by decide) (show valL (chs w) < 10 ^ 7 by omega)
  rw [e] at this
  rw [len_chs]
  exact this
theorem szN_yes {w : Str} (h1 : digs (chs w) = true) (h2 : (chs w).head? ≠ some 48) (h3 : valL (chs w) ≤ 1000000) : szN w = .int (valL (chs w) : Nat) := by
  unfold szN szO
  rw [if_pos ⟨len7 h1 h2 h3, h1, h2, h3⟩]
theorem szN_no {w : Str} (h : szO w = none) : szN w = .none := by unfold szN; rw [h]
def dueL (d : PyData) : PyData := match d with
  | .str s => match parseR s with
    | .inl j => .list [.str "text", .int (j : Nat)]
    | .inr p => p
  | _ => .list [.str "text", .none]
theorem szN_ok {w : Str} (h : (szO w).isSome = true) : szN w = .int (szV w) := by
  obtain ⟨v, e⟩ := Option.isSome_iff_exists.mp h
  unfold szN
  rw [e, ← szO_val e]
theorem szN_lay (w : Str) : PyData.canLay0 (szN w) = true ∧ PyData.depth (szN w) ≤ 0 := by
  unfold szN
  split <;> exact ⟨rfl, Nat.le_refl _⟩
theorem sh_szN (ws : List Str) : Sh (.tuple (ws.map szN)) :=
  Bool.and_eq_true_iff.mpr ⟨by simp only [PyData.canLay0]; exact canAll fun d hd => by obtain ⟨p, _, rfl⟩ := List.mem_map.mp hd; exact (szN_lay _).1, decide_eq_true (by
    simp only [PyData.depth]
    exact Nat.le_trans (Nat.succ_le_succ (depthAll_le (k := 0) fun d hd => by obtain ⟨p, _, rfl⟩ := List.mem_map.mp hd; exact (szN_lay _).2)) (by decide))⟩
theorem cutS_split (z : Str) (i j : Nat) (h : i ≤ j) : (L2.cutS z none (some (i : Int))).length + (L2.cutS z (some (j : Int)) none).length ≤ z.length := by
  have e1 : (L2.cutS z none (some (i : Int))).length = (((chs z).drop 0).take (min i z.length - 0)).length := by
    rw [len_chs]
    show (chs (L2.cutS z none (some (i : Int)))).length = _
    have : chs (L2.cutS z none (some (i : Int))) = (((chs z).drop (HT.sIx z.length 0 none)).take (HT.sIx z.length z.length (some (i : Int)) - HT.sIx z.length 0 none)) := by simp [L2.cutS, chs]
    rw [this, HT.sIx_nat]
    rfl
  have e2 : (L2.cutS z (some (j : Int)) none).length = (((chs z).drop (min j z.length)).take (z.length - min j z.length)).length := by
    rw [len_chs]
    have : chs (L2.cutS z (some (j : Int)) none) = (((chs z).drop (HT.sIx z.length 0 (some (j : Int)))).take (HT.sIx z.length z.length none - HT.sIx z.length 0 (some (j : Int)))) := by simp [L2.cutS, chs]
    rw [this, HT.sIx_nat]
    rfl
  rw [e1, e2, List.length_take, List.length_take, List.length_drop, List.length_drop]
  have := len_chs z
  omega
theorem marks45 (s : Int) (h0 : 0 ≤ s) (h1 : s < 15) : ∃ m : Str, L2.atI [PyData.str "0", .str "7", .str " ", .str ",", .str "/", .str ":", .str "-", .str "+", .str "_", .str "x", .str "", .str "  ", .str "\n", .str " / ", .str "1000001"] s = some (.str m) ∧ m.length ≤ 7 := by
  obtain ⟨d, e, hd⟩ := atI_mem (xs := [PyData.str "0", .str "7", .str " ", .str ",", .str "/", .str ":", .str "-", .str "+", .str "_", .str "x", .str "", .str "  ", .str "\n", .str " / ", .str "1000001"]) h0 h1
  have key : ([PyData.str "0", .str "7", .str " ", .str ",", .str "/", .str ":", .str "-", .str "+", .str "_", .str "x", .str "", .str "  ", .str "\n", .str " / ", .str "1000001"].all fun d => match d with | .str m => decide (m.length ≤ 7) | _ => false) = true := by decide +kernel
  have := List.all_eq_true.mp key d hd
  cases d with
  | str m => exact ⟨m, e, of_decide_eq_true this⟩
  | _ => cases this
theorem odds45 (s : Int) (h0 : 0 ≤ s) (h1 : s < 16) : ∃ d : PyData, L2.atI [PyData.none, .int 5, .bool true, .tuple [], .list [], .dict [], .str "", .str "2", .str "2 /", .str "2 / ", .str "2 / -", .str "2 / 0", .str "- / 2", .str "/ 2", .str "2 / 2 /", .str "02 / 2"] s = some d ∧ isRefD d = false ∧ ∀ t, d = .str t → t.length ≤ 620 := by
  obtain ⟨d, e, hd⟩ := atI_mem (xs := [PyData.none, .int 5, .bool true, .tuple [], .list [], .dict [], .str "", .str "2", .str "2 /", .str "2 / ", .str "2 / -", .str "2 / 0", .str "- / 2", .str "/ 2", .str "2 / 2 /", .str "02 / 2"]) h0 h1
  have key : ([PyData.none, .int 5, .bool true, .tuple [], .list [], .dict [], .str "", .str "2", .str "2 /", .str "2 / ", .str "2 / -", .str "2 / 0", .str "- / 2", .str "/ 2", .str "2 / 2 /", .str "02 / 2"].all fun d => !isRefD d && match d with | .str m => decide (m.length ≤ 620) | _ => true) = true := by decide +kernel
  have := List.all_eq_true.mp key d hd
  rw [Bool.and_eq_true] at this
  refine ⟨d, e, by simpa using this.1, fun t q => ?_⟩
  subst q
  exact of_decide_eq_true this.2
theorem parse_idx {s : Str} {j : Nat} (h : parseR s = .inl j) : j ≤ s.length + 1 := by
  have hw := Nat.le_trans (wt_len (Txt.split s " ")) (wt_split (s := s) (y := " ") (by decide +kernel))
  have hp := partsD_length (Txt.split s " ")
  unfold parseR at h
  cases hf : firstN 0 (partsD (Txt.split s " ")) with
  | some i =>
    rw [hf] at h
    obtain ⟨k, e1, e2, _⟩ := firstN_some hf
    have := (List.getElem?_eq_some_iff.mp e2).1
    injection h with h
    omega
  | none =>
    rw [hf] at h
    by_cases h3 : (Txt.split s " ").length = 3
    · simp only [if_pos h3] at h
      cases h
    · simp only [if_neg h3] at h
      injection h with h
      omega
theorem tm45 {v : PyData} (hv : v = .none ∨ ∃ i : Nat, i ≤ 100000 ∧ v = .int i) : TameE 1000000 60 (.list [.str "text", v]) := by
  have h1 : GV 60000 8 (.str "text") := gv_str (by intro c hc; have e : chs ("text" : Str) = [116, 101, 120, 116] := by decide +kernel
                                                   rw [e] at hc; simp at hc; omega) (by decide +kernel)
  have h2 : GV 60000 8 v := by
    rcases hv with rfl | ⟨i, hi, rfl⟩
    · exact gv_look (ds := [.none]) (by decide +kernel) _ (List.mem_singleton.mpr rfl)
    · exact (gv_int (by omega) (by omega)).mono (by decide) (by decide)
  exact ((gv_lst (l := 2) (m := 60000) (k := 8) (ds := [.str "text", v]) (fun x hx => by
    simp only [List.mem_cons, List.not_mem_nil, or_false] at hx
    rcases hx with rfl | rfl
    · exact h1
    · exact h2) (Nat.le_refl 2)).tm).mono (by decide) (by decide)
end DL
set_option maxHeartbeats 0
namespace DL
open PySem PySem.Spec PyProof.Rows L2
def topS (i : Nat) : Stmt := PySem.Challenge.pw_shoeparty_k45_whole_parties_read.main.body.getD i (.Pass ⟨0, 0, 0, 0⟩)
structure CA where
  PartyError : Addr
  TooLarge : Addr
  BadShelf : Addr
  TooManyPairs : Addr
  BadFoot : Addr
  BadHall : Addr
  Busy : Addr
  TooManyEdits : Addr
  TooManyGuests : Addr
  LastGuest : Addr
  BadSize : Addr
  NothingToUndo : Addr
  BadNumber : Addr
  TooFewServed : Addr
  BadText : Addr
  NoGuest : Addr
  NoPair : Addr
  NoVersion : Addr
  Pledge : Addr
  Party : Addr
  PledgedParty : Addr
  CHANGES : Addr
structure Bn (K : PySem.W.Frag) (mg : Str → Option Value) (C : CA) : Prop where
  LookupError : mg "LookupError" = none
  ValueError : mg "ValueError" = none
  abs : mg "abs" = none
  all : mg "all" = none
  bool : mg "bool" = none
  enumerate : mg "enumerate" = none
  int : mg "int" = none
  isinstance : mg "isinstance" = none
  len : mg "len" = none
  list : mg "list" = none
  max : mg "max" = none
  min : mg "min" = none
  range : mg "range" = none
  repr : mg "repr" = none
  set : mg "set" = none
  sorted : mg "sorted" = none
  str : mg "str" = none
  sum : mg "sum" = none
  tuple : mg "tuple" = none
  zip : mg "zip" = none
  LIMIT : ∃ t, mg "LIMIT" = some (.int (1000) t)
  MAX_SIZE : ∃ t, mg "MAX_SIZE" = some (.int (1000000) t)
  MAX_GUESTS : ∃ t, mg "MAX_GUESTS" = some (.int (20) t)
  MAX_PAIRS : ∃ t, mg "MAX_PAIRS" = some (.int (20) t)
  SLASH : ∃ t, mg "SLASH" = some (.str "/" t)
  NO_PAIRS : ∃ t, mg "NO_PAIRS" = some (.str "-" t)
  WORDS : ∃ t, mg "WORDS" = some (.int (3) t)
  g_PartyError : mg "PartyError" = some (.ref C.PartyError)
  g_TooLarge : mg "TooLarge" = some (.ref C.TooLarge)
  g_BadShelf : mg "BadShelf" = some (.ref C.BadShelf)
  g_TooManyPairs : mg "TooManyPairs" = some (.ref C.TooManyPairs)
  g_BadFoot : mg "BadFoot" = some (.ref C.BadFoot)
  g_BadHall : mg "BadHall" = some (.ref C.BadHall)
  g_Busy : mg "Busy" = some (.ref C.Busy)
  g_TooManyEdits : mg "TooManyEdits" = some (.ref C.TooManyEdits)
  g_TooManyGuests : mg "TooManyGuests" = some (.ref C.TooManyGuests)
  g_LastGuest : mg "LastGuest" = some (.ref C.LastGuest)
  g_BadSize : mg "BadSize" = some (.ref C.BadSize)
  g_NothingToUndo : mg "NothingToUndo" = some (.ref C.NothingToUndo)
  g_BadNumber : mg "BadNumber" = some (.ref C.BadNumber)
  g_TooFewServed : mg "TooFewServed" = some (.ref C.TooFewServed)
  g_BadText : mg "BadText" = some (.ref C.BadText)
  g_NoGuest : mg "NoGuest" = some (.ref C.NoGuest)
  g_NoPair : mg "NoPair" = some (.ref C.NoPair)
  g_NoVersion : mg "NoVersion" = some (.ref C.NoVersion)
  g_Pledge : mg "Pledge" = some (.ref C.Pledge)
  g_Party : mg "Party" = some (.ref C.Party)
  g_PledgedParty : mg "PledgedParty" = some (.ref C.PledgedParty)
  g_CHANGES : mg "CHANGES" = some (.ref C.CHANGES)
  fk_CHANGES_come : ∃ g, PySem.W.nsIn K C.CHANGES "come" = some (some (.ref g)) ∧ mg "_with_guest" = some (.ref g)
  fk_CHANGES_leave : ∃ g, PySem.W.nsIn K C.CHANGES "leave" = some (some (.ref g)) ∧ mg "_without_guest" = some (.ref g)
  fk_CHANGES_put : ∃ g, PySem.W.nsIn K C.CHANGES "put" = some (some (.ref g)) ∧ mg "_with_pair" = some (.ref g)
  fk_CHANGES_take : ∃ g, PySem.W.nsIn K C.CHANGES "take" = some (some (.ref g)) ∧ mg "_without_pair" = some (.ref g)
  cg : PySem.W.specialIn K (.builtin "object.__class__") "__get__" = some (some (.builtin "getset_descriptor.__get__"))
  ct : PySem.W.takesIn K (.builtin "object.__class__") = some true
  ty_PartyError : PySem.W.typeIn K (.ref C.PartyError) = some (.type "type")
  hd_PartyError : PySem.W.hasDictIn K C.PartyError = true
  cl_TooLarge : PySem.W.isClsIn K C.TooLarge = true
  ty_TooLarge : PySem.W.typeIn K (.ref C.TooLarge) = some (.type "type")
  s_TooLarge_TooLarge : PySem.W.subIn K (.ref C.TooLarge) (.ref C.TooLarge) = some true
  cl_BadShelf : PySem.W.isClsIn K C.BadShelf = true
  ty_BadShelf : PySem.W.typeIn K (.ref C.BadShelf) = some (.type "type")
  s_BadShelf_BadShelf : PySem.W.subIn K (.ref C.BadShelf) (.ref C.BadShelf) = some true
  ty_TooManyPairs : PySem.W.typeIn K (.ref C.TooManyPairs) = some (.type "type")
  k_TooManyPairs : PySem.W.keepIn K (.ref C.TooManyPairs) = true
  ty_BadFoot : PySem.W.typeIn K (.ref C.BadFoot) = some (.type "type")
  k_BadFoot : PySem.W.keepIn K (.ref C.BadFoot) = true
  sa_BadFoot : PySem.W.findIn K (.ref C.BadFoot) "__setattr__" = some (some (.builtin "object.__setattr__"))
  cl_BadHall : PySem.W.isClsIn K C.BadHall = true
  ty_BadHall : PySem.W.typeIn K (.ref C.BadHall) = some (.type "type")
  k_BadHall : PySem.W.keepIn K (.ref C.BadHall) = true
  sa_BadHall : PySem.W.findIn K (.ref C.BadHall) "__setattr__" = some (some (.builtin "object.__setattr__"))
  s_BadHall_BadHall : PySem.W.subIn K (.ref C.BadHall) (.ref C.BadHall) = some true
  ty_Busy : PySem.W.typeIn K (.ref C.Busy) = some (.type "type")
  k_Busy : PySem.W.keepIn K (.ref C.Busy) = true
  ty_TooManyEdits : PySem.W.typeIn K (.ref C.TooManyEdits) = some (.type "type")
  k_TooManyEdits : PySem.W.keepIn K (.ref C.TooManyEdits) = true
  ty_TooManyGuests : PySem.W.typeIn K (.ref C.TooManyGuests) = some (.type "type")
  k_TooManyGuests : PySem.W.keepIn K (.ref C.TooManyGuests) = true
  ty_LastGuest : PySem.W.typeIn K (.ref C.LastGuest) = some (.type "type")
  k_LastGuest : PySem.W.keepIn K (.ref C.LastGuest) = true
  ty_BadSize : PySem.W.typeIn K (.ref C.BadSize) = some (.type "type")
  k_BadSize : PySem.W.keepIn K (.ref C.BadSize) = true
  sa_BadSize : PySem.W.findIn K (.ref C.BadSize) "__setattr__" = some (some (.builtin "object.__setattr__"))
  ty_NothingToUndo : PySem.W.typeIn K (.ref C.NothingToUndo) = some (.type "type")
  k_NothingToUndo : PySem.W.keepIn K (.ref C.NothingToUndo) = true
  hd_NothingToUndo : PySem.W.hasDictIn K C.NothingToUndo = true
  s_NothingToUndo_NothingToUndo : PySem.W.subIn K (.ref C.NothingToUndo) (.ref C.NothingToUndo) = some true
  ty_BadNumber : PySem.W.typeIn K (.ref C.BadNumber) = some (.type "type")
  k_BadNumber : PySem.W.keepIn K (.ref C.BadNumber) = true
  sa_BadNumber : PySem.W.findIn K (.ref C.BadNumber) "__setattr__" = some (some (.builtin "object.__setattr__"))
  ty_TooFewServed : PySem.W.typeIn K (.ref C.TooFewServed) = some (.type "type")
  k_TooFewServed : PySem.W.keepIn K (.ref C.TooFewServed) = true
  sa_TooFewServed : PySem.W.findIn K (.ref C.TooFewServed) "__setattr__" = some (some (.builtin "object.__setattr__"))
  cl_BadText : PySem.W.isClsIn K C.BadText = true
  ty_BadText : PySem.W.typeIn K (.ref C.BadText) = some (.type "type")
  k_BadText : PySem.W.keepIn K (.ref C.BadText) = true
  hd_BadText : PySem.W.hasDictIn K C.BadText = true
  ca_BadText : PySem.W.findIn K (.ref C.BadText) "__class__" = some (some (.builtin "object.__class__"))
  mo_BadText : PySem.W.mroIn K C.BadText (.type "object") = some true
  sa_BadText : PySem.W.findIn K (.ref C.BadText) "__setattr__" = some (some (.builtin "object.__setattr__"))
  s_BadText_PartyError : PySem.W.subIn K (.ref C.BadText) (.ref C.PartyError) = some true
  s_BadText_TooLarge : PySem.W.subIn K (.ref C.BadText) (.ref C.TooLarge) = some false
  s_BadText_BadShelf : PySem.W.subIn K (.ref C.BadText) (.ref C.BadShelf) = some false
  s_BadText_BadHall : PySem.W.subIn K (.ref C.BadText) (.ref C.BadHall) = some false
  s_BadText_BadText : PySem.W.subIn K (.ref C.BadText) (.ref C.BadText) = some true
  s_BadText_ValueError : PySem.W.subIn K (.ref C.BadText) (.type "ValueError") = some true
  ty_NoGuest : PySem.W.typeIn K (.ref C.NoGuest) = some (.type "type")
  k_NoGuest : PySem.W.keepIn K (.ref C.NoGuest) = true
  sa_NoGuest : PySem.W.findIn K (.ref C.NoGuest) "__setattr__" = some (some (.builtin "object.__setattr__"))
  ty_NoPair : PySem.W.typeIn K (.ref C.NoPair) = some (.type "type")
  k_NoPair : PySem.W.keepIn K (.ref C.NoPair) = true
  sa_NoPair : PySem.W.findIn K (.ref C.NoPair) "__setattr__" = some (some (.builtin "object.__setattr__"))
  ty_NoVersion : PySem.W.typeIn K (.ref C.NoVersion) = some (.type "type")
  k_NoVersion : PySem.W.keepIn K (.ref C.NoVersion) = true
  sa_NoVersion : PySem.W.findIn K (.ref C.NoVersion) "__setattr__" = some (some (.builtin "object.__setattr__"))
  hd_Pledge : PySem.W.hasDictIn K C.Pledge = true
  sa_Pledge : PySem.W.findIn K (.ref C.Pledge) "__setattr__" = some (some (.builtin "object.__setattr__"))
  cl_Party : PySem.W.isClsIn K C.Party = true
  ty_Party : PySem.W.typeIn K (.ref C.Party) = some (.type "type")
  k_Party : PySem.W.keepIn K (.ref C.Party) = true
  hd_Party : PySem.W.hasDictIn K C.Party = true
  ca_Party : PySem.W.findIn K (.ref C.Party) "__class__" = some (some (.builtin "object.__class__"))
  mo_Party : PySem.W.mroIn K C.Party (.type "object") = some true
  sa_Party : PySem.W.findIn K (.ref C.Party) "__setattr__" = some (some (.builtin "object.__setattr__"))
  s_Party_Party : PySem.W.subIn K (.ref C.Party) (.ref C.Party) = some true
  s_Party_PledgedParty : PySem.W.subIn K (.ref C.Party) (.ref C.PledgedParty) = some false
  s_Party_list : PySem.W.subIn K (.ref C.Party) (.type "list") = some false
  cl_PledgedParty : PySem.W.isClsIn K C.PledgedParty = true
  ty_PledgedParty : PySem.W.typeIn K (.ref C.PledgedParty) = some (.type "type")
  hd_PledgedParty : PySem.W.hasDictIn K C.PledgedParty = true
  ca_PledgedParty : PySem.W.findIn K (.ref C.PledgedParty) "__class__" = some (some (.builtin "object.__class__"))
  mo_PledgedParty : PySem.W.mroIn K C.PledgedParty (.type "object") = some true
  sa_PledgedParty : PySem.W.findIn K (.ref C.PledgedParty) "__setattr__" = some (some (.builtin "object.__setattr__"))
  s_PledgedParty_Party : PySem.W.subIn K (.ref C.PledgedParty) (.ref C.Party) = some true
  s_PledgedParty_PledgedParty : PySem.W.subIn K (.ref C.PledgedParty) (.ref C.PledgedParty) = some true
  sb_PartyError : PySem.W.subIn K (.ref C.PartyError) (.type "BaseException") = some true
  sb_TooManyPairs : PySem.W.subIn K (.ref C.TooManyPairs) (.type "BaseException") = some true
  sb_BadFoot : PySem.W.subIn K (.ref C.BadFoot) (.type "BaseException") = some true
  n_BadFoot : PySem.W.findIn K (.ref C.BadFoot) "value" = some none
  sb_BadHall : PySem.W.subIn K (.ref C.BadHall) (.type "BaseException") = some true
  n_BadHall : PySem.W.findIn K (.ref C.BadHall) "error" = some none
  sb_Busy : PySem.W.subIn K (.ref C.Busy) (.type "BaseException") = some true
  sb_TooManyEdits : PySem.W.subIn K (.ref C.TooManyEdits) (.type "BaseException") = some true
  sb_TooManyGuests : PySem.W.subIn K (.ref C.TooManyGuests) (.type "BaseException") = some true
  sb_LastGuest : PySem.W.subIn K (.ref C.LastGuest) (.type "BaseException") = some true
  sb_BadSize : PySem.W.subIn K (.ref C.BadSize) (.type "BaseException") = some true
  n_BadSize : PySem.W.findIn K (.ref C.BadSize) "value" = some none
  sb_NothingToUndo : PySem.W.subIn K (.ref C.NothingToUndo) (.type "BaseException") = some true
  sb_BadNumber : PySem.W.subIn K (.ref C.BadNumber) (.type "BaseException") = some true
  n_BadNumber : PySem.W.findIn K (.ref C.BadNumber) "value" = some none
  sb_TooFewServed : PySem.W.subIn K (.ref C.TooFewServed) (.type "BaseException") = some true
  n_TooFewServed : PySem.W.findIn K (.ref C.TooFewServed) "number" = some none
  ga_BadText : PySem.W.findIn K (.ref C.BadText) "__getattribute__" = some (some (.builtin "BaseException.__getattribute__"))
  gt_BadText : PySem.W.findIn K (.ref C.BadText) "__getattr__" = some none
  sb_BadText : PySem.W.subIn K (.ref C.BadText) (.type "BaseException") = some true
  n_BadText : PySem.W.findIn K (.ref C.BadText) "index" = some none
  sb_NoGuest : PySem.W.subIn K (.ref C.NoGuest) (.type "BaseException") = some true
  n_NoGuest : PySem.W.findIn K (.ref C.NoGuest) "value" = some none
  sb_NoPair : PySem.W.subIn K (.ref C.NoPair) (.type "BaseException") = some true
  n_NoPair : PySem.W.findIn K (.ref C.NoPair) "value" = some none
  sb_NoVersion : PySem.W.subIn K (.ref C.NoVersion) (.type "BaseException") = some true
  n_NoVersion : PySem.W.findIn K (.ref C.NoVersion) "value" = some none
  cv_Party_MOST_EDITS : ∃ t, PySem.W.findIn K (.ref C.Party) "MOST_EDITS" = some (some (.int 60 t))
  cv_PledgedParty_MOST_EDITS : ∃ t, PySem.W.findIn K (.ref C.PledgedParty) "MOST_EDITS" = some (some (.int 60 t))
  pg_Pledge : PySem.W.plainGet K C.Pledge Str.empty = true
  po_Pledge : PySem.W.plainOver K C.Pledge = true
  f_Pledge_pledge : PySem.W.findIn K (.ref C.Pledge) "pledge" = some none
  pg_Party : PySem.W.plainGet K C.Party Str.empty = true
  po_Party : PySem.W.plainOver K C.Party = true
  mk_Party : PySem.W.makesIn K C.Party = true
  f_Party__busy : PySem.W.findIn K (.ref C.Party) "_busy" = some none
  f_Party_hall : PySem.W.findIn K (.ref C.Party) "hall" = some none
  f_Party_most : PySem.W.findIn K (.ref C.Party) "most" = some none
  f_Party_fewest : PySem.W.findIn K (.ref C.Party) "fewest" = some none
  f_Party__halls : PySem.W.findIn K (.ref C.Party) "_halls" = some none
  f_Party__done : PySem.W.findIn K (.ref C.Party) "_done" = some none
  pg_PledgedParty : PySem.W.plainGet K C.PledgedParty Str.empty = true
  po_PledgedParty : PySem.W.plainOver K C.PledgedParty = true
  f_PledgedParty__busy : PySem.W.findIn K (.ref C.PledgedParty) "_busy" = some none
  f_PledgedParty_hall : PySem.W.findIn K (.ref C.PledgedParty) "hall" = some none
  f_PledgedParty_most : PySem.W.findIn K (.ref C.PledgedParty) "most" = some none
  f_PledgedParty_fewest : PySem.W.findIn K (.ref C.PledgedParty) "fewest" = some none
  f_PledgedParty__halls : PySem.W.findIn K (.ref C.PledgedParty) "_halls" = some none
  f_PledgedParty__done : PySem.W.findIn K (.ref C.PledgedParty) "_done" = some none
  f_PledgedParty_pledge : PySem.W.findIn K (.ref C.PledgedParty) "pledge" = some none
  e0_PartyError : PySem.W.excIn K C.PartyError [.type "ValueError", .type "Exception", .type "BaseException", .type "object"] "ValueError.__new__" = true
  e0_TooManyPairs : PySem.W.excIn K C.TooManyPairs [.type "ValueError", .type "Exception", .type "BaseException", .type "object"] "ValueError.__new__" = true
  e0_Busy : PySem.W.excIn K C.Busy [.type "ValueError", .type "Exception", .type "BaseException", .type "object"] "ValueError.__new__" = true
  e0_TooManyEdits : PySem.W.excIn K C.TooManyEdits [.type "ValueError", .type "Exception", .type "BaseException", .type "object"] "ValueError.__new__" = true
  e0_TooManyGuests : PySem.W.excIn K C.TooManyGuests [.type "ValueError", .type "Exception", .type "BaseException", .type "object"] "ValueError.__new__" = true
  e0_LastGuest : PySem.W.excIn K C.LastGuest [.type "ValueError", .type "Exception", .type "BaseException", .type "object"] "ValueError.__new__" = true
  e0_NothingToUndo : PySem.W.excIn K C.NothingToUndo [.type "ValueError", .type "Exception", .type "BaseException", .type "object"] "ValueError.__new__" = true
section
variable {K : PySem.W.Frag} {mg : Str → Option Value} {C : CA}
theorem Bn.m_BadText_PartyError (B : Bn K mg C) : PySem.W.exmOne K (.ref C.BadText) (.ref C.PartyError) = some true := PySem.W.exm_ref B.sb_PartyError B.hd_PartyError B.ty_PartyError B.s_BadText_PartyError
theorem Bn.e_TooManyPairs (B : Bn K mg C) : ErrC0 K mg "TooManyPairs" C.TooManyPairs := ⟨B.g_TooManyPairs, B.k_TooManyPairs, B.e0_TooManyPairs, B.sb_TooManyPairs, B.ty_TooManyPairs⟩
theorem Bn.e_Busy (B : Bn K mg C) : ErrC0 K mg "Busy" C.Busy := ⟨B.g_Busy, B.k_Busy, B.e0_Busy, B.sb_Busy, B.ty_Busy⟩
theorem Bn.e_TooManyEdits (B : Bn K mg C) : ErrC0 K mg "TooManyEdits" C.TooManyEdits := ⟨B.g_TooManyEdits, B.k_TooManyEdits, B.e0_TooManyEdits, B.sb_TooManyEdits, B.ty_TooManyEdits⟩
theorem Bn.e_TooManyGuests (B : Bn K mg C) : ErrC0 K mg "TooManyGuests" C.TooManyGuests := ⟨B.g_TooManyGuests, B.k_TooManyGuests, B.e0_TooManyGuests, B.sb_TooManyGuests, B.ty_TooManyGuests⟩
theorem Bn.e_LastGuest (B : Bn K mg C) : ErrC0 K mg "LastGuest" C.LastGuest := ⟨B.g_LastGuest, B.k_LastGuest, B.e0_LastGuest, B.sb_LastGuest, B.ty_LastGuest⟩
theorem Bn.e_NothingToUndo (B : Bn K mg C) : ErrC0 K mg "NothingToUndo" C.NothingToUndo := ⟨B.g_NothingToUndo, B.k_NothingToUndo, B.e0_NothingToUndo, B.sb_NothingToUndo, B.ty_NothingToUndo⟩
theorem Bn.m_NothingToUndo_NothingToUndo (B : Bn K mg C) : PySem.W.exmOne K (.ref C.NothingToUndo) (.ref C.NothingToUndo) = some true := PySem.W.exm_ref B.sb_NothingToUndo B.hd_NothingToUndo B.ty_NothingToUndo B.s_NothingToUndo_NothingToUndo
theorem Bn.is_BadText (B : Bn K mg C) : IsC K C.BadText := ⟨B.cl_BadText, B.ga_BadText, B.gt_BadText, B.sb_BadText, B.ca_BadText, B.cg, B.ct, B.mo_BadText⟩
theorem Bn.x_BadText (B : Bn K mg C) : XfC K C.BadText := ⟨B.ga_BadText, B.gt_BadText, B.sb_BadText, B.hd_BadText⟩
theorem Bn.xf_BadText (B : Bn K mg C) : XfC K C.BadText ∧ PySem.W.findIn K (.ref C.BadText) "index" = some none := ⟨B.x_BadText, B.n_BadText⟩
theorem Bn.c_Pledge (B : Bn K mg C) : Cls K C.Pledge := ⟨B.pg_Pledge, B.hd_Pledge, B.po_Pledge, B.sa_Pledge⟩
theorem Bn.fl_Pledge_pledge (B : Bn K mg C) : FldC K C.Pledge "pledge" := ⟨B.c_Pledge, B.f_Pledge_pledge⟩
theorem Bn.c_Party (B : Bn K mg C) : Cls K C.Party := ⟨B.pg_Party, B.hd_Party, B.po_Party, B.sa_Party⟩
theorem Bn.i_Party (B : Bn K mg C) : InsC K C.Party := ⟨B.c_Party, B.ca_Party, B.cg, B.ct, B.mo_Party⟩
theorem Bn.con_Party_MOST_EDITS (B : Bn K mg C) : ∃ u, Con K C.Party "MOST_EDITS" (.int 60) u := by
  obtain ⟨t, h⟩ := B.cv_Party_MOST_EDITS
  exact ⟨_, h, ⟨_, rfl⟩, get_int, by decide +kernel⟩
theorem Bn.fl_Party__busy (B : Bn K mg C) : FldC K C.Party "_busy" := ⟨B.c_Party, B.f_Party__busy⟩
theorem Bn.fl_Party_hall (B : Bn K mg C) : FldC K C.Party "hall" := ⟨B.c_Party, B.f_Party_hall⟩
theorem Bn.fl_Party_most (B : Bn K mg C) : FldC K C.Party "most" := ⟨B.c_Party, B.f_Party_most⟩
theorem Bn.fl_Party_fewest (B : Bn K mg C) : FldC K C.Party "fewest" := ⟨B.c_Party, B.f_Party_fewest⟩
theorem Bn.fl_Party__halls (B : Bn K mg C) : FldC K C.Party "_halls" := ⟨B.c_Party, B.f_Party__halls⟩
theorem Bn.fl_Party__done (B : Bn K mg C) : FldC K C.Party "_done" := ⟨B.c_Party, B.f_Party__done⟩
theorem Bn.c_PledgedParty (B : Bn K mg C) : Cls K C.PledgedParty := ⟨B.pg_PledgedParty, B.hd_PledgedParty, B.po_PledgedParty, B.sa_PledgedParty⟩
theorem Bn.i_PledgedParty (B : Bn K mg C) : InsC K C.PledgedParty := ⟨B.c_PledgedParty, B.ca_PledgedParty, B.cg, B.ct, B.mo_PledgedParty⟩
theorem Bn.con_PledgedParty_MOST_EDITS (B : Bn K mg C) : ∃ u, Con K C.PledgedParty "MOST_EDITS" (.int 60) u := by
  obtain ⟨t, h⟩ := B.cv_PledgedParty_MOST_EDITS
  exact ⟨_, h, ⟨_, rfl⟩, get_int, by decide +kernel⟩
theorem Bn.fl_PledgedParty__busy (B : Bn K mg C) : FldC K C.PledgedParty "_busy" := ⟨B.c_PledgedParty, B.f_PledgedParty__busy⟩
theorem Bn.fl_PledgedParty_hall (B : Bn K mg C) : FldC K C.PledgedParty "hall" := ⟨B.c_PledgedParty, B.f_PledgedParty_hall⟩
theorem Bn.fl_PledgedParty_most (B : Bn K mg C) : FldC K C.PledgedParty "most" := ⟨B.c_PledgedParty, B.f_PledgedParty_most⟩
theorem Bn.fl_PledgedParty_fewest (B : Bn K mg C) : FldC K C.PledgedParty "fewest" := ⟨B.c_PledgedParty, B.f_PledgedParty_fewest⟩
theorem Bn.fl_PledgedParty__halls (B : Bn K mg C) : FldC K C.PledgedParty "_halls" := ⟨B.c_PledgedParty, B.f_PledgedParty__halls⟩
theorem Bn.fl_PledgedParty__done (B : Bn K mg C) : FldC K C.PledgedParty "_done" := ⟨B.c_PledgedParty, B.f_PledgedParty__done⟩
theorem Bn.fl_PledgedParty_pledge (B : Bn K mg C) : FldC K C.PledgedParty "pledge" := ⟨B.c_PledgedParty, B.f_PledgedParty_pledge⟩
theorem Bn.k_BadText_TooLarge (B : Bn K mg C) : PySem.W.kitOne K (.ref C.BadText) (.ref C.TooLarge) = some false := kit_own B.cl_TooLarge B.ty_TooLarge B.s_TooLarge_TooLarge B.s_BadText_TooLarge
theorem Bn.k_BadText_BadShelf (B : Bn K mg C) : PySem.W.kitOne K (.ref C.BadText) (.ref C.BadShelf) = some false := kit_own B.cl_BadShelf B.ty_BadShelf B.s_BadShelf_BadShelf B.s_BadText_BadShelf
theorem Bn.k_BadText_BadHall (B : Bn K mg C) : PySem.W.kitOne K (.ref C.BadText) (.ref C.BadHall) = some false := kit_own B.cl_BadHall B.ty_BadHall B.s_BadHall_BadHall B.s_BadText_BadHall
theorem Bn.k_BadText_BadText (B : Bn K mg C) : PySem.W.kitOne K (.ref C.BadText) (.ref C.BadText) = some true := kit_own B.cl_BadText B.ty_BadText B.s_BadText_BadText B.s_BadText_BadText
theorem Bn.k_BadText_ValueError (B : Bn K mg C) : PySem.W.kitOne K (.ref C.BadText) (.type "ValueError") = some true := kit_oty (by decide +kernel) B.s_BadText_ValueError
theorem Bn.k_Party_Party (B : Bn K mg C) : PySem.W.kitOne K (.ref C.Party) (.ref C.Party) = some true := kit_own B.cl_Party B.ty_Party B.s_Party_Party B.s_Party_Party
theorem Bn.k_Party_PledgedParty (B : Bn K mg C) : PySem.W.kitOne K (.ref C.Party) (.ref C.PledgedParty) = some false := kit_own B.cl_PledgedParty B.ty_PledgedParty B.s_PledgedParty_PledgedParty B.s_Party_PledgedParty
theorem Bn.k_Party_list (B : Bn K mg C) : PySem.W.kitOne K (.ref C.Party) (.type "list") = some false := kit_oty (by decide +kernel) B.s_Party_list
theorem Bn.k_PledgedParty_Party (B : Bn K mg C) : PySem.W.kitOne K (.ref C.PledgedParty) (.ref C.Party) = some true := kit_own B.cl_Party B.ty_Party B.s_Party_Party B.s_PledgedParty_Party
end
section
variable {P : Program} {w : World} {K : PySem.W.Frag} {mg : Str → Option Value} {base : Heap} {C : CA}
abbrev s__law_deck : Stmt := topS 59
abbrev s__law_draw : Stmt := topS 60
def spDeckA (K : PySem.W.Frag) : Sp := fun vs H Q _ => ∃ (a : Addr) (ns : List Int), vs = [.ref a] ∧ SqL K H a (ns.map V.int) ∧ ns.length ≤ 63 ∧
  ∀ (H' : Hp) (p q : Addr), Same H H' → H p = none → H q = none → (dkA p q).at0 H' 0 → Q (.ref p) H'
theorem scDeck : FnScope ["script", "cell"] ["script"] (defScope s__law_deck) := ⟨rfl, rfl, rfl, by decide +kernel, rfl, by decide +kernel, by decide +kernel⟩
theorem ok_deck {f : Addr} {fd : FuncData} (F : Fun K "_law_deck" "_law_deck" s__law_deck f fd) (mabs : mg "abs" = none) : FnG P w K mg base 1 f fd ["script"] (spDeckA K) := by
  refine fng_of F scDeck (fun vs H Q E ⟨a, ns, e, _⟩ => by rw [e]; rfl) fun cdv A outer s H vs Q hgd hr ⟨a, ns, e, hS, hlen, k⟩ => ?_
  subst e
  refine ⟨_, pss_one (ps_ret (pe_lst (pa_cons (pe_lc (own := [("cell", 1)]) (g := gName 1) (tt := tYes) rfl scDeck.nd (pi_list (pe_slice sl_list (pv 0) po_none (po_some pe_int)))
    (blkOk_by (N := ["script", "cell"]) (sc := defScope s__law_deck) (by decide +kernel)) (fun _ _ _ _ _ => pg_name (i := 1) scDeck.nd rfl (Or.inl rfl)) (fun _ _ _ _ _ => pts_nil)
    (fun _ _ _ _ _ => pe_callB call_abs (by rfl) mabs PyProof.Rows.boot_abs (pa_cons (pv 1) pa_nil))) (pa_cons pe_int pa_nil)))), ?_⟩
  refine ⟨_, rfl, 63, rfl, a, _, rfl, hS, fun l hl => ?_⟩
  have cut : ∃ ms : List Int, cutV (ns.map V.int) none (some 63) = ms.map V.int ∧ ms.length ≤ 63 := by
    refine ⟨cutG ns none (some 63), by unfold cutG cutV; simp, ?_⟩
    unfold cutG
    rw [List.length_take, List.length_drop]
    omega
  obtain ⟨ms, e1, e2⟩ := cut
  rw [e1]
  have s1 : Same H (upd H l (.lst (ms.map V.int))) := fun b o e => by rw [upd_ne (ne_of_none e hl)]; exact e
  refine ⟨l, rfl, ⟨_, SqL.of upd_same⟩, fun D hD => ?_⟩
  have nlD : l ≠ D := fun q => by rw [← q, upd_same] at hD; cases hD
  have hD0 : H D = none := s1.free hD
  refine lc_list (K := K) (a := l) (xs := ms.map V.int) (fun i H' => ∃ cs : List Int, cs.length ≤ i ∧ (∀ c ∈ cs, 0 ≤ c) ∧ H' = upd (upd H l (.lst (ms.map V.int))) D (.lst (cs.map V.int)))
    ⟨[], Nat.le_refl _, fun _ h => (by cases h), rfl⟩ (fun i H' _ ⟨cs, _, _, e⟩ => by rw [e]; exact SqL.of (by rw [upd_ne nlD]; exact upd_same)) (fun i x H' hx ⟨cs, hc1, hc2, e⟩ => ?_) (fun H' ⟨cs, hc1, hc2, e⟩ => ?_)
  · subst e
    rw [List.getElem?_map] at hx
    obtain ⟨z, hz, rfl⟩ := Option.map_eq_some_iff.mp hx
    have hi : i < ms.length := (List.getElem?_eq_some_iff.mp hz).1
    refine ⟨rfl, V.int z, rfl, z, rfl, cs.map V.int, upd_same, small1000 (by rw [List.length_map]; omega), cs ++ [if z < 0 then -z else z], by rw [List.length_append]; show cs.length + 1 ≤ i + 1; omega, fun c hc => ?_, ?_⟩
    · rcases List.mem_append.mp hc with q | q
      · exact hc2 c q
      · rw [List.mem_singleton.mp q]; split <;> omega
    · rw [upd_upd, List.map_append] <;> rfl
  · subst e
    refine ⟨by show 2 ≤ sizeLine; decide, fun p hp => ?_⟩
    have hp2 : upd H l (.lst (ms.map V.int)) p = none := by
      by_cases q : p = D
      · rw [q, upd_same] at hp; cases hp
      · rw [upd_ne q] at hp; exact hp
    have npD : D ≠ p := fun q => by rw [← q, upd_same] at hp; cases hp
    rw [List.length_map] at hc1
    refine k _ p D (fun b o e => ?_) (s1.free hp2) hD0 ⟨cs, upd_same, by rw [upd_ne npD]; exact upd_same, by omega, hc2⟩
    have eb := s1 b o e
    rw [upd_ne (ne_of_none eb hp2), upd_ne (ne_of_none eb hD)]
    exact eb
def drawA : DSpec := fun as n R => ∃ lim : Int, as = [.deck false, .dat (.int lim)] ∧ 1 ≤ lim ∧ lim ≤ 10 ^ 7 ∧ n.n ≤ 10 ^ 6 ∧ ∀ r : Int, 0 ≤ r → r < lim → R (.int r) (n + 1)
theorem scDraw : FnScope ["deck", "many", "cell", "place"] ["deck", "many"] (defScope s__law_draw) := ⟨rfl, rfl, rfl, by decide +kernel, rfl, by decide +kernel, by decide +kernel⟩
theorem ok_draw {f : Addr} {fd : FuncData} (F : Fun K "_law_draw" "_law_draw" s__law_draw f fd) (mlen : mg "len" = none) : FnG P w K mg base 1 f fd ["deck", "many"] (spD K 2 drawA) := by
  refine fng_of F scDraw (fun vs H Q E ⟨δ, Fz, as, n, R, hl, w1, _⟩ => by rw [← Paired.length w1]; exact hl) fun cdv A outer s H vs Q hgd hr ⟨δ, Fz, as, n, R, hl, w1, s1, d1, o1, ⟨lim, ea, hl1, hl2, hn, hR⟩, hk⟩ => ?_
  subst ea
  obtain ⟨va, vb, rfl, h1, h2⟩ := vr2 w1
  obtain ⟨a, rfl, b, rfl⟩ := h1
  simp only [VR, Rp] at h2
  subst h2
  obtain ⟨⟨cells, hA, hB, hc1, hc2⟩, hob⟩ := d1
  have nba : b ≠ a := fun q => by
    rw [q, hA] at hB
    have q2 := HO.lst.inj (Option.some.inj hB)
    cases cells with
    | nil => cases q2
    | cons x r => simp at q2
  -- what is wanted behind the body
  have fin : ∀ (H' : Hp) (cs : List Int) (r : Int), H' a = some (.lst [.ref b, .int ((n.n : Int) + 1)]) → H' b = some (.lst (cs.map V.int)) → cs.length ≤ 63 → (∀ c ∈ cs, 0 ≤ c) → (∀ c o, c ≠ a → c ≠ b → H c = some o → H' c = some o) → 0 ≤ r → r < lim → Q (.int r) H' := fun H' cs r q1 q2 q3 q4 q5 q6 q7 => by
    have out : ∀ c o, c ∉ (dkA a b).own → H c = some o → H' c = some o := fun c o hc => q5 c o (fun e => hc (by rw [e]; simp [dkA])) fun e => hc (by rw [e]; simp [dkA])
    have keepI : ∀ c C dx fs, H c = some (.ins C dx fs) → H' c = some (.ins C dx fs) := fun c C dx fs e => q5 c _ (fun z => by rw [z, hA] at e; cases e) (fun z => by rw [z, hB] at e; cases e) e
    have inn : ∀ c, c ∈ (dkA a b).own → H' c ≠ none := fun c hc => by
      simp only [dkA, List.mem_cons, List.not_mem_nil, or_false] at hc
      rcases hc with e | e <;> rw [e]
      · rw [q1]; nofun
      · rw [q2]; nofun
    refine hk (.int r) (n + 1) Fz H' _ (hR r q6 q7) ⟨Same.refl _, fun _ _ h => h, fun c o hc e _ => out c o hc e, fun c C dx fs e => ⟨fs, keepI c C dx fs e⟩, fun c hc => ?_⟩ (fun c o e => ?_) ⟨⟨cs, q1, q2, q3, q4⟩, fun c ob e => (by
      obtain ⟨h1, dx, vs, h2, h3⟩ := hob.1 c ob e
      exact ⟨h1, dx, vs, keepI _ _ _ _ h2, h3⟩), hob.2⟩ (by simp [Rp])
    · by_cases z : c ∈ (dkA a b).own
      · exact inn c z
      · obtain ⟨o, e⟩ := some_of_ne hc
        rw [out c o z e]; nofun
    · exact out c o (fun z => by rw [(o1 c z).1] at e; cases e) (s1 _ _ e)
  refine ⟨_, pss_cons (ps_asg (pe_op op_add (pe_ix ix_list (pv 0) pe_int (fun _ _ => rfl)) pe_int) (pg_sub (pv 0) pe_int set_list))
    (pss_cons (ps_set (i := 2) scDraw.nd rfl (Or.inl rfl) pe_int) (pss_cons (ps_set (i := 3) scDraw.nd rfl (Or.inl rfl) (pe_un un_neg pe_int))
    (pss_cons (ps_if (pt_cmpR op_gt (pe_callB call_len_seq (by rfl) mlen PySem.boot_len (pa_cons (pe_ix ix_list (pv 0) pe_int (fun _ _ => rfl)) pa_nil)) pe_int (nomark _))
        (pss_cons (ps_set (i := 3) scDraw.nd rfl (Or.inl rfl) (pe_op op_mod (pe_ix ix_list (pv 0) pe_int (fun _ _ => rfl)) (pe_callB call_len_seq (by rfl) mlen PySem.boot_len (pa_cons (pe_ix ix_list (pv 0) pe_int (fun _ _ => rfl)) pa_nil))))
          (pss_one (ps_set (i := 2) scDraw.nd rfl (Or.inl rfl) (pe_ix ix_list (pe_ix ix_list (pv 0) pe_int (fun _ _ => rfl)) (pv 3) (fun _ _ => rfl))))) pss_nil)
    (pss_cons (ps_if (pt_cmpR op_ge (pv 2) (pe_op op_pow pe_int pe_int) (nomark _))
        (pss_cons (ps_asg (pe_op op_fdivW (pv 2) (pv 1)) (pg_sub (pe_ix ix_list (pv 0) pe_int (fun _ _ => rfl)) (pv 3) set_list)) (pss_one (ps_ret (pe_op op_mod (pv 2) (pv 1))))) pss_nil)
    (pss_one (ps_ret (pe_op op_mod (pe_op op_mod (pe_op op_pow (pe_op op_add (pe_op op_add (pe_op op_mod (pv 2) pe_int) (pe_op op_mul pe_int (pe_ix ix_list (pv 0) pe_int (fun _ _ => rfl)))) pe_int) pe_int) pe_int) (pv 1)))))))), ?_⟩
  refine ⟨_, rfl, a, _, 1, .int n.n, rfl, rfl, SqL.of hA, rfl, n.n, 1, rfl, rfl, _, rfl, a, _, 1, 1, rfl, rfl, hA, rfl, ?_⟩
  -- behind the first row
  have hA1 : upd H a (.lst ([V.ref b, V.int n.n].set 1 (.int ((n.n : Int) + 1)))) a = some (.lst [.ref b, .int ((n.n : Int) + 1)]) := upd_same
  have hB1 : upd H a (.lst ([V.ref b, V.int n.n].set 1 (.int ((n.n : Int) + 1)))) b = some (.lst (cells.map V.int)) := by rw [upd_ne nba]; exact hB
  have hO1 : ∀ c, c ≠ a → upd H a (.lst ([V.ref b, V.int n.n].set 1 (.int ((n.n : Int) + 1)))) c = H c := fun c hc => upd_ne hc
  generalize upd H a (.lst ([V.ref b, V.int n.n].set 1 (.int ((n.n : Int) + 1)))) = H1 at hA1 hB1 hO1
  have hO2 : ∀ c o, c ≠ a → H c = some o → H1 c = some o := fun c o hc e => (hO1 c hc).trans e
  have hA2 := hA1
  have hB2 := hB1
  have cdiv : ∀ c : Int, CDivW c lim := fun c => wide_div (b := 64) (by omega) (by omega) (by decide) (by decide)
  refine ⟨1, rfl, _, rfl, a, _, 0, .ref b, rfl, rfl, SqL.of hA2, rfl, b, _, rfl, .inl (SqL.of hB2), _, 0, rfl, rfl, _, rfl, ?_⟩
  rw [List.length_map]
  -- the last row, whatever was drawn
  have last : ∀ c : Int, 0 ≤ c → ((c % 2147483587 + 7919 * ((n.n : Int) + 1) + 1).natAbs < 2 ^ 64) := fun c hc => by
    have h1 : 0 ≤ c % 2147483587 := Int.emod_nonneg _ (by decide)
    have h2 : c % 2147483587 < 2147483587 := Int.emod_lt_of_pos _ (by decide)
    omega
  have hpos : (0 : Int) < lim := by omega
  have ends : ∀ (c z : Int), 0 ≤ z % lim ∧ z % lim < lim := fun c z => ⟨Int.emod_nonneg _ (by omega), Int.emod_lt_of_pos _ hpos⟩
  by_cases hne : cells = []
  · subst hne
    refine iteF ?_
    refine ⟨_, rfl, 10, 18, rfl, rfl, ⟨by decide, by decide, by decide⟩, 0, _, rfl, rfl, _, rfl, ?_⟩
    refine iteF ?_
    refine ⟨_, rfl, 0, 2147483587, rfl, rfl, (by decide : (0 : Int) < 2147483587), _, rfl, a, _, 1, .int ((n.n : Int) + 1), rfl, rfl, SqL.of hA2, rfl, 7919, _, rfl, rfl, .inl ⟨by decide, by decide⟩, _, _, rfl, rfl, _, 1, rfl, rfl, _, 5, rfl, rfl, ⟨by decide, by decide, last 0 (Int.le_refl 0)⟩,
      _, 2147483647, rfl, rfl, (by decide : (0 : Int) < 2147483647), _, rfl, _, lim, rfl, rfl, hpos, ?_⟩
    exact fin H1 [] _ hA2 hB2 hc1 hc2 (fun c o q1 q2 e => hO2 c o q1 e) (ends 0 _).1 (ends 0 _).2
  · have hlen : 0 < cells.length := List.length_pos_iff.mpr hne
    rw [decide_eq_true (show (0 : Int) < (cells.length : Int) by omega)]
    refine iteT ?_
    have m0 : (0 : Int) ≤ ((n.n : Int) + 1) % (cells.length : Int) := Int.emod_nonneg _ (by omega)
    have m1 : ((n.n : Int) + 1) % (cells.length : Int) < (cells.length : Int) := Int.emod_lt_of_pos _ (by omega)
    obtain ⟨j, hj⟩ : ∃ j : Nat, ((n.n : Int) + 1) % (cells.length : Int) = (j : Int) := ⟨(((n.n : Int) + 1) % (cells.length : Int)).toNat, by omega⟩
    have hjl : j < cells.length := by omega
    obtain ⟨c, hc⟩ : ∃ c, cells[j]? = some c := ⟨cells[j], by simp [hjl]⟩
    have hc0 : 0 ≤ c := hc2 c (List.mem_of_getElem? hc)
    refine ⟨_, rfl, a, _, 1, .int ((n.n : Int) + 1), rfl, rfl, SqL.of hA2, rfl, _, rfl, a, _, 0, .ref b, rfl, rfl, SqL.of hA2, rfl, b, _, rfl, .inl (SqL.of hB2), _, _, rfl, rfl, (by rw [List.length_map]; omega), ?_⟩
    refine ⟨_, rfl, a, _, 0, .ref b, rfl, rfl, SqL.of hA2, rfl, _, rfl, b, _, _, .int c, rfl, rfl, SqL.of hB2, (by rw [List.length_map, hj]; exact atI_nat (by rw [List.getElem?_map, hc]; rfl)), ?_⟩
    refine ⟨_, rfl, 10, 18, rfl, rfl, ⟨by decide, by decide, by decide⟩, c, _, rfl, rfl, _, rfl, ?_⟩
    refine ite2 (fun _ => ?_) fun _ => ?_
    · refine ⟨_, rfl, _, rfl, c, lim, rfl, rfl, cdiv c, _, rfl, a, _, 0, .ref b, rfl, rfl, SqL.of hA2, rfl, _, rfl, b, _, _, j, rfl, rfl, hB2, ?_, ?_⟩
      · rw [List.length_map, hj]
        unfold ixN
        rw [if_pos (by omega), if_pos (by omega)]
        rfl
      · refine ⟨_, rfl, _, rfl, c, lim, rfl, rfl, hpos, ?_⟩
        refine fin _ (cells.set j (c / lim)) _ (by rw [upd_ne (Ne.symm nba)]; exact hA2) (by rw [upd_same, List.map_set]) (by rw [List.length_set]; exact hc1) (fun d hd => ?_) (fun d o q1 q2 e => by rw [upd_ne q2]; exact hO2 d o q1 e) (ends 0 _).1 (ends 0 _).2
        rcases List.mem_or_eq_of_mem_set hd with q | q
        · exact hc2 d q
        · rw [q]; exact Int.ediv_nonneg hc0 (by omega)
    · refine ⟨_, rfl, c, 2147483587, rfl, rfl, (by decide : (0 : Int) < 2147483587), _, rfl, a, _, 1, .int ((n.n : Int) + 1), rfl, rfl, SqL.of hA2, rfl, 7919, _, rfl, rfl, .inl ⟨by decide, by decide⟩, _, _, rfl, rfl, _, 1, rfl, rfl, _, 5, rfl, rfl, ⟨by decide, by decide, last c hc0⟩,
        _, 2147483647, rfl, rfl, (by decide : (0 : Int) < 2147483647), _, rfl, _, lim, rfl, rfl, hpos, ?_⟩
      exact fin H1 cells _ hA2 hB2 hc1 hc2 (fun c o q1 q2 e => hO2 c o q1 e) (ends 0 _).1 (ends 0 _).2
abbrev s_BadHall_init : Stmt := inCls (topS 11) 0
theorem sc_BadHall_init : FnScope ["self", "error"] ["self", "error"] (defScope s_BadHall_init) := ⟨rfl, rfl, rfl, by decide +kernel, rfl, by decide +kernel, by decide +kernel⟩
theorem ok_BadHall_init {f : Addr} {fd : FuncData} (F : Fun K "__init__" "BadHall.__init__" s_BadHall_init f fd) (T : OexC K C.BadHall) (B : Bn K mg C) : FnOk P w K mg base CX0 1 f fd ["self", "error"] (spEI C.BadHall "error") := by
  refine F.ok sc_BadHall_init (fun vs H Q E ⟨a, v, e, _⟩ => by rw [e]; rfl) fun cdv A outer s H vs Q E hr ⟨a, v, e, hH, hQ⟩ => ⟨_, pss_one (ps_ost (pv 0) (pv 1)), ?_⟩
  subst e
  exact ⟨_, rfl, _, rfl, a, C.BadHall, rfl, T, B.n_BadHall, .inl ⟨hH, fun dx h1 h2 => hQ dx h1 h2⟩⟩
abbrev s_BadText_init : Stmt := inCls (topS 20) 0
theorem sc_BadText_init : FnScope ["self", "index"] ["self", "index"] (defScope s_BadText_init) := ⟨rfl, rfl, rfl, by decide +kernel, rfl, by decide +kernel, by decide +kernel⟩
theorem ok_BadText_init {f : Addr} {fd : FuncData} (F : Fun K "__init__" "BadText.__init__" s_BadText_init f fd) (T : OexC K C.BadText) (B : Bn K mg C) : FnOk P w K mg base CX0 1 f fd ["self", "index"] (spEI C.BadText "index") := by
  refine F.ok sc_BadText_init (fun vs H Q E ⟨a, v, e, _⟩ => by rw [e]; rfl) fun cdv A outer s H vs Q E hr ⟨a, v, e, hH, hQ⟩ => ⟨_, pss_one (ps_ost (pv 0) (pv 1)), ?_⟩
  subst e
  exact ⟨_, rfl, _, rfl, a, C.BadText, rfl, T, B.n_BadText, .inl ⟨hH, fun dx h1 h2 => hQ dx h1 h2⟩⟩
abbrev s_NoVersion_init : Stmt := inCls (topS 23) 0
theorem sc_NoVersion_init : FnScope ["self", "value"] ["self", "value"] (defScope s_NoVersion_init) := ⟨rfl, rfl, rfl, by decide +kernel, rfl, by decide +kernel, by decide +kernel⟩
theorem ok_NoVersion_init {f : Addr} {fd : FuncData} (F : Fun K "__init__" "NoVersion.__init__" s_NoVersion_init f fd) (T : OexL K C.NoVersion) (B : Bn K mg C) : FnOk P w K mg base CX0 1 f fd ["self", "value"] (spEI C.NoVersion "value") := by
  refine F.ok sc_NoVersion_init (fun vs H Q E ⟨a, v, e, _⟩ => by rw [e]; rfl) fun cdv A outer s H vs Q E hr ⟨a, v, e, hH, hQ⟩ => ⟨_, pss_one (ps_osL (pv 0) (pv 1)), ?_⟩
  subst e
  exact ⟨_, rfl, _, rfl, a, C.NoVersion, rfl, T, B.n_NoVersion, hH, fun dx h1 h2 => hQ dx h1 h2⟩
abbrev s_BadFoot_init : Stmt := inCls (topS 10) 0
theorem sc_BadFoot_init : FnScope ["self", "value"] ["self", "value"] (defScope s_BadFoot_init) := ⟨rfl, rfl, rfl, by decide +kernel, rfl, by decide +kernel, by decide +kernel⟩
theorem ok_BadFoot_init {f : Addr} {fd : FuncData} (F : Fun K "__init__" "BadFoot.__init__" s_BadFoot_init f fd) (T : OexC K C.BadFoot) (B : Bn K mg C) : FnOk P w K mg base CX0 1 f fd ["self", "value"] (spEI C.BadFoot "value") := by
  refine F.ok sc_BadFoot_init (fun vs H Q E ⟨a, v, e, _⟩ => by rw [e]; rfl) fun cdv A outer s H vs Q E hr ⟨a, v, e, hH, hQ⟩ => ⟨_, pss_one (ps_ost (pv 0) (pv 1)), ?_⟩
  subst e
  exact ⟨_, rfl, _, rfl, a, C.BadFoot, rfl, T, B.n_BadFoot, .inl ⟨hH, fun dx h1 h2 => hQ dx h1 h2⟩⟩
abbrev s_NoGuest_init : Stmt := inCls (topS 21) 0
theorem sc_NoGuest_init : FnScope ["self", "value"] ["self", "value"] (defScope s_NoGuest_init) := ⟨rfl, rfl, rfl, by decide +kernel, rfl, by decide +kernel, by decide +kernel⟩
theorem ok_NoGuest_init {f : Addr} {fd : FuncData} (F : Fun K "__init__" "NoGuest.__init__" s_NoGuest_init f fd) (T : OexL K C.NoGuest) (B : Bn K mg C) : FnOk P w K mg base CX0 1 f fd ["self", "value"] (spEI C.NoGuest "value") := by
  refine F.ok sc_NoGuest_init (fun vs H Q E ⟨a, v, e, _⟩ => by rw [e]; rfl) fun cdv A outer s H vs Q E hr ⟨a, v, e, hH, hQ⟩ => ⟨_, pss_one (ps_osL (pv 0) (pv 1)), ?_⟩
  subst e
  exact ⟨_, rfl, _, rfl, a, C.NoGuest, rfl, T, B.n_NoGuest, hH, fun dx h1 h2 => hQ dx h1 h2⟩
abbrev s_BadSize_init : Stmt := inCls (topS 16) 0
theorem sc_BadSize_init : FnScope ["self", "value"] ["self", "value"] (defScope s_BadSize_init) := ⟨rfl, rfl, rfl, by decide +kernel, rfl, by decide +kernel, by decide +kernel⟩
theorem ok_BadSize_init {f : Addr} {fd : FuncData} (F : Fun K "__init__" "BadSize.__init__" s_BadSize_init f fd) (T : OexC K C.BadSize) (B : Bn K mg C) : FnOk P w K mg base CX0 1 f fd ["self", "value"] (spEI C.BadSize "value") := by
  refine F.ok sc_BadSize_init (fun vs H Q E ⟨a, v, e, _⟩ => by rw [e]; rfl) fun cdv A outer s H vs Q E hr ⟨a, v, e, hH, hQ⟩ => ⟨_, pss_one (ps_ost (pv 0) (pv 1)), ?_⟩
  subst e
  exact ⟨_, rfl, _, rfl, a, C.BadSize, rfl, T, B.n_BadSize, .inl ⟨hH, fun dx h1 h2 => hQ dx h1 h2⟩⟩
abbrev s_NoPair_init : Stmt := inCls (topS 22) 0
theorem sc_NoPair_init : FnScope ["self", "value"] ["self", "value"] (defScope s_NoPair_init) := ⟨rfl, rfl, rfl, by decide +kernel, rfl, by decide +kernel, by decide +kernel⟩
theorem ok_NoPair_init {f : Addr} {fd : FuncData} (F : Fun K "__init__" "NoPair.__init__" s_NoPair_init f fd) (T : OexL K C.NoPair) (B : Bn K mg C) : FnOk P w K mg base CX0 1 f fd ["self", "value"] (spEI C.NoPair "value") := by
  refine F.ok sc_NoPair_init (fun vs H Q E ⟨a, v, e, _⟩ => by rw [e]; rfl) fun cdv A outer s H vs Q E hr ⟨a, v, e, hH, hQ⟩ => ⟨_, pss_one (ps_osL (pv 0) (pv 1)), ?_⟩
  subst e
  exact ⟨_, rfl, _, rfl, a, C.NoPair, rfl, T, B.n_NoPair, hH, fun dx h1 h2 => hQ dx h1 h2⟩
abbrev s_BadNumber_init : Stmt := inCls (topS 18) 0
theorem sc_BadNumber_init : FnScope ["self", "value"] ["self", "value"] (defScope s_BadNumber_init) := ⟨rfl, rfl, rfl, by decide +kernel, rfl, by decide +kernel, by decide +kernel⟩
theorem ok_BadNumber_init {f : Addr} {fd : FuncData} (F : Fun K "__init__" "BadNumber.__init__" s_BadNumber_init f fd) (T : OexC K C.BadNumber) (B : Bn K mg C) : FnOk P w K mg base CX0 1 f fd ["self", "value"] (spEI C.BadNumber "value") := by
  refine F.ok sc_BadNumber_init (fun vs H Q E ⟨a, v, e, _⟩ => by rw [e]; rfl) fun cdv A outer s H vs Q E hr ⟨a, v, e, hH, hQ⟩ => ⟨_, pss_one (ps_ost (pv 0) (pv 1)), ?_⟩
  subst e
  exact ⟨_, rfl, _, rfl, a, C.BadNumber, rfl, T, B.n_BadNumber, .inl ⟨hH, fun dx h1 h2 => hQ dx h1 h2⟩⟩
abbrev s_TooFewServed_init : Stmt := inCls (topS 19) 0
theorem sc_TooFewServed_init : FnScope ["self", "number"] ["self", "number"] (defScope s_TooFewServed_init) := ⟨rfl, rfl, rfl, by decide +kernel, rfl, by decide +kernel, by decide +kernel⟩
theorem ok_TooFewServed_init {f : Addr} {fd : FuncData} (F : Fun K "__init__" "TooFewServed.__init__" s_TooFewServed_init f fd) (T : OexC K C.TooFewServed) (B : Bn K mg C) : FnOk P w K mg base CX0 1 f fd ["self", "number"] (spEI C.TooFewServed "number") := by
  refine F.ok sc_TooFewServed_init (fun vs H Q E ⟨a, v, e, _⟩ => by rw [e]; rfl) fun cdv A outer s H vs Q E hr ⟨a, v, e, hH, hQ⟩ => ⟨_, pss_one (ps_ost (pv 0) (pv 1)), ?_⟩
  subst e
  exact ⟨_, rfl, _, rfl, a, C.TooFewServed, rfl, T, B.n_TooFewServed, .inl ⟨hH, fun dx h1 h2 => hQ dx h1 h2⟩⟩
abbrev c__law_draw : DSpec := drawA
def c__law_sizes : DSpec := fun as n R => ∃ many way : Int, as = [.deck false, .dat (.int many), .dat (.int way)] ∧ 0 ≤ many ∧ many ≤ 40 ∧ 0 ≤ way ∧ way < 3 ∧ n.n ≤ 900000 ∧ ∀ (xs : List Int) n', xs.length = many.toNat → In1 (10 ^ 6) xs → n' ≤ n + 40 → R (sizesD xs) n'
def c__law_hall : DSpec := fun as n R => ∃ most : Int, as = [.deck false, .dat (.int most)] ∧ 1 ≤ most ∧ most ≤ 20 ∧ n.n ≤ 800000 ∧ ∀ (h : Hl) n', HlOk h → (h.1.length : Int) ≤ most → (h.2.length : Int) ≤ most → n' ≤ n + 100 → R (halD h) n'
def c__law_text : DSpec := fun as n R => ∃ F P : List Int, as = [.dat (sizesD F), .dat (sizesD P)] ∧ F.length ≤ 60 ∧ P.length ≤ 60 ∧ In1 (10 ^ 6) F ∧ In1 (10 ^ 6) P ∧ R (.str (joinT F ++ " / " ++ pairsT P)) n
def c__law_number : DSpec := fun as n R => ∃ w : Str, as = [.dat (.str w)] ∧ w.length ≤ 640 ∧ R (szN w) n
def c__law_sizes_of : DSpec := fun as n R => ∃ w : Str, as = [.dat (.str w)] ∧ w.length ≤ 630 ∧ R (szsD w 20) n
def c__law_due : DSpec := fun as n R => ∃ d : PyData, as = [.dat d] ∧ isRefD d = false ∧ (∀ s, d = .str s → s.length ≤ 620) ∧ R (dueL d) n
def c_is_number : DSpec := fun as n R => ∃ d : PyData, as = [.dat d] ∧ isRefD d = false ∧ R (.bool (numB d)) n
def c_is_number_from : DSpec := fun as n R => ∃ d : PyData, ∃ a b : Int, as = [.dat d, .dat (.int a), .dat (.int b)] ∧ isRefD d = false ∧ R (.bool (numIn d a b)) n
def c_is_size : DSpec := fun as n R => ∃ d : PyData, as = [.dat d] ∧ isRefD d = false ∧ R (.bool (szD d)) n
def c__first_wrong : DSpec := fun as n R => ∃ xs : List Int, as = [.dat (sizesD xs)] ∧ In1 (10 ^ 6) xs ∧ xs.length ≤ 40 ∧ R .none n
def c_is_tuple : DSpec := fun as n R => ∃ ds : List PyData, ∃ a b : Int, as = [.dat (.tuple ds), .dat (.int a), .dat (.int b)] ∧ a ≤ ds.length ∧ (ds.length : Int) ≤ b ∧ R (.bool true) n
def c_hall_error : DSpec := fun as n R => ∃ feet pairs : List Int, as = [.dat (hallD feet pairs)] ∧ HallOk feet pairs ∧ feet.length ≤ 20 ∧ pairs.length ≤ 20 ∧ R .none n
def c_counts_at : DSpec := fun as n R => ∃ feet pairs : List Int, ∃ z : Int, as = [.dat (hallD feet pairs), .dat (.int z)] ∧ feet.length ≤ 100 ∧ pairs.length ≤ 100 ∧ R (.tuple [.int (cF feet z : Nat), .int (cP pairs z : Nat)]) n
def c__foot_sizes : DSpec := fun as n R => ∃ feet pairs : List Int, as = [.dat (hallD feet pairs)] ∧ feet.length ≤ 40 ∧ ∀ ms : List Int, ms = sd feet → (∀ k, k ∈ ms ↔ k ∈ feet) → ms.length ≤ 40 → R (.list (ms.map .int)) n
def c__deciding_sizes : DSpec := fun as n R => ∃ feet pairs : List Int, as = [.dat (hallD feet pairs)] ∧ feet.length ≤ 40 ∧ ∀ ms : List Int, ms = sd feet ++ [1000001] → (∀ k, k ∈ ms ↔ (k ∈ feet ∨ k = 1000001)) → ms.length ≤ 41 → R (.list (ms.map .int)) n
def c_most_served : DSpec := fun as n R => ∃ feet pairs : List Int, as = [.dat (hallD feet pairs)] ∧ HallOk feet pairs ∧ ∀ m : Int, IsMost feet pairs m → R (.int m) n
def c_fewest_served : DSpec := fun as n R => ∃ feet pairs : List Int, as = [.dat (hallD feet pairs)] ∧ HallOk feet pairs ∧ ∀ m : Int, IsFew feet pairs m → R (.int m) n
def Kd (C : CA) (D : Addr) (o : Option Int) : Prop := (D = C.Party ∧ o = none) ∨ (D = C.PledgedParty ∧ o ≠ none)
def Kd0 (C : CA) (D : Addr) : Prop := D = C.Party ∨ D = C.PledgedParty
theorem Kd.pc {C : CA} {D : Addr} {o : Option Int} (h : Kd C D o) : D = C.Party ∨ D = C.PledgedParty := h.elim (fun q => .inl q.1) fun q => .inr q.1
theorem Bn.flk__busy (B : Bn K mg C) {D : Addr} (h : Kd0 C D) : FldC K D "_busy" := by
  rcases h with rfl | rfl
  · exact B.fl_Party__busy
  · exact B.fl_PledgedParty__busy
theorem Bn.flk_hall (B : Bn K mg C) {D : Addr} (h : Kd0 C D) : FldC K D "hall" := by
  rcases h with rfl | rfl
  · exact B.fl_Party_hall
  · exact B.fl_PledgedParty_hall
theorem Bn.flk_most (B : Bn K mg C) {D : Addr} (h : Kd0 C D) : FldC K D "most" := by
  rcases h with rfl | rfl
  · exact B.fl_Party_most
  · exact B.fl_PledgedParty_most
theorem Bn.flk_fewest (B : Bn K mg C) {D : Addr} (h : Kd0 C D) : FldC K D "fewest" := by
  rcases h with rfl | rfl
  · exact B.fl_Party_fewest
  · exact B.fl_PledgedParty_fewest
theorem Bn.flk__halls (B : Bn K mg C) {D : Addr} (h : Kd0 C D) : FldC K D "_halls" := by
  rcases h with rfl | rfl
  · exact B.fl_Party__halls
  · exact B.fl_PledgedParty__halls
theorem Bn.flk__done (B : Bn K mg C) {D : Addr} (h : Kd0 C D) : FldC K D "_done" := by
  rcases h with rfl | rfl
  · exact B.fl_Party__done
  · exact B.fl_PledgedParty__done
theorem Bn.clk (B : Bn K mg C) {D : Addr} (h : Kd0 C D) : Cls K D := by
  rcases h with rfl | rfl
  · exact B.c_Party
  · exact B.c_PledgedParty
theorem Bn.conk (B : Bn K mg C) {D : Addr} (h : Kd0 C D) : ∃ u, Con K D "MOST_EDITS" (.int 60) u := by
  rcases h with rfl | rfl
  · exact B.con_Party_MOST_EDITS
  · exact B.con_PledgedParty_MOST_EDITS
theorem Bn.ne (B : Bn K mg C) : C.Party ≠ C.PledgedParty := fun e => by
  have h1 := B.s_Party_PledgedParty
  have h2 := B.s_PledgedParty_PledgedParty
  rw [e, h2] at h1
  cases h1
def c_Party__stand (C : CA) : DSpecX := fun as n R E => ∃ (a D : Addr) (o : Option Int) (b : Bool) (h : Hl) (hs : List Hl) (done : List PyData) (fs : List (Str × PyData)), as = [.dat (refD a), .dat (.tuple (hs.map halD)), .dat (.tuple done)] ∧ n.ob a = some ⟨D, fs⟩ ∧ Kd0 C D ∧ StX b o fs ∧ hs.getLast? = some h ∧ HlOk h ∧
  ∀ m f, IsMost h.1 h.2 m → IsFew h.1 h.2 f → R .none (n.put a ⟨D, (Pt.mk b h m f hs done).fs ++ xt o⟩)
def c_Party___init__ (C : CA) : DSpecX := fun as n R E => ∃ (a D : Addr) (h : Hl), as = [.dat (refD a), .dat (halD h)] ∧ HlOk h ∧ n.ob a = some ⟨D, []⟩ ∧ Kd0 C D ∧ ∀ m f, IsMost h.1 h.2 m → IsFew h.1 h.2 f → R .none (n.put a ⟨D, (Pt.mk false h m f [h] []).fs⟩)
theorem len_Party___init__ {C : CA} (as : List Dv) (n : Wo) (R : PyData → Wo → Prop) (E : Ex → Wo → Prop) (h : c_Party___init__ C as n R E) : as.length = 2 := by
  obtain ⟨a, D, h, rfl, _⟩ := h
  rfl
def c_number_in : DSpec := fun as n R => ∃ (w : Str) (k : Nat), as = [.dat (.str w), .dat (.int (k : Nat))] ∧ w.length ≤ 100000 ∧ k ≤ 500 ∧ R (numOD w k) n
def c__sizes_in : DSpec := fun as n R => ∃ (w : Str) (k : Nat), as = [.dat (.str w), .dat (.int (k : Nat))] ∧ w.length ≤ 50000 ∧ k ≤ 500 ∧ R (szsD w k) n
def c__part_in : DSpec := fun as n R => ∃ (w : Str) (i : Nat), as = [.dat (.str w), .dat (.int (i : Nat))] ∧ w.length ≤ 50000 ∧ R (partD i w) n
def c_parse_hall (C : CA) : DSpecX := fun as n R E => ∃ d : PyData, as = [.dat d] ∧ isRefD d = false ∧ (∀ s, d = .str s → s.length ≤ 40000) ∧ ((∀ s, d ≠ .str s) → E ⟨C.BadText, [("index", .none)]⟩ n) ∧ ∀ s, d = .str s → (∀ j : Nat, parseR s = .inl j → E ⟨C.BadText, [("index", .int j)]⟩ n) ∧ ∀ p, parseR s = .inr p → R p n
def c_Party_read (C : CA) : DSpecX := fun as n R E => ∃ d : PyData, as = [.dat (refD C.Party), .dat d] ∧ isRefD d = false ∧ (∀ s, d = .str s → s.length ≤ 40000) ∧ ((∀ s, d ≠ .str s) → E ⟨C.BadText, [("index", .none)]⟩ n) ∧ ∀ s, d = .str s → (∀ j : Nat, parseR s = .inl j → E ⟨C.BadText, [("index", .int j)]⟩ n) ∧ ∀ h : Hl, parseR s = .inr (halD h) → HlOk h → hallT h.1 h.2 = s → ∀ x m f, n.ob x = none → IsMost h.1 h.2 m → IsFew h.1 h.2 f → R (refD x) (n.put x ⟨C.Party, (Pt.mk false h m f [h] []).fs ++ xt none⟩)
def c__law_read (C : CA) : DSpec := fun as n R => ∃ d : PyData, as = [.dat d] ∧ isRefD d = false ∧ (∀ s, d = .str s → s.length ≤ 40000) ∧ ((∀ s, d ≠ .str s) → ∀ n' : Wo, n'.n = n.n → R (.list [.str "text", .none]) n') ∧ ∀ s, d = .str s → (∀ j : Nat, parseR s = .inl j → ∀ n' : Wo, n'.n = n.n → R (.list [.str "text", .int j]) n') ∧ ∀ h : Hl, parseR s = .inr (halD h) → HlOk h → hallT h.1 h.2 = s → ∀ x m f, n.ob x = none → IsMost h.1 h.2 m → IsFew h.1 h.2 f → R (refD x) (n.put x ⟨C.Party, (Pt.mk false h m f [h] []).fs ++ xt none⟩)
def c__law_ends : DSpec := fun as n R => ∃ h : Hl, as = [.dat (halD h)] ∧ HlOk h ∧ ∀ m f, IsMost h.1 h.2 m → IsFew h.1 h.2 f → R (.list [.int f, .int m]) n
def c_Party__hall_at (C : CA) : DSpecX := fun as n R E => ∃ (a D : Addr) (o : Option Int) (p : Pt) (d : PyData), as = [.dat (refD a), .dat d] ∧ n.ob a = some ⟨D, p.fs ++ xt o⟩ ∧ Kd C D o ∧ p.Ok ∧ isRefD d = false ∧ (d = .none → R (halD p.h) n) ∧
  (d ≠ .none → numIn d 0 p.done.length = false → E ⟨C.NoVersion, [("value", d)]⟩ n) ∧ (∀ (i : Nat) (h : Hl), d = .int i → p.hs[i]? = some h → R (halD h) n)
def c_Party_state (C : CA) : DSpecX := fun as n R E => ∃ (a D : Addr) (o : Option Int) (p : Pt) (d : PyData), as = [.dat (refD a), .dat d] ∧ n.ob a = some ⟨D, p.fs ++ xt o⟩ ∧ Kd C D o ∧ p.Ok ∧ isRefD d = false ∧ (d = .none → R (halD p.h) n) ∧
  (d ≠ .none → numIn d 0 p.done.length = false → E ⟨C.NoVersion, [("value", d)]⟩ n) ∧ (∀ (i : Nat) (h : Hl), d = .int i → p.hs[i]? = some h → R (halD h) n)
def c_Party_edits (C : CA) : DSpecX := fun as n R E => ∃ (a D : Addr) (o : Option Int) (p : Pt), as = [.dat (refD a)] ∧ n.ob a = some ⟨D, p.fs ++ xt o⟩ ∧ Kd C D o ∧ R (.tuple p.done) n
def c_Party___len__ (C : CA) : DSpecX := fun as n R E => ∃ (a D : Addr) (o : Option Int) (p : Pt), as = [.dat (refD a)] ∧ n.ob a = some ⟨D, p.fs ++ xt o⟩ ∧ Kd C D o ∧ R (.int p.done.length) n
def c_Party___str__ (C : CA) : DSpecX := fun as n R E => ∃ (a D : Addr) (o : Option Int) (p : Pt), as = [.dat (refD a)] ∧ n.ob a = some ⟨D, p.fs ++ xt o⟩ ∧ Kd C D o ∧ p.Ok ∧ R (.str (partyT p)) n
def c__law_right (C : CA) : DSpec := fun as n R => ∃ (a D : Addr) (o : Option Int) (p : Pt), as = [.dat (refD a), .dat (halD p.h), .dat (.list p.done)] ∧ n.ob a = some ⟨D, p.fs ++ xt o⟩ ∧ Kd C D o ∧ p.Ok ∧ (∀ d ∈ p.done, TameE 200 2 d) ∧ R (.bool true) n
def c_Party__promised (C : CA) : DSpecX := fun as n R E => ∃ (a : Addr), as = [.dat (refD a)] ∧ R .none n
def c_PledgedParty__promised (C : CA) : DSpecX := fun as n R E => ∃ (a : Addr) (k : Int) (fs : List (Str × PyData)), as = [.dat (refD a)] ∧ n.ob a = some ⟨C.PledgedParty, fs⟩ ∧ fs.lookup ("pledge" : Str) = some (.int k) ∧ R (.int k) n
def c__sorted_sizes : DSpec := fun as n R => ∃ h : Hl, as = [.dat (halD h)] ∧ HlOk h ∧ R (srtD h) n
def c_Party___eq__ (C : CA) : DSpecX := fun as n R E => ∃ (a D : Addr) (o : Option Int) (p : Pt) (b D' : Addr) (o' : Option Int) (q : Pt), as = [.dat (refD a), .dat (refD b)] ∧ n.ob a = some ⟨D, p.fs ++ xt o⟩ ∧ Kd C D o ∧ n.ob b = some ⟨D', q.fs ++ xt o'⟩ ∧ Kd C D' o' ∧ HlOk p.h ∧ HlOk q.h ∧ R (.bool (decide (o = o') && PyData.eqv (srtD p.h) (srtD q.h))) n
def c_Party__ask_idle (C : CA) : DSpecX := fun as n R E => ∃ (a D : Addr) (o : Option Int) (p : Pt), as = [.dat (refD a)] ∧ n.ob a = some ⟨D, p.fs ++ xt o⟩ ∧ Kd C D o ∧ (p.busy = false → R .none n) ∧ (p.busy = true → E ⟨C.Busy, []⟩ n)
def exP (C : CA) : Nat → Addr
  | 0 => C.BadFoot
  | 1 => C.TooManyGuests
  | 2 => C.NoGuest
  | 3 => C.LastGuest
  | 4 => C.BadSize
  | 5 => C.TooManyPairs
  | _ => C.NoPair
def c__with_guest (C : CA) : DSpecX := fun as n R E => ∃ (h : Hl) (d : PyData), as = [.dat (halD h), .dat d] ∧ HlOk h ∧ isRefD d = false ∧ OutK (aCome d h) (fun h' => R (halD h') n) fun b fs => E ⟨exP C b, fs⟩ n
def c__without_guest (C : CA) : DSpecX := fun as n R E => ∃ (h : Hl) (d : PyData), as = [.dat (halD h), .dat d] ∧ HlOk h ∧ isRefD d = false ∧ OutK (aLeave d h) (fun h' => R (halD h') n) fun b fs => E ⟨exP C b, fs⟩ n
def c__with_pair (C : CA) : DSpecX := fun as n R E => ∃ (h : Hl) (d : PyData), as = [.dat (halD h), .dat d] ∧ HlOk h ∧ isRefD d = false ∧ OutK (aPut d h) (fun h' => R (halD h') n) fun b fs => E ⟨exP C b, fs⟩ n
def c__without_pair (C : CA) : DSpecX := fun as n R E => ∃ (h : Hl) (d : PyData), as = [.dat (halD h), .dat d] ∧ HlOk h ∧ isRefD d = false ∧ OutK (aTake d h) (fun h' => R (halD h') n) fun b fs => E ⟨exP C b, fs⟩ n
def c_hall_after (C : CA) : DSpecX := fun as n R E => ∃ (h : Hl) (nm : Str) (d : PyData), as = [.dat (halD h), .dat (.str nm), .dat d] ∧ HlOk h ∧ isRefD d = false ∧ (nm = "come" ∨ nm = "leave" ∨ nm = "put" ∨ nm = "take") ∧ OutK (aft nm d h) (fun h' => R (halD h') n) fun b fs => E ⟨exP C b, fs⟩ n
def c_Party__ask_pledge (C : CA) : DSpecX := fun as n R E => ∃ (a : Addr) (f : Int), as = [.dat (refD a), .dat (.int f)] ∧ R .none n
def c_Pledge_spare (C : CA) : DSpecX := fun as n R E => ∃ (a D : Addr) (d : PyData) (k : Int) (fs : List (Str × PyData)), as = [.dat (refD a), .dat d] ∧ isRefD d = false ∧ n.ob a = some ⟨D, fs⟩ ∧ (D = C.Pledge ∨ D = C.PledgedParty) ∧ fs.lookup ("pledge" : Str) = some (.int k) ∧
  (numIn d 0 1000 = false → E ⟨C.BadNumber, [("value", d)]⟩ n) ∧ ∀ z, d = .int z → 0 ≤ z → z ≤ 1000 → (z < k → E ⟨C.TooFewServed, [("number", d)]⟩ n) ∧ (k ≤ z → R (.int (z - k)) n)
def c_PledgedParty__ask_pledge (C : CA) : DSpecX := fun as n R E => ∃ (a : Addr) (f k : Int) (fs : List (Str × PyData)), as = [.dat (refD a), .dat (.int f)] ∧ n.ob a = some ⟨C.PledgedParty, fs⟩ ∧ fs.lookup ("pledge" : Str) = some (.int k) ∧ fs.lookup ("spare" : Str) = none ∧ 0 ≤ f ∧ f ≤ 1000 ∧ (f < k → E ⟨C.TooFewServed, [("number", .int f)]⟩ n) ∧ (k ≤ f → R .none n)
def DoK (C : CA) (D : Addr) (o : Option Int) (p : Pt) (a : Addr) (nm : Str) (d : PyData) (n : Wo) (R : Wo → Prop) (E : Ex → Wo → Prop) : Prop := (60 ≤ p.done.length → E ⟨C.TooManyEdits, []⟩ n) ∧ (p.done.length < 60 → OutK (aft nm d p.h) (fun h => (∀ f, IsFew h.1 h.2 f → ¬ okP o f → E ⟨C.TooFewServed, [("number", .int f)]⟩ n) ∧ ∀ m f, IsMost h.1 h.2 m → IsFew h.1 h.2 f → okP o f → R (n.put a ⟨D, (p.next h m f (.tuple [.str nm, d])).fs ++ xt o⟩)) fun b fs => E ⟨exP C b, fs⟩ n)
def c_Party__do (C : CA) : DSpecX := fun as n R E => ∃ (a D : Addr) (o : Option Int) (p : Pt) (nm : Str) (d : PyData), as = [.dat (refD a), .dat (.str nm), .dat d] ∧ n.ob a = some ⟨D, p.fs ++ xt o⟩ ∧ Kd C D o ∧ p.Ok ∧ four nm ∧ isRefD d = false ∧ DoK C D o p a nm d n (R .none) E
def EdK (C : CA) (D : Addr) (o : Option Int) (p : Pt) (a : Addr) (nm : Str) (d : PyData) (n : Wo) (R : PyData → Wo → Prop) (E : Ex → Wo → Prop) : Prop := (p.busy = true → E ⟨C.Busy, []⟩ n) ∧ (p.busy = false → DoK C D o p a nm d n (R (.int (p.done.length + 1))) E)
def c_Party__edit (C : CA) : DSpecX := fun as n R E => ∃ (a D : Addr) (o : Option Int) (p : Pt) (nm : Str) (d : PyData), as = [.dat (refD a), .dat (.str nm), .dat d] ∧ n.ob a = some ⟨D, p.fs ++ xt o⟩ ∧ Kd C D o ∧ p.Ok ∧ four nm ∧ isRefD d = false ∧ EdK C D o p a nm d n R E
def c_Party_take (C : CA) : DSpecX := fun as n R E => ∃ (a D : Addr) (o : Option Int) (p : Pt) (d : PyData), as = [.dat (refD a), .dat d] ∧ n.ob a = some ⟨D, p.fs ++ xt o⟩ ∧ Kd C D o ∧ p.Ok ∧ isRefD d = false ∧ EdK C D o p a "take" d n R E
def c_Party_come (C : CA) : DSpecX := fun as n R E => ∃ (a D : Addr) (o : Option Int) (p : Pt) (d : PyData), as = [.dat (refD a), .dat d] ∧ n.ob a = some ⟨D, p.fs ++ xt o⟩ ∧ Kd C D o ∧ p.Ok ∧ isRefD d = false ∧ EdK C D o p a "come" d n R E
def c_Party_leave (C : CA) : DSpecX := fun as n R E => ∃ (a D : Addr) (o : Option Int) (p : Pt) (d : PyData), as = [.dat (refD a), .dat d] ∧ n.ob a = some ⟨D, p.fs ++ xt o⟩ ∧ Kd C D o ∧ p.Ok ∧ isRefD d = false ∧ EdK C D o p a "leave" d n R E
def c_Party_put (C : CA) : DSpecX := fun as n R E => ∃ (a D : Addr) (o : Option Int) (p : Pt) (d : PyData), as = [.dat (refD a), .dat d] ∧ n.ob a = some ⟨D, p.fs ++ xt o⟩ ∧ Kd C D o ∧ p.Ok ∧ isRefD d = false ∧ EdK C D o p a "put" d n R E
def c__law_do (C : CA) : DSpec := fun as n R => ∃ (a D : Addr) (o : Option Int) (p : Pt) (nm : Str) (d : PyData) (h : Hl), as = [.dat (refD a), .dat (.tuple [.str nm, d])] ∧ n.ob a = some ⟨D, p.fs ++ xt o⟩ ∧ Kd C D o ∧ p.Ok ∧ p.busy = false ∧ p.done.length < 60 ∧ four nm ∧ isRefD d = false ∧ aft nm d p.h = .inr h ∧ (∀ f, IsFew h.1 h.2 f → okP o f) ∧ ∀ m f, IsMost h.1 h.2 m → IsFew h.1 h.2 f → R (.int (p.done.length + 1)) (n.put a ⟨D, (p.next h m f (.tuple [.str nm, d])).fs ++ xt o⟩)
def UnK (C : CA) (D : Addr) (o : Option Int) (p : Pt) (a : Addr) (n : Wo) (R : PyData → Wo → Prop) (E : Wo → Prop) : Prop := (p.done = [] → E n) ∧ (p.done ≠ [] → ∀ (h : Hl) m f, p.hs.dropLast.getLast? = some h → IsMost h.1 h.2 m → IsFew h.1 h.2 f → R (.int (p.done.length - 1)) (n.put a ⟨D, (p.back h m f).fs ++ xt o⟩))
def c_Party_undo (C : CA) : DSpecX := fun as n R E => ∃ (a D : Addr) (o : Option Int) (p : Pt), as = [.dat (refD a)] ∧ n.ob a = some ⟨D, p.fs ++ xt o⟩ ∧ Kd C D o ∧ p.Ok ∧ (p.busy = true → E ⟨C.Busy, []⟩ n) ∧ (p.busy = false → UnK C D o p a n R fun n => E ⟨C.NothingToUndo, []⟩ n)
def c__law_edits_right (C : CA) : DSpec := fun as n R => ∃ (a : Addr) (p : Pt), as = [.dat (refD a), .dat (halD p.h)] ∧ n.ob a = some ⟨C.Party, p.fs ++ xt none⟩ ∧ p.Ok ∧ p.busy = false ∧ p.done = [] ∧ p.hs = [p.h] ∧ ∀ n' : Wo, n'.n = n.n → n'.ob a = some ⟨C.Party, p.fs ++ xt none⟩ → R (.bool true) n'
def cm__ask_pledge (C : CA) (D : Addr) : DSpecX := fun as n R E => (D = C.Party ∧ c_Party__ask_pledge C as n R E) ∨ (D = C.PledgedParty ∧ c_PledgedParty__ask_pledge C as n R E)
theorem cmG_Party__ask_pledge {k : Nat} {f : Addr} {fd : FuncData} {ps : List Str} (B : Bn K mg C) (G : FnGX P w K mg base k f fd ps (spDX K 2 (c_Party__ask_pledge C))) : FnGX P w K mg base k f fd ps (spDX K 2 (cm__ask_pledge C C.Party)) :=
  G.imp fun as n R E h => h.elim (fun q => q.2) fun q => absurd q.1 B.ne
theorem cmG_PledgedParty__ask_pledge {k : Nat} {f : Addr} {fd : FuncData} {ps : List Str} (B : Bn K mg C) (G : FnGX P w K mg base k f fd ps (spDX K 2 (c_PledgedParty__ask_pledge C))) : FnGX P w K mg base k f fd ps (spDX K 2 (cm__ask_pledge C C.PledgedParty)) :=
  G.imp fun as n R E h => h.elim (fun q => absurd q.1.symm B.ne) fun q => q.2
def cm__promised (C : CA) (D : Addr) : DSpecX := fun as n R E => (D = C.Party ∧ c_Party__promised C as n R E) ∨ (D = C.PledgedParty ∧ c_PledgedParty__promised C as n R E)
theorem cmG_Party__promised {k : Nat} {f : Addr} {fd : FuncData} {ps : List Str} (B : Bn K mg C) (G : FnGX P w K mg base k f fd ps (spDX K 1 (c_Party__promised C))) : FnGX P w K mg base k f fd ps (spDX K 1 (cm__promised C C.Party)) :=
  G.imp fun as n R E h => h.elim (fun q => q.2) fun q => absurd q.1 B.ne
theorem cmG_PledgedParty__promised {k : Nat} {f : Addr} {fd : FuncData} {ps : List Str} (B : Bn K mg C) (G : FnGX P w K mg base k f fd ps (spDX K 1 (c_PledgedParty__promised C))) : FnGX P w K mg base k f fd ps (spDX K 1 (cm__promised C C.PledgedParty)) :=
  G.imp fun as n R E h => h.elim (fun q => absurd q.1.symm B.ne) fun q => q.2
abbrev s__law_sizes : Stmt := topS 61
abbrev N__law_sizes : List Str := ["deck", "many", "way", "k"]
theorem sc__law_sizes : FnScope N__law_sizes ["deck", "many", "way"] (defScope s__law_sizes) := ⟨rfl, rfl, rfl, by decide +kernel, rfl, by decide +kernel, by decide +kernel⟩
theorem fn__law_sizes {f : Addr} {fd : FuncData} (F : Fun K "_law_sizes" "_law_sizes" s__law_sizes f fd) (B : Bn K mg C) (H__law_draw : Has P w K mg base "_law_draw" 1 ["deck", "many"] c__law_draw) : FnG P w K mg base 2 f fd ["deck", "many", "way"] (spD K 3 c__law_sizes) := by
  refine fnd (k := 1) c__law_sizes F sc__law_sizes fun cdv A outer s H hgd0 hr Y => ?_
  have hu := hr.units
  have hu1 : (A.deeper (envOfC "_law_sizes" (defScope s__law_sizes) s.heap.objs.size f cdv)).units + 65 < cLine := by have := hr.un; omega
  have hu0 : (A.deeper (envOfC "_law_sizes" (defScope s__law_sizes) s.heap.objs.size f cdv)).units + 1 < cLine := by have := hr.un; omega
  have hgd : (A.deeper (envOfC "_law_sizes" (defScope s__law_sizes) s.heap.objs.size f cdv)).guards = some [] := hgd0
  refine ⟨_, (dss_one (ds_ret (we_callTy call_tuple_of ck_tuple (by rfl) B.tuple PyProof.Rows.boot_tuple (wa_cons (we_ofM (me_compV (own := [("k", 3)]) rfl sc__law_sizes.nd (div_of (di_range1 (by rfl) B.range (wa_cons (we_var 1) wa_nil))) (blkOk_by (N := N__law_sizes) (sc := defScope s__law_sizes) (by decide +kernel)) gok_name (fun _ _ _ _ _ => (pg_name (i := 3) sc__law_sizes.nd rfl (Or.inl rfl))) (fun _ _ _ _ _ => wts_nil) (fun _ _ _ _ _ => (we_bin or_addA bi_add we_int (we_has H__law_draw hgd (hr.mono (by decide)) (by rfl) (wa_cons (we_var 0) (wa_cons (we_ix (we_ofM (me_lst (wa_cons we_int (wa_cons we_int (wa_cons (we_bin op_pow bi_I we_int we_int) wa_nil))))) (we_var 2) (fun _ _ => rfl)) wa_nil))))) (by decide))) wa_nil)))), fun as n R hl hc => ?_⟩
  obtain ⟨many, way, rfl, h1, h2, h3, h4, hn, hR⟩ := hc
  refine ⟨_, rfl, many, rfl, by omega, by omega, compR_le (m := many.toNat) _ (fun y => ∃ z : Int, y = .int z ∧ 1 ≤ z ∧ z ≤ 10 ^ 6) 1 rngD_length (fun k x hx hk acc q KK ha hq hK => ?_) fun ys q hys hP hq => ?_⟩
  · have hqn : q.n ≤ n.n + k * 1 := hq.1
    obtain ⟨d, hd, hd2⟩ := pick3 (a := .int 4) (b := .int 25) (c := .int ((10 : Int) ^ (6 : Int).toNat)) (r := way) h3 h4
    obtain ⟨lim, rfl, l1, l2⟩ : ∃ lim : Int, d = .int lim ∧ 1 ≤ lim ∧ lim ≤ 10 ^ 6 := by
      rcases hd2 with rfl | rfl | rfl
      · exact ⟨_, rfl, by decide, by decide⟩
      · exact ⟨_, rfl, by decide, by decide⟩
      · exact ⟨_, rfl, by decide, by decide⟩
    refine ⟨_, rfl, ⟨by decide, by decide, by decide⟩, by show 3 ≤ sizeLine; decide, _, rfl, _, _, rfl, hd, rfl, lim, rfl, l1, by omega, by omega, fun r r0 r1 => ?_⟩
    have ha : acc.length ≤ 1000 := by omega
    refine ⟨small1000 ha, hK _ _ ⟨1 + r, rfl, by omega, by omega⟩ ?_⟩
    have := Wo.tr hq (Wo.one (a := q))
    rw [Nat.add_mul]
    exact this
  · obtain ⟨xs, rfl, hi⟩ := sizes_of hP
    rw [List.length_map] at hys
    exact ⟨_, _, rfl, rfl, hR xs q hys hi (Wo.le' hq (by omega))⟩
abbrev s__law_hall : Stmt := topS 62
abbrev N__law_hall : List Str := ["deck", "most", "way"]
theorem sc__law_hall : FnScope N__law_hall ["deck", "most"] (defScope s__law_hall) := ⟨rfl, rfl, rfl, by decide +kernel, rfl, by decide +kernel, by decide +kernel⟩
theorem fn__law_hall {f : Addr} {fd : FuncData} (F : Fun K "_law_hall" "_law_hall" s__law_hall f fd) (B : Bn K mg C) (H__law_draw : Has P w K mg base "_law_draw" 1 ["deck", "many"] c__law_draw) (H__law_sizes : Has P w K mg base "_law_sizes" 2 ["deck", "many", "way"] c__law_sizes) : FnG P w K mg base 3 f fd ["deck", "most"] (spD K 2 c__law_hall) := by
  refine fnd (k := 2) c__law_hall F sc__law_hall fun cdv A outer s H hgd0 hr Y => ?_
  have hu := hr.units
  have hu1 : (A.deeper (envOfC "_law_hall" (defScope s__law_hall) s.heap.objs.size f cdv)).units + 65 < cLine := by have := hr.un; omega
  have hu0 : (A.deeper (envOfC "_law_hall" (defScope s__law_hall) s.heap.objs.size f cdv)).units + 1 < cLine := by have := hr.un; omega
  have hgd : (A.deeper (envOfC "_law_hall" (defScope s__law_hall) s.heap.objs.size f cdv)).guards = some [] := hgd0
  refine ⟨_, (dss_cons (ds_set (i := 2) sc__law_hall.nd rfl (Or.inl rfl) (xe_d (we_has H__law_draw hgd (hr.mono (by decide)) (by rfl) (wa_cons (we_var 0) (wa_cons we_int wa_nil))))) (dss_one (ds_ret (we_tup (wa_cons (we_has H__law_sizes hgd (hr.mono (by decide)) (by rfl) (wa_cons (we_var 0) (wa_cons (we_bin or_addA bi_add we_int (we_has H__law_draw hgd (hr.mono (by decide)) (by rfl) (wa_cons (we_var 0) (wa_cons (we_var 1) wa_nil)))) (wa_cons (we_var 2) wa_nil)))) (wa_cons (we_has H__law_sizes hgd (hr.mono (by decide)) (by rfl) (wa_cons (we_var 0) (wa_cons (we_has H__law_draw hgd (hr.mono (by decide)) (by rfl) (wa_cons (we_var 0) (wa_cons (we_bin or_addA bi_add (we_var 1) we_int) wa_nil))) (wa_cons (we_var 2) wa_nil)))) wa_nil)))))), fun as n R hl hc => ?_⟩
  obtain ⟨most, rfl, h1, h2, hn, hR⟩ := hc
  refine ⟨_, rfl, rfl, 3, rfl, by decide, by decide, by omega, fun way w1 w2 => ?_⟩
  refine ⟨_, rfl, _, rfl, _, rfl, rfl, most, rfl, h1, by omega, by show n.n + 1 ≤ _; omega, fun r1 a1 b1 => ⟨_, rfl, rfl, 1 + r1, way, rfl, by omega, by omega, w1, w2, by show n.n + 1 + 1 ≤ _; omega, fun xs n1 hx1 hx2 hn1 => ?_⟩⟩
  have q1 : n1 ≤ n + 42 := Wo.le' (Wo.tr (Wo.tr (Wo.one (a := n)) (Wo.one (a := n + 1))) hn1) (by omega)
  have q2 : n1.n ≤ n.n + 42 := q1.1
  refine ⟨_, rfl, _, rfl, _, rfl, rfl, most + 1, rfl, by omega, by omega, by omega, fun r2 a2 b2 => ⟨_, rfl, rfl, r2, way, rfl, by omega, by omega, w1, w2, by show n1.n + 1 ≤ _; omega, fun ys n2 hy1 hy2 hn2 => ?_⟩⟩
  exact ⟨by show 2 ≤ sizeLine; decide, hR (xs, ys) n2 ⟨⟨by show 1 ≤ xs.length; omega, by show xs.length ≤ 40; omega, by show ys.length ≤ 40; omega, hx2, hy2⟩, by show xs.length ≤ 20; omega, by show ys.length ≤ 20; omega⟩ (by show (xs.length : Int) ≤ most; omega) (by show (ys.length : Int) ≤ most; omega) (Wo.le' (Wo.tr (Wo.tr q1 (Wo.one (a := n1))) hn2) (by omega))⟩
abbrev s__law_text : Stmt := topS 69
abbrev N__law_text : List Str := ["feet", "pairs", "words", "sizes", "size"]
theorem sc__law_text : FnScope N__law_text ["feet", "pairs"] (defScope s__law_text) := ⟨rfl, rfl, rfl, by decide +kernel, rfl, by decide +kernel, by decide +kernel⟩
theorem fn__law_text {f : Addr} {fd : FuncData} (F : Fun K "_law_text" "_law_text" s__law_text f fd) (B : Bn K mg C) : FnG P w K mg base 1 f fd ["feet", "pairs"] (spD K 2 c__law_text) := by
  refine fnd (k := 0) c__law_text F sc__law_text fun cdv A outer s H hgd0 hr Y => ?_
  have hu := hr.units
  have hu1 : (A.deeper (envOfC "_law_text" (defScope s__law_text) s.heap.objs.size f cdv)).units + 65 < cLine := by have := hr.un; omega
  have hu0 : (A.deeper (envOfC "_law_text" (defScope s__law_text) s.heap.objs.size f cdv)).units + 1 < cLine := by have := hr.un; omega
  have hgd : (A.deeper (envOfC "_law_text" (defScope s__law_text) s.heap.objs.size f cdv)).guards = some [] := hgd0
  refine ⟨_, (dss_cons (ds_setLcV (i := 2) (u := xD (dOfM _)) (hyl := rfl) (hy := rfl) (hsw := sw_true rfl rfl rfl (by decide +kernel)) (hu := lc_dat) (own := [("sizes", 3)]) (hc := rfl) (hN := sc__law_text.nd) (hi := (di_seqV (we_tup (wa_cons (we_var 0) (wa_cons (we_var 1) wa_nil))))) (ok := (blkOk_by (N := N__law_text) (sc := defScope s__law_text) (by decide +kernel))) (hk := gok_name) (hg := fun _ _ _ _ _ => (pg_name (i := 3) sc__law_text.nd rfl (Or.inl rfl))) (ht := fun _ _ _ _ _ => wts_nil) (he := fun _ _ _ _ _ => (we_join we_str (we_ofM (me_compV (own := [("size", 4)]) rfl sc__law_text.nd (di_seqV (we_var 3)) (blkOk_by (by first | decide +kernel | kernel_rfl | rfl)) gok_name (fun _ _ _ _ _ => (pg_name (i := 4) sc__law_text.nd rfl (Or.inl rfl))) (fun _ _ _ _ _ => wts_nil) (fun _ _ _ _ _ => (we_callTy call_str_int cr_str (by rfl) B.str PyProof.Rows.boot_str (wa_cons (we_var 4) wa_nil))) (by decide))))) (hv := by decide)) (dss_one (ds_ret (we_bin op_add_str bi_addS (we_bin op_add_str bi_addS (we_ix (we_var 2) we_int (fun _ _ => rfl)) we_str) (we_if (wt_cmp (or_eqA hu) bi_eqA (we_var 1) (we_tup wa_nil) (nomark _)) we_str (we_ix (we_var 2) we_int (fun _ _ => rfl))))))), fun as n R hl hc => ?_⟩
  obtain ⟨F, P, rfl, hF, hP, fi, pi, hR⟩ := hc
  have l1 := join_len fi
  have l2 := pairsT_len pi
  have l3 := join_len pi
  have c1 : (" / " : Str).length = 3 := by decide +kernel
  have c3 : ("-" : Str).length = 1 := by decide +kernel
  refine ⟨_, rfl, _, rfl, by show 2 ≤ sizeLine; decide, _, rfl, compR_m [F, P] sizesD (fun xs => .str (joinT xs)) (by show 2 < sizeLine; decide) (fun xs hxs acc KK ha hK => ?_) ?_⟩
  · obtain ⟨hx1, hx2⟩ : xs.length ≤ 60 ∧ In1 (10 ^ 6) xs := by
      simp only [List.mem_cons, List.not_mem_nil, or_false] at hxs
      rcases hxs with rfl | rfl
      · exact ⟨hF, fi⟩
      · exact ⟨hP, pi⟩
    have hb := sum_len hx2
    refine ⟨_, rfl, _, rfl, _, rfl, compR_m xs .int (fun x => .str (numT x)) (small1000 (by omega)) (fun x hx' acc KK ha hK => ⟨_, rfl, x, rfl, num_log (by have := hx2 x hx'; omega), ha, hK⟩) ?_⟩
    refine ⟨xs.map numT, by rw [List.map_map]; rfl, ?_, ha, hK⟩
    rw [List.length_map, show ("," : Str).length = 1 by decide +kernel]
    omega
  refine ⟨_, rfl, 0, _, rfl, rfl, _, _, rfl, rfl, line1000 (by rw [c1]; omega), _, rfl, Nat.zero_le _, rfl, rfl, sh_tints P, sh_tints [], _, rfl, ?_⟩
  have en : PyData.eqv (.tuple (P.map .int)) (.tuple []) = P.isEmpty := by cases P <;> rfl
  show if PyData.eqv (.tuple (P.map .int)) (.tuple []) = true then _ else _
  rw [en]
  unfold pairsT at hR
  by_cases h0 : P = []
  · rw [if_pos h0] at hR
    subst h0
    exact iteT (B := False) ⟨_, _, rfl, rfl, line1000 (by rw [app_len, c1, c3]; omega), hR⟩
  · rw [if_neg h0] at hR
    have e : P.isEmpty = false := by cases h : P with | nil => exact absurd h h0 | cons => rfl
    rw [e]
    exact iteF (A := False) ⟨_, rfl, 1, _, rfl, rfl, _, _, rfl, rfl, line1000 (by rw [app_len, c1]; omega), hR⟩
abbrev s__law_number : Stmt := topS 66
abbrev N__law_number : List Str := ["word", "one"]
theorem sc__law_number : FnScope N__law_number ["word"] (defScope s__law_number) := ⟨rfl, rfl, rfl, by decide +kernel, rfl, by decide +kernel, by decide +kernel⟩
theorem fn__law_number {f : Addr} {fd : FuncData} (F : Fun K "_law_number" "_law_number" s__law_number f fd) (B : Bn K mg C) : FnG P w K mg base 1 f fd ["word"] (spD K 1 c__law_number) := by
  refine fnd (k := 0) c__law_number F sc__law_number fun cdv A outer s H hgd0 hr Y => ?_
  have hu := hr.units
  have hu1 : (A.deeper (envOfC "_law_number" (defScope s__law_number) s.heap.objs.size f cdv)).units + 65 < cLine := by have := hr.un; omega
  have hu0 : (A.deeper (envOfC "_law_number" (defScope s__law_number) s.heap.objs.size f cdv)).units + 1 < cLine := by have := hr.un; omega
  have hgd : (A.deeper (envOfC "_law_number" (defScope s__law_number) s.heap.objs.size f cdv)).guards = some [] := hgd0
  refine ⟨_, (dss_cons (ds_if (wt_w (ww_or (wt_cmp (or_eqA hu) bi_eqA (we_var 0) we_str (nomark _)) (ww_or (wt_cmp (or_neNil hu) bi_neNil (we_ofM (me_compV (own := [("one", 1)]) rfl sc__law_number.nd (div_of (di_str (we_var 0))) (blkOk_by (N := N__law_number) (sc := defScope s__law_number) (by decide +kernel)) gok_name (fun _ _ _ _ _ => (pg_name (i := 1) sc__law_number.nd rfl (Or.inl rfl))) (fun _ _ _ _ _ => (wts_one (wt_cmp op_notIn_sign bi_notInC (we_var 1) we_str (by rfl)))) (fun _ _ _ _ _ => (we_var 1)) (by decide))) (we_ofM (me_lst wa_nil)) (nomark _)) (ww_or1 (wt_cmp (or_eqA hu) bi_eqA (we_ixS (we_var 0) we_int (fun _ _ => rfl)) we_str (nomark _)))))) (dss_one (ds_ret we_non)) dss_nil) (dss_one (ds_ret (we_if (wt_cmp op_le bi_B0 (we_callTy call_int_str ck_intS (by rfl) B.int PyProof.Rows.boot_int (wa_cons (we_var 0) wa_nil)) (we_bin op_pow bi_I we_int we_int) (nomark _)) (we_callTy call_int_str ck_intS (by rfl) B.int PyProof.Rows.boot_int (wa_cons (we_var 0) wa_nil)) we_non)))), fun as n R hl hc => ?_⟩
  obtain ⟨p, rfl, hl, hR⟩ := hc
  have hz : p.length ≤ sizeLine := Nat.le_trans hl (by decide)
  have hno : szO p = none → R .none n := fun h => by rw [szN_no h] at hR; exact hR
  have dig : ("0123456789" : Str).cps.toList = [48, 49, 50, 51, 52, 53, 54, 55, 56, 57] := by decide +kernel
  have zer : ("0" : Str) = ⟨#[48]⟩ := by decide +kernel
  by_cases h0 : p = ""
  · subst h0
    exact ⟨_, rfl, _, rfl, iteT (B := False) (hno (by decide +kernel))⟩
  have hch0 : chs p ≠ [] := fun e => h0 (str_ext (by rw [e]; decide +kernel))
  refine ⟨_, rfl, _, rfl, iteDF h0 ?_⟩
  refine ⟨_, rfl, p, rfl, compR_p (chs p) (fun c => .str ⟨#[c]⟩) (fun c => !decide (c ∈ ("0123456789" : Str).cps.toList)) (fun c => .str ⟨#[c]⟩) (by rw [← len_chs]; exact Nat.lt_of_le_of_lt hl (by decide)) (fun c hc acc KK hK => ⟨_, rfl, ⟨#[c]⟩, c, ("0123456789" : Str), rfl, rfl, rfl, _, rfl, ite_imp (fun h => ⟨_, rfl, h⟩) (fun h => h) hK⟩) ?_⟩
  refine ⟨Nat.zero_le _, _, rfl, rfl, rfl, _, rfl, ?_⟩
  rw [dig]
  by_cases hd : digs (chs p) = true
  · obtain ⟨d1, d2⟩ := digs_all hd
    have hf : (chs p).filter (fun c => !decide (c ∈ [48, 49, 50, 51, 52, 53, 54, 55, 56, 57])) = [] := List.filter_eq_nil_iff.mpr fun c hc => by
      have := d1 c hc
      have : c ∈ [48, 49, 50, 51, 52, 53, 54, 55, 56, 57] := by
        simp only [List.mem_cons, List.not_mem_nil, or_false]; omega
      simp [this]
    rw [hf]
    refine iteF ?_
    cases hch : chs p with
    | nil => exact absurd hch d2
    | cons c l =>
      refine ⟨_, rfl, p, 0, c, rfl, rfl, hz, by show atI (chs p) 0 = some c; rw [hch]; exact atI_hd c l, _, rfl, ?_⟩
      by_cases h48 : c = 48
      · subst h48
        refine iteD (c := (⟨#[48]⟩ : Str) = "0") zer.symm (hno (if_neg fun q => q.2.2.1 (by rw [hch]; rfl)))
      · refine iteDF (c := (⟨#[c]⟩ : Str) = "0") (fun q => h48 (by rw [zer] at q; have := congrArg (fun s : Str => s.cps.toList) q; simpa using this)) ?_
        have hh : (chs p).head? ≠ some 48 := by rw [hch]; simpa using h48
        refine ⟨_, rfl, p, _, rfl, int_txt hd (by omega), by omega, ⟨by decide, by decide, by decide⟩, _, rfl, ?_⟩
        have e6 : (10 : Int) ^ (6 : Int).toNat = 1000000 := rfl
        by_cases h6 : valL (chs p) ≤ 1000000
        · rw [szN_yes hd hh h6] at hR
          exact iteD (by omega) ⟨_, rfl, p, _, rfl, int_txt hd (by omega), by omega, hR⟩
        · exact iteDF (by omega) (hno (if_neg fun q => h6 q.2.2.2))
  · have hex : ∃ c ∈ chs p, ¬ (48 ≤ c ∧ c ≤ 57) := by
      apply Classical.byContradiction
      intro h
      exact hd (digs_of (fun c hc => Classical.byContradiction fun q => h ⟨c, hc, q⟩) hch0)
    obtain ⟨c, hc, hcn⟩ := hex
    have hf : ((chs p).filter (fun c => !decide (c ∈ [48, 49, 50, 51, 52, 53, 54, 55, 56, 57]))) ≠ [] := fun e => by
      have := List.filter_eq_nil_iff.mp e c hc
      apply this
      have : c ∉ [48, 49, 50, 51, 52, 53, 54, 55, 56, 57] := by
        simp only [List.mem_cons, List.not_mem_nil, or_false]; omega
      simp [this]
    cases hfl : (chs p).filter (fun c => !decide (c ∈ [48, 49, 50, 51, 52, 53, 54, 55, 56, 57])) with
    | nil => exact absurd hfl hf
    | cons a l => exact iteT (hno (if_neg fun q => hd q.2.1))
abbrev s__law_sizes_of : Stmt := topS 67
abbrev N__law_sizes_of : List Str := ["word", "found", "one"]
theorem sc__law_sizes_of : FnScope N__law_sizes_of ["word"] (defScope s__law_sizes_of) := ⟨rfl, rfl, rfl, by decide +kernel, rfl, by decide +kernel, by decide +kernel⟩
theorem fn__law_sizes_of {f : Addr} {fd : FuncData} (F : Fun K "_law_sizes_of" "_law_sizes_of" s__law_sizes_of f fd) (B : Bn K mg C) (H__law_number : Has P w K mg base "_law_number" 1 ["word"] c__law_number) : FnG P w K mg base 2 f fd ["word"] (spD K 1 c__law_sizes_of) := by
  refine fnd (k := 1) c__law_sizes_of F sc__law_sizes_of fun cdv A outer s H hgd0 hr Y => ?_
  have hu := hr.units
  have hu1 : (A.deeper (envOfC "_law_sizes_of" (defScope s__law_sizes_of) s.heap.objs.size f cdv)).units + 65 < cLine := by have := hr.un; omega
  have hu0 : (A.deeper (envOfC "_law_sizes_of" (defScope s__law_sizes_of) s.heap.objs.size f cdv)).units + 1 < cLine := by have := hr.un; omega
  have hgd : (A.deeper (envOfC "_law_sizes_of" (defScope s__law_sizes_of) s.heap.objs.size f cdv)).guards = some [] := hgd0
  refine ⟨_, (dss_cons (ds_set (i := 1) sc__law_sizes_of.nd rfl (Or.inl rfl) (xe_d (we_callTy call_tuple_of ck_tuple (by rfl) B.tuple PyProof.Rows.boot_tuple (wa_cons (we_ofM (me_compV (own := [("one", 2)]) rfl sc__law_sizes_of.nd (di_seqV (we_ofM (me_split (we_var 0) we_str))) (blkOk_by (N := N__law_sizes_of) (sc := defScope s__law_sizes_of) (by decide +kernel)) gok_name (fun _ _ _ _ _ => (pg_name (i := 2) sc__law_sizes_of.nd rfl (Or.inl rfl))) (fun _ _ _ _ _ => wts_nil) (fun _ _ _ _ _ => (we_has H__law_number hgd (hr.mono (by decide)) (by rfl) (wa_cons (we_var 2) wa_nil))) (by decide))) wa_nil)))) (dss_one (ds_ret (we_if (wt_w (ww_or (wt_cmp (op_inDT hu1) (bi_inT false) we_non (we_var 1) (by rfl)) (ww_or1 (wt_cmp op_gt bi_B0 (we_callB call_len_seq ck_len (by rfl) B.len PySem.boot_len (wa_cons (we_var 1) wa_nil)) we_int (nomark _))))) we_non (we_var 1))))), fun as n R hl hc => ?_⟩
  obtain ⟨w, rfl, hw, hR⟩ := hc
  have hwt := wt_split (s := w) (y := ",") (by decide +kernel)
  have hwl := wt_len (Txt.split w ",")
  have hlz : (Txt.split w ",").length < sizeLine := Nat.lt_trans (show _ < 60000 by omega) (by decide)
  refine ⟨_, rfl, w, rfl, ",", rfl, by decide +kernel, Nat.le_trans (Nat.add_le_add_right hw 2) (by decide), ?_⟩
  refine ⟨_, rfl, compR_m (Txt.split w ",") .str szN hlz (fun p hp acc KK ha hK => ⟨_, rfl, rfl, p, rfl, by have := wt_mem hp; omega, ha, hK⟩) ?_⟩
  refine ⟨_, _, rfl, rfl, ?_⟩
  by_cases hall : ∀ p ∈ Txt.split w ",", (szO p).isSome = true
  · have em : (Txt.split w ",").map szN = ((Txt.split w ",").map szV).map .int := by
      rw [List.map_map]
      exact List.map_congr_left fun p hp => szN_ok (hall p hp)
    have hany : (((Txt.split w ",").map szN).any fun z => PyData.eqv z .none) = false := by
      rw [em, List.any_eq_false]
      intro z hz
      obtain ⟨i, _, rfl⟩ := List.mem_map.mp hz
      simp [eqv_none, isN]
    rw [szsD_ok hall] at hR
    refine ⟨_, rfl, rfl, rfl, _, rfl, rfl, sh_szN _, _, rfl, ifF hany ?_⟩
    refine ⟨_, rfl, _, _, rfl, rfl, _, rfl, ?_⟩
    rw [List.length_map]
    by_cases h20 : (Txt.split w ",").length ≤ 20
    · rw [if_pos h20] at hR
      refine iteDF (by omega) ⟨_, rfl, ?_⟩
      rw [em]
      exact hR
    · rw [if_neg h20] at hR
      exact iteD (by omega) hR
  · obtain ⟨p, hp, hn⟩ : ∃ p ∈ Txt.split w ",", szO p = none := by
      apply Classical.byContradiction
      intro h
      refine hall fun p hp => ?_
      cases e : szO p with
      | none => exact absurd ⟨p, hp, e⟩ h
      | some v => rfl
    have hany : (((Txt.split w ",").map szN).any fun z => PyData.eqv z .none) = true := List.any_eq_true.mpr ⟨szN p, List.mem_map_of_mem hp, by rw [szN_no hn]; rfl⟩
    rw [szsD_no hp hn] at hR
    exact ⟨_, rfl, rfl, rfl, _, rfl, rfl, sh_szN _, _, rfl, ifT hany hR⟩
abbrev s__law_due : Stmt := topS 68
abbrev N__law_due : List Str := ["value", "words", "found", "index", "word"]
theorem sc__law_due : FnScope N__law_due ["value"] (defScope s__law_due) := ⟨rfl, rfl, rfl, by decide +kernel, rfl, by decide +kernel, by decide +kernel⟩
theorem fn__law_due {f : Addr} {fd : FuncData} (F : Fun K "_law_due" "_law_due" s__law_due f fd) (B : Bn K mg C) (H__law_sizes_of : Has P w K mg base "_law_sizes_of" 2 ["word"] c__law_sizes_of) : FnG P w K mg base 3 f fd ["value"] (spD K 1 c__law_due) := by
  refine fnd (k := 2) c__law_due F sc__law_due fun cdv A outer s H hgd0 hr Y => ?_
  have hu := hr.units
  have hu1 : (A.deeper (envOfC "_law_due" (defScope s__law_due) s.heap.objs.size f cdv)).units + 65 < cLine := by have := hr.un; omega
  have hu0 : (A.deeper (envOfC "_law_due" (defScope s__law_due) s.heap.objs.size f cdv)).units + 1 < cLine := by have := hr.un; omega
  have hgd : (A.deeper (envOfC "_law_due" (defScope s__law_due) s.heap.objs.size f cdv)).guards = some [] := hgd0
  refine ⟨_, (dss_cons (ds_if (wt_not (wt_val (we_isi (.inr (.inr (.inl rfl))) (by rfl) B.isinstance (we_var 0) (by rfl) B.str PyProof.Rows.boot_str))) (dss_one (ds_ret (we_ofM (me_lst (wa_cons we_str (wa_cons we_non wa_nil)))))) dss_nil) (dss_cons (ds_par (i := 1) (j := 2) rfl sc__law_due.nd rfl rfl (by decide) rfl rfl (xe_d (we_ofM (me_split (we_var 0) we_str))) (xe_m (me_lst wa_nil)) (by rfl)) (dss_cons (ds_for PassesOwn.never rfl (di_range1 (by rfl) B.range (wa_cons we_int wa_nil)) ⟨(pg_name (i := 3) sc__law_due.nd rfl (Or.inl rfl)), gok_name⟩ (dss_cons (ds_if (wt_cmp (or_eqA hu) bi_eqA (we_var 3) (we_callB call_len_seq ck_len (by rfl) B.len PySem.boot_len (wa_cons (we_var 1) wa_nil)) (nomark _)) (dss_one (ds_ret (we_ofM (me_lst (wa_cons we_str (wa_cons (we_var 3) wa_nil)))))) dss_nil) (dss_cons (ds_set (i := 4) sc__law_due.nd rfl (Or.inl rfl) (xe_d (we_ix (we_var 1) (we_var 3) (fun _ _ => rfl)))) (dss_cut (ds_if (wt_cmp (or_eqA hu) bi_eqA (we_var 3) we_int (nomark _)) (dss_one (ds_append (pv 2) (we_if (wt_cmp (or_eqA hu) bi_eqA (we_var 4) we_str (nomark _)) we_str we_non))) (dss_one (ds_append (pv 2) (we_if (wt_w (ww_and (wt_cmp (or_eqA hu) bi_eqA (we_var 3) we_int (nomark _)) (ww_and1 (wt_cmp (or_eqA hu) bi_eqA (we_var 4) we_str (nomark _))))) (we_tup wa_nil) (we_has H__law_sizes_of hgd (hr.mono (by decide)) (by rfl) (wa_cons (we_var 4) wa_nil)))))) (dss_one (ds_if (wt_cmp op_isN bi_isN (we_ix (we_var 2) (we_neg we_int) (fun _ _ => rfl)) we_non (nomark _)) (dss_one (ds_ret (we_ofM (me_lst (wa_cons we_str (wa_cons (we_var 3) wa_nil)))))) dss_nil)))))) (dss_one (ds_ret (we_if (wt_cmp op_gt bi_B0 (we_callB call_len_seq ck_len (by rfl) B.len PySem.boot_len (wa_cons (we_var 1) wa_nil)) we_int (nomark _)) (we_ofM (me_lst (wa_cons we_str (wa_cons we_int wa_nil)))) (we_tup (wa_cons (we_ix (we_var 2) we_int (fun _ _ => rfl)) (wa_cons (we_ix (we_var 2) we_int (fun _ _ => rfl)) wa_nil))))))))), fun as n R hl hc => ?_⟩
  obtain ⟨d, rfl, hnr, hl, hR⟩ := hc
  rcases Classical.em (∃ s, d = .str s) with ⟨s, rfl⟩ | hd
  rotate_left
  · have hd : ∀ s, d ≠ .str s := fun s e => hd ⟨s, e⟩
    refine ⟨_, rfl, isDR_dat hnr, _, rfl, ifN' (isi_ns hd) ⟨by show 2 ≤ sizeLine; decide, ?_⟩⟩
    have e : dueL d = .list [.str "text", .none] := by
      cases d with
      | str s => exact absurd rfl (hd s)
      | _ => rfl
    rw [e] at hR
    exact hR
  have hl := hl s rfl
  have hwt := wt_split (s := s) (y := " ") (by decide +kernel)
  have hwl := wt_len (Txt.split s " ")
  have hwm : ∀ w ∈ Txt.split s " ", w.length ≤ 621 := fun w hw => Nat.le_trans (wt_mem hw) (Nat.le_trans hwt (by omega))
  have hpl := partsD_length (Txt.split s " ")
  refine ⟨_, rfl, rfl, _, rfl, ifNF' (isi_ss _) ?_⟩
  refine ⟨_, rfl, s, rfl, " ", rfl, by decide +kernel, Nat.le_trans (Nat.add_le_add_right hl 2) (by decide), ?_⟩
  generalize hws : Txt.split s " " = ws at hwl hwm hpl ⊢
  have hR : R (match parseR s with | .inl j => .list [.str "text", .int (j : Nat)] | .inr p => p) n := hR
  unfold parseR at hR
  rw [hws] at hR
  have hsome : ∀ {k : Nat} {z : PyData}, (partsD ws)[k]? = some z → isN z = true → (∀ x ∈ (partsD ws).take k, isN x = false) → R (.list [.str "text", .int (k : Nat)]) n := fun {k z} e1 e2 e3 => by
    rw [firstN_eq (i := 0) e1 e2 e3] at hR
    rw [Nat.zero_add] at hR
    exact hR
  refine ⟨Nat.zero_le _, 3, rfl, by decide, by decide, forR_inv (fun k ρ n' => n' = n ∧ k ≤ ws.length ∧ (∀ x ∈ (partsD ws).take k, isN x = false) ∧ ∃ a3 a4, ρ = [some (.dat (.str s)), some (.dat (.list (ws.map .str))), some (.mt ((partsD ws).take k)), a3, a4])
    ⟨rfl, Nat.zero_le _, fun _ h => (nomatch h), none, none, rfl⟩ ?_ ?_⟩
  · rintro k y ρ n' hy ⟨rfl, hk, hno, a3, a4, rfl⟩
    obtain ⟨rfl, hk3⟩ := rngD_mem hy
    have hk3 : k < 3 := hk3
    refine ⟨_, rfl, _, rfl, _, _, rfl, rfl, rfl, rfl, sh_int _, sh_int _, _, rfl, ?_⟩
    by_cases e : k = ws.length
    · refine ifT (show PyData.eqv (.int (0 + (k : Int))) (.int ((ws.map PyData.str).length : Nat)) = true from (eqv_int _ _).trans (decide_eq_true (by rw [List.length_map]; omega))) ?_
      have hR : R (.list [.str "text", .int (k : Nat)]) n' := by
        have hf : firstN 0 (partsD ws) = none := firstN_all fun d hd => hno d (by rw [List.take_of_length_le (by omega)]; exact hd)
        rw [hf] at hR
        have h3 : ws.length ≠ 3 := by omega
        simp only [if_neg h3] at hR
        rw [← e] at hR
        exact hR
      refine ⟨_, rfl, by show 2 ≤ sizeLine; decide, ?_⟩
      rw [Int.zero_add]
      exact hR
    · refine ifF (show PyData.eqv (.int (0 + (k : Int))) (.int ((ws.map PyData.str).length : Nat)) = false from (eqv_int _ _).trans (decide_eq_false (by rw [List.length_map]; omega))) ?_
      have hkl : k < ws.length := by omega
      have hw : ws[k]? = some ws[k] := List.getElem?_eq_getElem hkl
      have hwl' : ws[k].length ≤ 621 := hwm _ (List.getElem_mem hkl)
      generalize ws[k] = w at hw hwl'
      have hp := partsD_get hw
      have htk : (partsD ws).take (k + 1) = (partsD ws).take k ++ [partD k w] := by rw [List.take_add_one, hp]; rfl
      have hat : atI (ws.map PyData.str) (0 + (k : Int)) = some (.str w) := by
        unfold atI ixN
        rw [if_pos (by omega), if_pos (by rw [List.length_map]; omega), show (0 + (k : Int)).toNat = k by omega]
        show (List.map PyData.str ws)[k]? = _
        rw [List.getElem?_map, hw]
        rfl
      have hsz : ((partsD ws).take k).length + 1 ≤ 1000 := by rw [List.length_take]; omega
      refine ⟨_, rfl, _, rfl, _, _, rfl, hat, ?_⟩
      refine ⟨fun ρ m => m = n' ∧ ρ = [some (.dat (.str s)), some (.dat (.list (ws.map .str))), some (.mt ((partsD ws).take k ++ [partD k w])), some (.dat (.int (0 + (k : Int)))), some (.dat (.str w))], ?_, ?_⟩
      · refine ⟨_, rfl, rfl, rfl, sh_int _, sh_int _, _, rfl, ?_⟩
        by_cases h1 : k = 1
        · subst h1
          refine ifT (by decide +kernel) ⟨_, rfl, _, rfl, _, rfl, ?_⟩
          by_cases hs : w = "/"
          · subst hs
            exact iteT (B := False) ⟨small1000 (by omega), rfl, rfl⟩
          · have ep : partD 1 w = .none := by unfold partD; rw [if_neg (by decide), if_pos rfl, if_neg hs]
            refine iteDF hs ⟨small1000 (by omega), rfl, ?_⟩
            rw [ep]
            rfl
        · refine ifF (show PyData.eqv (.int (0 + (k : Int))) (.int 1) = false from (eqv_int _ _).trans (decide_eq_false (by omega))) ⟨_, rfl, _, rfl, rfl, rfl, sh_int _, sh_int _, _, rfl, ?_⟩
          by_cases h2 : k = 2
          · subst h2
            refine ifT (by decide +kernel) ⟨_, rfl, _, rfl, ?_⟩
            by_cases hs : w = "-"
            · subst hs
              exact iteT (B := False) ⟨Nat.zero_le _, small1000 (by omega), rfl, rfl⟩
            · have ep : partD 2 w = szsD w 20 := by unfold partD; rw [if_neg (by decide), if_neg (by decide), if_pos rfl, if_neg hs]
              refine iteDF hs ⟨_, rfl, rfl, w, rfl, by omega, small1000 (by omega), rfl, ?_⟩
              rw [ep]
              rfl
          · have h0 : k = 0 := by omega
            subst h0
            have ep : partD 0 w = szsD w 20 := if_pos rfl
            refine ifF (by decide +kernel) (iteF (A := False) ⟨_, rfl, rfl, w, rfl, by omega, small1000 (by omega), rfl, ?_⟩)
            rw [ep]
            rfl
      · rintro ρ m ⟨rfl, rfl⟩
        refine ⟨_, rfl, -1, _, rfl, atI_lastG _ _, rfl, rfl, _, rfl, ?_⟩
        cases hN : isN (partD k w) with
        | true =>
          refine ifT hN ?_
          refine ⟨_, rfl, by show 2 ≤ sizeLine; decide, ?_⟩
          rw [Int.zero_add]
          exact hsome hp hN hno
        | false =>
          refine ifF hN ⟨rfl, hkl, fun x hx => ?_, _, _, by rw [htk]⟩
          rw [htk] at hx
          rcases List.mem_append.mp hx with q | q
          · exact hno x q
          · rw [List.mem_singleton.mp q]; exact hN
  · rintro ρ n' ⟨rfl, hk, hno, a3, a4, rfl⟩
    have hk : 3 ≤ ws.length := hk
    have hno : ∀ x ∈ (partsD ws).take 3, isN x = false := hno
    refine ⟨_, rfl, _, _, rfl, rfl, _, rfl, ?_⟩
    rw [List.length_map]
    by_cases h3 : ws.length = 3
    · refine iteDF (by omega) ?_
      have hall : (partsD ws).take 3 = partsD ws := List.take_of_length_le (by omega)
      have hf : firstN 0 (partsD ws) = none := firstN_all fun d hd => hno d (by rw [hall]; exact hd)
      rw [hf] at hR
      simp only [if_pos h3] at hR
      show dTup (dCons (dBin oIx (dVar 2) (dC (PyData.int 0))) (dCons (dBin oIx (dVar 2) (dC (PyData.int 2))) dNil)) [some (Dv.dat (PyData.str s)), some (Dv.dat (PyData.list (List.map PyData.str ws))), some (Dv.mt (List.take 3 (partsD ws))), a3, a4] _ _
      rw [hall]
      rw [h3] at hpl
      generalize partsD ws = ds at hpl hR
      match ds, hpl, hR with
      | [a, b, c], _, hR => exact ⟨_, rfl, 0, a, rfl, rfl, _, rfl, 2, c, rfl, rfl, by show 2 ≤ sizeLine; decide, hR⟩
    · refine iteD (by omega) ⟨by show 2 ≤ sizeLine; decide, ?_⟩
      have hp : (partsD ws)[3]? = some (partD 3 (ws[3]'(by omega))) := partsD_get (List.getElem?_eq_getElem (by omega))
      exact hsome (k := 3) hp rfl hno
abbrev s_is_number : Stmt := topS 25
abbrev N_is_number : List Str := ["value"]
theorem sc_is_number : FnScope N_is_number ["value"] (defScope s_is_number) := ⟨rfl, rfl, rfl, by decide +kernel, rfl, by decide +kernel, by decide +kernel⟩
theorem fn_is_number {f : Addr} {fd : FuncData} (F : Fun K "is_number" "is_number" s_is_number f fd) (B : Bn K mg C) : FnG P w K mg base 1 f fd ["value"] (spD K 1 c_is_number) := by
  refine fnd (k := 0) c_is_number F sc_is_number fun cdv A outer s H hgd0 hr Y => ?_
  have hu := hr.units
  have hu1 : (A.deeper (envOfC "is_number" (defScope s_is_number) s.heap.objs.size f cdv)).units + 65 < cLine := by have := hr.un; omega
  have hu0 : (A.deeper (envOfC "is_number" (defScope s_is_number) s.heap.objs.size f cdv)).units + 1 < cLine := by have := hr.un; omega
  have hgd : (A.deeper (envOfC "is_number" (defScope s_is_number) s.heap.objs.size f cdv)).guards = some [] := hgd0
  refine ⟨_, (dss_one (ds_ret (we_and (we_isi (.inl rfl) (by rfl) B.isinstance (we_var 0) (by rfl) B.int PyProof.Rows.boot_int) (we_one (we_not (we_isi (.inr (.inl rfl)) (by rfl) B.isinstance (we_var 0) (by rfl) B.bool PyProof.Rows.boot_bool)))))), fun as n R hl hc => ?_⟩
  obtain ⟨d, rfl, hnr, hR⟩ := hc
  cases d with
  | int z => exact ⟨_, rfl, rfl, asB_T (isi_ii z) (iteT ⟨_, rfl, rfl, asB_F (isi_ib z) hR⟩)⟩
  | bool b => exact ⟨_, rfl, rfl, asB_T (isi_bi b) (iteT ⟨_, rfl, rfl, asB_T (isi_bb b) hR⟩)⟩
  | none => exact ⟨_, rfl, rfl, asB_F (show isiB "NoneType" "int" = false by decide +kernel) hR⟩
  | str s => exact ⟨_, rfl, rfl, asB_F (show isiB "str" "int" = false by decide +kernel) hR⟩
  | list ds => exact ⟨_, rfl, rfl, asB_F (show isiB "list" "int" = false by decide +kernel) hR⟩
  | tuple ds => exact ⟨_, rfl, rfl, asB_F (show isiB "tuple" "int" = false by decide +kernel) hR⟩
  | dict kvs => exact ⟨_, rfl, isDR_dat hnr, asB_F (show isiB "dict" "int" = false by decide +kernel) hR⟩
abbrev s_is_number_from : Stmt := topS 26
abbrev N_is_number_from : List Str := ["value", "low", "high"]
theorem sc_is_number_from : FnScope N_is_number_from ["value", "low", "high"] (defScope s_is_number_from) := ⟨rfl, rfl, rfl, by decide +kernel, rfl, by decide +kernel, by decide +kernel⟩
theorem fn_is_number_from {f : Addr} {fd : FuncData} (F : Fun K "is_number_from" "is_number_from" s_is_number_from f fd) (B : Bn K mg C) (H_is_number : Has P w K mg base "is_number" 1 ["value"] c_is_number) : FnG P w K mg base 2 f fd ["value", "low", "high"] (spD K 3 c_is_number_from) := by
  refine fnd (k := 1) c_is_number_from F sc_is_number_from fun cdv A outer s H hgd0 hr Y => ?_
  have hu := hr.units
  have hu1 : (A.deeper (envOfC "is_number_from" (defScope s_is_number_from) s.heap.objs.size f cdv)).units + 65 < cLine := by have := hr.un; omega
  have hu0 : (A.deeper (envOfC "is_number_from" (defScope s_is_number_from) s.heap.objs.size f cdv)).units + 1 < cLine := by have := hr.un; omega
  have hgd : (A.deeper (envOfC "is_number_from" (defScope s_is_number_from) s.heap.objs.size f cdv)).guards = some [] := hgd0
  refine ⟨_, (dss_one (ds_ret (we_and (we_has H_is_number hgd (hr.mono (by decide)) (by rfl) (wa_cons (we_var 0) wa_nil)) (we_one (we_chain op_le op_le bi_B0 bi_B0 (we_var 1) (we_var 0) (we_var 2)))))), fun as n R hl hc => ?_⟩
  obtain ⟨d, a, b, rfl, hnr, hR⟩ := hc
  refine ⟨_, rfl, rfl, d, rfl, hnr, ?_⟩
  cases d with
  | int z =>
    have hR : R (.bool (decide (a ≤ z) && decide (z ≤ b))) n := hR
    refine asB_T (c := true) rfl (iteT ⟨_, rfl, _, rfl, _, rfl, ?_⟩)
    by_cases h : a ≤ z
    · rw [decide_eq_true h, Bool.true_and] at hR
      exact iteD h ⟨_, rfl, hR⟩
    · rw [decide_eq_false h, Bool.false_and] at hR
      exact ifF (decide_eq_false h) hR
  | bool z => exact asB_F (c := false) rfl hR
  | none => exact asB_F (c := false) rfl hR
  | str s => exact asB_F (c := false) rfl hR
  | list ds => exact asB_F (c := false) rfl hR
  | tuple ds => exact asB_F (c := false) rfl hR
  | dict kvs => exact asB_F (c := false) rfl hR
abbrev s_is_size : Stmt := topS 27
abbrev N_is_size : List Str := ["value"]
theorem sc_is_size : FnScope N_is_size ["value"] (defScope s_is_size) := ⟨rfl, rfl, rfl, by decide +kernel, rfl, by decide +kernel, by decide +kernel⟩
theorem fn_is_size {f : Addr} {fd : FuncData} (F : Fun K "is_size" "is_size" s_is_size f fd) (B : Bn K mg C) (H_is_number_from : Has P w K mg base "is_number_from" 2 ["value", "low", "high"] c_is_number_from) : FnG P w K mg base 3 f fd ["value"] (spD K 1 c_is_size) := by
  refine fnd (k := 2) c_is_size F sc_is_size fun cdv A outer s H hgd0 hr Y => ?_
  have hu := hr.units
  have hu1 : (A.deeper (envOfC "is_size" (defScope s_is_size) s.heap.objs.size f cdv)).units + 65 < cLine := by have := hr.un; omega
  have hu0 : (A.deeper (envOfC "is_size" (defScope s_is_size) s.heap.objs.size f cdv)).units + 1 < cLine := by have := hr.un; omega
  have hgd : (A.deeper (envOfC "is_size" (defScope s_is_size) s.heap.objs.size f cdv)).guards = some [] := hgd0
  refine ⟨_, (dss_one (ds_ret (we_has H_is_number_from hgd (hr.mono (by decide)) (by rfl) (wa_cons (we_var 0) (wa_cons we_int (wa_cons (we_gint (by rfl) B.MAX_SIZE.choose_spec) wa_nil)))))), fun as n R hl hc => ?_⟩
  obtain ⟨d, rfl, hnr, hR⟩ := hc
  exact ⟨_, rfl, rfl, d, 1, 1000000, rfl, hnr, hR⟩
abbrev s__first_wrong : Stmt := topS 29
abbrev N__first_wrong : List Str := ["values", "at", "value"]
theorem sc__first_wrong : FnScope N__first_wrong ["values"] (defScope s__first_wrong) := ⟨rfl, rfl, rfl, by decide +kernel, rfl, by decide +kernel, by decide +kernel⟩
theorem fn__first_wrong {f : Addr} {fd : FuncData} (F : Fun K "_first_wrong" "_first_wrong" s__first_wrong f fd) (B : Bn K mg C) (H_is_size : Has P w K mg base "is_size" 3 ["value"] c_is_size) : FnG P w K mg base 4 f fd ["values"] (spD K 1 c__first_wrong) := by
  refine fnd (k := 3) c__first_wrong F sc__first_wrong fun cdv A outer s H hgd0 hr Y => ?_
  have hu := hr.units
  have hu1 : (A.deeper (envOfC "_first_wrong" (defScope s__first_wrong) s.heap.objs.size f cdv)).units + 65 < cLine := by have := hr.un; omega
  have hu0 : (A.deeper (envOfC "_first_wrong" (defScope s__first_wrong) s.heap.objs.size f cdv)).units + 1 < cLine := by have := hr.un; omega
  have hgd : (A.deeper (envOfC "_first_wrong" (defScope s__first_wrong) s.heap.objs.size f cdv)).guards = some [] := hgd0
  refine ⟨_, (dss_cons (ds_for PassesOwn.never rfl (di_enumA (by rfl) B.enumerate (wa_cons (we_var 0) wa_nil)) ⟨(pg_tup rfl (pgs_cons (pg_name (i := 1) sc__first_wrong.nd rfl (Or.inl rfl)) (pgs_cons (pg_name (i := 2) sc__first_wrong.nd rfl (Or.inl rfl)) pgs_nil))), gok_two⟩ (dss_one (ds_if (wt_not (wt_val (we_has H_is_size hgd (hr.mono (by decide)) (by rfl) (wa_cons (we_var 2) wa_nil)))) (dss_one (ds_ret (we_var 1))) dss_nil))) (dss_one (ds_ret we_non))), fun as n R hl hc => ?_⟩
  obtain ⟨xs, rfl, hx1, hxl, hR⟩ := hc
  refine ⟨_, rfl, _, _, rfl, rfl, ?_⟩
  refine forR_inv (fun k ρ n' => n' = n ∧ ∃ a1 a2, ρ = [some (.dat (sizesD xs)), a1, a2]) ⟨rfl, none, none, rfl⟩ ?_ ?_
  · rintro k x ρ n' hx ⟨rfl, a1, a2, rfl⟩
    obtain ⟨d, hd, rfl⟩ := enumD_get hx
    obtain ⟨z, hz, rfl⟩ := map_get hd
    obtain ⟨z1, z2⟩ := hx1 z (List.mem_of_getElem? hz)
    refine ⟨_, _, rfl, _, rfl, rfl, .int z, rfl, rfl, _, rfl, ?_⟩
    refine ifN (numIn_int z1 z2) ?_
    exact ⟨rfl, _, _, rfl⟩
  · rintro ρ n' ⟨rfl, a1, a2, rfl⟩
    exact hR
abbrev s_is_tuple : Stmt := topS 28
abbrev N_is_tuple : List Str := ["value", "least", "most"]
theorem sc_is_tuple : FnScope N_is_tuple ["value", "least", "most"] (defScope s_is_tuple) := ⟨rfl, rfl, rfl, by decide +kernel, rfl, by decide +kernel, by decide +kernel⟩
theorem fn_is_tuple {f : Addr} {fd : FuncData} (F : Fun K "is_tuple" "is_tuple" s_is_tuple f fd) (B : Bn K mg C) : FnG P w K mg base 1 f fd ["value", "least", "most"] (spD K 3 c_is_tuple) := by
  refine fnd (k := 0) c_is_tuple F sc_is_tuple fun cdv A outer s H hgd0 hr Y => ?_
  have hu := hr.units
  have hu1 : (A.deeper (envOfC "is_tuple" (defScope s_is_tuple) s.heap.objs.size f cdv)).units + 65 < cLine := by have := hr.un; omega
  have hu0 : (A.deeper (envOfC "is_tuple" (defScope s_is_tuple) s.heap.objs.size f cdv)).units + 1 < cLine := by have := hr.un; omega
  have hgd : (A.deeper (envOfC "is_tuple" (defScope s_is_tuple) s.heap.objs.size f cdv)).guards = some [] := hgd0
  refine ⟨_, (dss_one (ds_ret (we_and (we_isi (.inr (.inr (.inr (.inl rfl)))) (by rfl) B.isinstance (we_var 0) (by rfl) B.tuple PyProof.Rows.boot_tuple) (we_one (we_chain op_le op_le bi_B0 bi_B0 (we_var 1) (we_callB call_len_seq ck_len (by rfl) B.len PySem.boot_len (wa_cons (we_var 0) wa_nil)) (we_var 2)))))), fun as n R hl hc => ?_⟩
  obtain ⟨ds, a, b, rfl, h1, h2, hR⟩ := hc
  refine ⟨_, rfl, rfl, asB_T (isi_tt _) (iteT ?_)⟩
  refine ⟨_, rfl, _, rfl, _, _, rfl, rfl, _, rfl, iteD h1 ?_⟩
  refine ⟨_, rfl, ?_⟩
  show R (.bool (decide ((ds.length : Int) ≤ b))) n
  rw [decide_eq_true h2]
  exact hR
abbrev s_hall_error : Stmt := topS 30
abbrev N_hall_error : List Str := ["value", "feet", "pairs", "guest", "pair"]
theorem sc_hall_error : FnScope N_hall_error ["value"] (defScope s_hall_error) := ⟨rfl, rfl, rfl, by decide +kernel, rfl, by decide +kernel, by decide +kernel⟩
theorem fn_hall_error {f : Addr} {fd : FuncData} (F : Fun K "hall_error" "hall_error" s_hall_error f fd) (B : Bn K mg C) (H__first_wrong : Has P w K mg base "_first_wrong" 4 ["values"] c__first_wrong) (H_is_tuple : Has P w K mg base "is_tuple" 1 ["value", "least", "most"] c_is_tuple) : FnG P w K mg base 5 f fd ["value"] (spD K 1 c_hall_error) := by
  refine fnd (k := 4) c_hall_error F sc_hall_error fun cdv A outer s H hgd0 hr Y => ?_
  have hu := hr.units
  have hu1 : (A.deeper (envOfC "hall_error" (defScope s_hall_error) s.heap.objs.size f cdv)).units + 65 < cLine := by have := hr.un; omega
  have hu0 : (A.deeper (envOfC "hall_error" (defScope s_hall_error) s.heap.objs.size f cdv)).units + 1 < cLine := by have := hr.un; omega
  have hgd : (A.deeper (envOfC "hall_error" (defScope s_hall_error) s.heap.objs.size f cdv)).guards = some [] := hgd0
  refine ⟨_, (dss_cons (ds_if (wt_not (wt_val (we_has H_is_tuple hgd (hr.mono (by decide)) (by rfl) (wa_cons (we_var 0) (wa_cons we_int (wa_cons we_int wa_nil)))))) (dss_one (ds_ret (we_tup (wa_cons we_non (wa_cons we_str wa_nil))))) dss_nil) (dss_cons (ds_asgG (we_var 0) ⟨(pg_tup rfl (pgs_cons (pg_name (i := 1) sc_hall_error.nd rfl (Or.inl rfl)) (pgs_cons (pg_name (i := 2) sc_hall_error.nd rfl (Or.inl rfl)) pgs_nil))), gok_two⟩) (dss_cons (ds_if (wt_not (wt_val (we_has H_is_tuple hgd (hr.mono (by decide)) (by rfl) (wa_cons (we_var 1) (wa_cons we_int (wa_cons (we_gint (by rfl) B.MAX_GUESTS.choose_spec) wa_nil)))))) (dss_one (ds_ret (we_tup (wa_cons we_non (wa_cons we_str wa_nil))))) dss_nil) (dss_cons (ds_set (i := 3) sc_hall_error.nd rfl (Or.inl rfl) (xe_d (we_has H__first_wrong hgd (hr.mono (by decide)) (by rfl) (wa_cons (we_var 1) wa_nil)))) (dss_cons (ds_if (wt_cmp op_notN bi_notN (we_var 3) we_non (nomark _)) (dss_one (ds_ret (we_tup (wa_cons (we_var 3) (wa_cons we_str wa_nil))))) dss_nil) (dss_cons (ds_if (wt_not (wt_val (we_has H_is_tuple hgd (hr.mono (by decide)) (by rfl) (wa_cons (we_var 2) (wa_cons we_int (wa_cons (we_gint (by rfl) B.MAX_PAIRS.choose_spec) wa_nil)))))) (dss_one (ds_ret (we_tup (wa_cons we_non (wa_cons we_str wa_nil))))) dss_nil) (dss_cons (ds_set (i := 4) sc_hall_error.nd rfl (Or.inl rfl) (xe_d (we_has H__first_wrong hgd (hr.mono (by decide)) (by rfl) (wa_cons (we_var 2) wa_nil)))) (dss_cons (ds_if (wt_cmp op_notN bi_notN (we_var 4) we_non (nomark _)) (dss_one (ds_ret (we_tup (wa_cons (we_var 4) (wa_cons we_str wa_nil))))) dss_nil) (dss_one (ds_ret we_non)))))))))), fun as n R hl hc => ?_⟩
  obtain ⟨feet, pairs, rfl, hh, hf, hp, hR⟩ := hc
  have hf1 := hh.f1
  refine ⟨_, rfl, rfl, _, 2, 2, rfl, by show (2 : Int) ≤ 2; decide, by show (2 : Int) ≤ 2; decide, _, rfl, ?_⟩
  refine ifN (b := true) rfl ?_
  refine ⟨_, rfl, _, _, rfl, _, rfl, rfl, _, 1, 20, rfl, by rw [List.length_map]; omega, by rw [List.length_map]; omega, _, rfl, ?_⟩
  refine ifN (b := true) rfl ?_
  refine ⟨_, rfl, rfl, feet, rfl, hh.fi, hh.f2, ?_⟩
  refine ⟨_, rfl, rfl, rfl, _, rfl, iteF ?_⟩
  refine ⟨_, rfl, rfl, _, 0, 20, rfl, by rw [List.length_map]; omega, by rw [List.length_map]; omega, _, rfl, ?_⟩
  refine ifN (b := true) rfl ?_
  refine ⟨_, rfl, rfl, pairs, rfl, hh.pi, hh.p2, ?_⟩
  exact ⟨_, rfl, rfl, rfl, _, rfl, iteF hR⟩
abbrev s_counts_at : Stmt := topS 31
abbrev N_counts_at : List Str := ["hall", "size", "feet", "pairs", "smaller", "larger", "foot", "pair"]
theorem sc_counts_at : FnScope N_counts_at ["hall", "size"] (defScope s_counts_at) := ⟨rfl, rfl, rfl, by decide +kernel, rfl, by decide +kernel, by decide +kernel⟩
theorem fn_counts_at {f : Addr} {fd : FuncData} (F : Fun K "counts_at" "counts_at" s_counts_at f fd) (B : Bn K mg C) : FnG P w K mg base 1 f fd ["hall", "size"] (spD K 2 c_counts_at) := by
  refine fnd (k := 0) c_counts_at F sc_counts_at fun cdv A outer s H hgd0 hr Y => ?_
  have hu := hr.units
  have hu1 : (A.deeper (envOfC "counts_at" (defScope s_counts_at) s.heap.objs.size f cdv)).units + 65 < cLine := by have := hr.un; omega
  have hu0 : (A.deeper (envOfC "counts_at" (defScope s_counts_at) s.heap.objs.size f cdv)).units + 1 < cLine := by have := hr.un; omega
  have hgd : (A.deeper (envOfC "counts_at" (defScope s_counts_at) s.heap.objs.size f cdv)).guards = some [] := hgd0
  refine ⟨_, (dss_cons (ds_asgG (we_var 0) ⟨(pg_tup rfl (pgs_cons (pg_name (i := 2) sc_counts_at.nd rfl (Or.inl rfl)) (pgs_cons (pg_name (i := 3) sc_counts_at.nd rfl (Or.inl rfl)) pgs_nil))), gok_two⟩) (dss_cons (ds_setLcV (i := 4) (u := xD (dOfM _)) (hyl := rfl) (hy := rfl) (hsw := sw_true rfl rfl rfl (by decide +kernel)) (hu := lc_dat) (own := [("foot", 6)]) (hc := rfl) (hN := sc_counts_at.nd) (hi := (di_seqV (we_var 2))) (ok := (blkOk_by (N := N_counts_at) (sc := defScope s_counts_at) (by decide +kernel))) (hk := gok_name) (hg := fun _ _ _ _ _ => (pg_name (i := 6) sc_counts_at.nd rfl (Or.inl rfl))) (ht := fun _ _ _ _ _ => (wts_one (wt_cmp op_lt bi_B0 (we_var 6) (we_var 1) (nomark _)))) (he := fun _ _ _ _ _ => (we_var 6)) (hv := by decide)) (dss_cons (ds_setLcV (i := 5) (u := xD (dOfM _)) (hyl := rfl) (hy := rfl) (hsw := sw_true rfl rfl rfl (by decide +kernel)) (hu := lc_dat) (own := [("pair", 7)]) (hc := rfl) (hN := sc_counts_at.nd) (hi := (di_seqV (we_var 3))) (ok := (blkOk_by (N := N_counts_at) (sc := defScope s_counts_at) (by decide +kernel))) (hk := gok_name) (hg := fun _ _ _ _ _ => (pg_name (i := 7) sc_counts_at.nd rfl (Or.inl rfl))) (ht := fun _ _ _ _ _ => (wts_one (wt_cmp op_ge bi_B0 (we_var 7) (we_var 1) (nomark _)))) (he := fun _ _ _ _ _ => (we_var 7)) (hv := by decide)) (dss_one (ds_ret (we_tup (wa_cons (we_callB call_len_seq ck_len (by rfl) B.len PySem.boot_len (wa_cons (we_var 4) wa_nil)) (wa_cons (we_callB call_len_seq ck_len (by rfl) B.len PySem.boot_len (wa_cons (we_var 5) wa_nil)) wa_nil)))))))), fun as n R hl hc => ?_⟩
  obtain ⟨feet, pairs, z, rfl, hf, hp, hR⟩ := hc
  refine ⟨_, rfl, _, _, rfl, _, rfl, _, rfl, compR_p feet .int (fun x => decide (x < z)) .int (small1000 (by omega)) (fun x hx acc KK hK => ⟨_, rfl, _, rfl, _, rfl, ite_imp (fun h => ⟨_, rfl, h⟩) id hK⟩) ?_⟩
  refine ⟨_, rfl, _, rfl, compR_p pairs .int (fun x => decide (z ≤ x)) .int (small1000 (by omega)) (fun x hx acc KK hK => ⟨_, rfl, _, rfl, _, rfl, ite_imp (fun h => ⟨_, rfl, h⟩) id hK⟩) ?_⟩
  refine ⟨_, rfl, _, _, rfl, rfl, _, rfl, _, _, rfl, rfl, by show 2 ≤ sizeLine; decide, ?_⟩
  simp only [List.length_map]
  exact hR
abbrev s__foot_sizes : Stmt := topS 40
abbrev N__foot_sizes : List Str := ["hall"]
theorem sc__foot_sizes : FnScope N__foot_sizes ["hall"] (defScope s__foot_sizes) := ⟨rfl, rfl, rfl, by decide +kernel, rfl, by decide +kernel, by decide +kernel⟩
theorem fn__foot_sizes {f : Addr} {fd : FuncData} (F : Fun K "_foot_sizes" "_foot_sizes" s__foot_sizes f fd) (B : Bn K mg C) : FnG P w K mg base 1 f fd ["hall"] (spD K 1 c__foot_sizes) := by
  refine fnd (k := 0) c__foot_sizes F sc__foot_sizes fun cdv A outer s H hgd0 hr Y => ?_
  have hu := hr.units
  have hu1 : (A.deeper (envOfC "_foot_sizes" (defScope s__foot_sizes) s.heap.objs.size f cdv)).units + 65 < cLine := by have := hr.un; omega
  have hu0 : (A.deeper (envOfC "_foot_sizes" (defScope s__foot_sizes) s.heap.objs.size f cdv)).units + 1 < cLine := by have := hr.un; omega
  have hgd : (A.deeper (envOfC "_foot_sizes" (defScope s__foot_sizes) s.heap.objs.size f cdv)).guards = some [] := hgd0
  refine ⟨_, (dss_one (ds_ret (we_ofM (me_sortedSet rfl (by rfl) B.sorted (by rfl) B.set (we_ix (we_var 0) we_int (fun _ _ => rfl)))))), fun as n R hl hc => ?_⟩
  obtain ⟨feet, pairs, rfl, hf, hR⟩ := hc
  exact ⟨_, rfl, 0, _, rfl, rfl, feet, rfl, by omega, fun ms hp hm => hR ms (sd_uniq hp hm) hm (Nat.le_trans (nodup_len (hp.imp fun h => Int.ne_of_lt h) fun x hx => (hm x).mp hx) hf)⟩
abbrev s__deciding_sizes : Stmt := topS 41
abbrev N__deciding_sizes : List Str := ["hall"]
theorem sc__deciding_sizes : FnScope N__deciding_sizes ["hall"] (defScope s__deciding_sizes) := ⟨rfl, rfl, rfl, by decide +kernel, rfl, by decide +kernel, by decide +kernel⟩
theorem fn__deciding_sizes {f : Addr} {fd : FuncData} (F : Fun K "_deciding_sizes" "_deciding_sizes" s__deciding_sizes f fd) (B : Bn K mg C) (H__foot_sizes : Has P w K mg base "_foot_sizes" 1 ["hall"] c__foot_sizes) : FnG P w K mg base 2 f fd ["hall"] (spD K 1 c__deciding_sizes) := by
  refine fnd (k := 1) c__deciding_sizes F sc__deciding_sizes fun cdv A outer s H hgd0 hr Y => ?_
  have hu := hr.units
  have hu1 : (A.deeper (envOfC "_deciding_sizes" (defScope s__deciding_sizes) s.heap.objs.size f cdv)).units + 65 < cLine := by have := hr.un; omega
  have hu0 : (A.deeper (envOfC "_deciding_sizes" (defScope s__deciding_sizes) s.heap.objs.size f cdv)).units + 1 < cLine := by have := hr.un; omega
  have hgd : (A.deeper (envOfC "_deciding_sizes" (defScope s__deciding_sizes) s.heap.objs.size f cdv)).guards = some [] := hgd0
  refine ⟨_, (dss_one (ds_ret (we_bin or_addA bi_add (we_has H__foot_sizes hgd (hr.mono (by decide)) (by rfl) (wa_cons (we_var 0) wa_nil)) (we_ofM (me_lst (wa_cons (we_bin or_addA bi_add (we_gint (by rfl) B.MAX_SIZE.choose_spec) we_int) wa_nil)))))), fun as n R hl hc => ?_⟩
  obtain ⟨feet, pairs, rfl, hf, hR⟩ := hc
  refine ⟨_, rfl, rfl, feet, pairs, rfl, hf, fun ms he hm hml => ⟨by show 1 ≤ sizeLine; decide, line1000 (by rw [List.length_map]; show ms.length + 1 ≤ 1000; omega), ?_⟩⟩
  have h := hR (ms ++ [1000000 + 1]) (by rw [he]; rfl) (fun k => by
    rw [List.mem_append, hm k, List.mem_singleton]
    exact Iff.rfl) (by rw [List.length_append]; exact Nat.succ_le_succ hml)
  rw [List.map_append] at h
  exact h
abbrev s_most_served : Stmt := topS 42
abbrev N_most_served : List Str := ["hall", "size"]
theorem sc_most_served : FnScope N_most_served ["hall"] (defScope s_most_served) := ⟨rfl, rfl, rfl, by decide +kernel, rfl, by decide +kernel, by decide +kernel⟩
theorem fn_most_served {f : Addr} {fd : FuncData} (F : Fun K "most_served" "most_served" s_most_served f fd) (B : Bn K mg C) (H_counts_at : Has P w K mg base "counts_at" 1 ["hall", "size"] c_counts_at) (H__deciding_sizes : Has P w K mg base "_deciding_sizes" 2 ["hall"] c__deciding_sizes) : FnG P w K mg base 3 f fd ["hall"] (spD K 1 c_most_served) := by
  refine fnd (k := 2) c_most_served F sc_most_served fun cdv A outer s H hgd0 hr Y => ?_
  have hu := hr.units
  have hu1 : (A.deeper (envOfC "most_served" (defScope s_most_served) s.heap.objs.size f cdv)).units + 65 < cLine := by have := hr.un; omega
  have hu0 : (A.deeper (envOfC "most_served" (defScope s_most_served) s.heap.objs.size f cdv)).units + 1 < cLine := by have := hr.un; omega
  have hgd : (A.deeper (envOfC "most_served" (defScope s_most_served) s.heap.objs.size f cdv)).guards = some [] := hgd0
  refine ⟨_, (dss_one (ds_ret (we_callB (call_minA rfl) ck_min (by rfl) B.min PyProof.Rows.boot_min (wa_cons (we_ofM (me_compV (own := [("size", 1)]) rfl sc_most_served.nd (di_seqV (we_has H__deciding_sizes hgd (hr.mono (by decide)) (by rfl) (wa_cons (we_var 0) wa_nil))) (blkOk_by (N := N_most_served) (sc := defScope s_most_served) (by decide +kernel)) gok_name (fun _ _ _ _ _ => (pg_name (i := 1) sc_most_served.nd rfl (Or.inl rfl))) (fun _ _ _ _ _ => wts_nil) (fun _ _ _ _ _ => (we_callB (call_sumA rfl) ck_sum (by rfl) B.sum PyProof.Rows.boot_sum (wa_cons (we_has H_counts_at hgd (hr.mono (by decide)) (by rfl) (wa_cons (we_var 0) (wa_cons (we_var 1) wa_nil))) wa_nil))) (by decide))) wa_nil)))), fun as n R hl hc => ?_⟩
  obtain ⟨feet, pairs, rfl, hh, hR⟩ := hc
  have hf40 := hh.f2
  have hp40 := hh.p2
  refine ⟨_, rfl, rfl, feet, pairs, rfl, hf40, fun ms hme hm hml => ⟨_, rfl, compR_m ms .int (fun s => .int ((cF feet s : Int) + cP pairs s)) (small1000 (by omega)) (fun x hx acc KK ha hK => ⟨_, rfl, _, rfl, rfl, feet, pairs, x, rfl, by omega, by omega, _, [(cF feet x : Int), (cP pairs x : Int)], rfl, rfl, ?_⟩) ?_⟩⟩
  · rw [show ([(cF feet x : Int), (cP pairs x : Int)] : List Int).sum = (cF feet x : Int) + cP pairs x by simp]; exact ⟨ha, hK⟩
  refine ⟨ms.map fun s => (cF feet s : Int) + cP pairs s, by rw [List.map_map]; rfl, ?_, fun m hm2 hle => hR m ?_⟩
  · rw [List.length_map]
    exact List.length_pos_of_mem ((hm 1000001).mpr (.inr rfl))
  obtain ⟨s, hs, rfl⟩ := List.mem_map.mp hm2
  obtain ⟨s0, h0, h1⟩ := most_at (feet := feet) (pairs := pairs) (top := 1000001) (fun x hx => by have := hh.fi x hx; omega) fun x hx => by have := hh.pi x hx; omega
  refine ⟨⟨s, rfl⟩, fun s' => ?_⟩
  exact Int.le_trans (hle _ (List.mem_map_of_mem ((hm s0).mpr h0))) (h1 s')
abbrev s_fewest_served : Stmt := topS 43
abbrev N_fewest_served : List Str := ["hall", "size"]
theorem sc_fewest_served : FnScope N_fewest_served ["hall"] (defScope s_fewest_served) := ⟨rfl, rfl, rfl, by decide +kernel, rfl, by decide +kernel, by decide +kernel⟩
theorem fn_fewest_served {f : Addr} {fd : FuncData} (F : Fun K "fewest_served" "fewest_served" s_fewest_served f fd) (B : Bn K mg C) (H_counts_at : Has P w K mg base "counts_at" 1 ["hall", "size"] c_counts_at) (H__deciding_sizes : Has P w K mg base "_deciding_sizes" 2 ["hall"] c__deciding_sizes) : FnG P w K mg base 3 f fd ["hall"] (spD K 1 c_fewest_served) := by
  refine fnd (k := 2) c_fewest_served F sc_fewest_served fun cdv A outer s H hgd0 hr Y => ?_
  have hu := hr.units
  have hu1 : (A.deeper (envOfC "fewest_served" (defScope s_fewest_served) s.heap.objs.size f cdv)).units + 65 < cLine := by have := hr.un; omega
  have hu0 : (A.deeper (envOfC "fewest_served" (defScope s_fewest_served) s.heap.objs.size f cdv)).units + 1 < cLine := by have := hr.un; omega
  have hgd : (A.deeper (envOfC "fewest_served" (defScope s_fewest_served) s.heap.objs.size f cdv)).guards = some [] := hgd0
  refine ⟨_, (dss_one (ds_ret (we_callB (call_minA rfl) ck_min (by rfl) B.min PyProof.Rows.boot_min (wa_cons (we_ofM (me_compV (own := [("size", 1)]) rfl sc_fewest_served.nd (di_seqV (we_has H__deciding_sizes hgd (hr.mono (by decide)) (by rfl) (wa_cons (we_var 0) wa_nil))) (blkOk_by (N := N_fewest_served) (sc := defScope s_fewest_served) (by decide +kernel)) gok_name (fun _ _ _ _ _ => (pg_name (i := 1) sc_fewest_served.nd rfl (Or.inl rfl))) (fun _ _ _ _ _ => wts_nil) (fun _ _ _ _ _ => (we_callB (call_maxA rfl) ck_max (by rfl) B.max PyProof.Rows.boot_max (wa_cons (we_has H_counts_at hgd (hr.mono (by decide)) (by rfl) (wa_cons (we_var 0) (wa_cons (we_var 1) wa_nil))) wa_nil))) (by decide))) wa_nil)))), fun as n R hl hc => ?_⟩
  obtain ⟨feet, pairs, rfl, hh, hR⟩ := hc
  have hf40 := hh.f2
  have hp40 := hh.p2
  refine ⟨_, rfl, rfl, feet, pairs, rfl, hf40, fun ms hme hm hml => ⟨_, rfl, compR_m ms .int (fun s => .int (((max (cF feet s) (cP pairs s) : Nat) : Int))) (small1000 (by omega)) (fun x hx acc KK ha hK => ⟨_, rfl, _, rfl, rfl, feet, pairs, x, rfl, by omega, by omega, [(cF feet x : Int), (cP pairs x : Int)], rfl, (by show 0 < 2; decide), fun m q1 q2 => ?_⟩) ?_⟩⟩
  · have e : m = ((max (cF feet x) (cP pairs x) : Nat) : Int) := by
      have a1 := q2 (cF feet x : Int) (by simp)
      have a2 := q2 (cP pairs x : Int) (by simp)
      simp only [List.mem_cons, List.not_mem_nil, or_false] at q1
      rcases q1 with rfl | rfl <;> omega
    subst e
    exact ⟨ha, hK⟩
  refine ⟨ms.map fun s => ((max (cF feet s) (cP pairs s) : Nat) : Int), by rw [List.map_map]; rfl, ?_, fun m hm2 hle => hR m ?_⟩
  · rw [List.length_map]
    exact List.length_pos_of_mem ((hm 1000001).mpr (.inr rfl))
  obtain ⟨s, hs, rfl⟩ := List.mem_map.mp hm2
  obtain ⟨s0, h0, h1⟩ := few_at (feet := feet) (pairs := pairs) (top := 1000001) fun x hx => by have := hh.pi x hx; omega
  refine ⟨⟨s, rfl⟩, fun s' => ?_⟩
  exact Int.le_trans (hle _ (List.mem_map_of_mem ((hm s0).mpr h0))) (h1 s')
abbrev s_Party__stand : Stmt := inCls (topS 56) 2
abbrev N_Party__stand : List Str := ["self", "halls", "done"]
theorem sc_Party__stand : FnScope N_Party__stand ["self", "halls", "done"] (defScope s_Party__stand) := ⟨rfl, rfl, rfl, by decide +kernel, rfl, by decide +kernel, by decide +kernel⟩
theorem fn_Party__stand {f : Addr} {fd : FuncData} (F : Fun K "_stand" "Party._stand" s_Party__stand f fd) (B : Bn K mg C) (H_most_served : Has P w K mg base "most_served" 3 ["hall"] c_most_served) (H_fewest_served : Has P w K mg base "fewest_served" 3 ["hall"] c_fewest_served) : FnGX P w K mg base 4 f fd ["self", "halls", "done"] (spDX K 3 (c_Party__stand C)) := by
  refine fndX (k := 3) (c_Party__stand C) F sc_Party__stand fun cdv A outer s H Eh hgd0 hr Y E ok tk => ?_
  have hu := hr.units
  have hu1 : (A.deeper (envOfC "Party._stand" (defScope s_Party__stand) s.heap.objs.size f cdv)).units + 65 < cLine := by have := hr.un; omega
  have hu0 : (A.deeper (envOfC "Party._stand" (defScope s_Party__stand) s.heap.objs.size f cdv)).units + 1 < cLine := by have := hr.un; omega
  have hgd : (A.deeper (envOfC "Party._stand" (defScope s_Party__stand) s.heap.objs.size f cdv)).guards = some [] := hgd0
  refine ⟨_, (dss_cons (ds_fld (we_var 0) (we_ix (we_var 1) (we_neg we_int) (fun _ _ => rfl))) (dss_cons (ds_fld (we_var 0) (we_has H_most_served hgd (hr.mono (by decide)) (by rfl) (wa_cons (we_fld (we_var 0)) wa_nil))) (dss_cons (ds_fld (we_var 0) (we_has H_fewest_served hgd (hr.mono (by decide)) (by rfl) (wa_cons (we_fld (we_var 0)) wa_nil))) (dss_cons (ds_fld (we_var 0) (we_var 1)) (dss_one (ds_fld (we_var 0) (we_var 2))))))), fun as n R hl hc => ?_⟩
  obtain ⟨a, D, o, b, h, hs, done, fs, rfl, hob, hK, hst, hl, hk, hR⟩ := hc
  have ok := hk.ok
  have L := last_at hl
  rcases hst with ⟨rfl, rfl⟩ | ⟨p, rfl, rfl⟩
  all_goals skip
  all_goals
    refine ⟨_, rfl, -1, _, rfl, L, _, rfl, a, _, rfl, hob, B.flk_hall hK, (by first | exact Nat.le_of_ble_eq_true rfl | exact fx_len (p := Pt.mk _ _ _ _ _ _)), ?_⟩
    refine ⟨_, rfl, a, _, _, rfl, Wo.put_at, B.flk_hall hK, rfl, rfl, h.1, h.2, rfl, ok, fun m hm => ⟨_, rfl, a, _, rfl, Wo.put_at, B.flk_most hK, (by first | exact Nat.le_of_ble_eq_true rfl | exact fx_len (p := Pt.mk _ _ _ _ _ _)), ?_⟩⟩
    refine ⟨_, rfl, a, _, _, rfl, Wo.put_at, B.flk_hall hK, rfl, rfl, h.1, h.2, rfl, ok, fun f hf => ⟨_, rfl, a, _, rfl, Wo.put_at, B.flk_fewest hK, (by first | exact Nat.le_of_ble_eq_true rfl | exact fx_len (p := Pt.mk _ _ _ _ _ _)), ?_⟩⟩
    refine ⟨_, rfl, _, rfl, a, _, rfl, Wo.put_at, B.flk__halls hK, (by first | exact Nat.le_of_ble_eq_true rfl | exact fx_len (p := Pt.mk _ _ _ _ _ _)), ?_⟩
    refine ⟨_, rfl, _, rfl, a, _, rfl, Wo.put_at, B.flk__done hK, (by first | exact Nat.le_of_ble_eq_true rfl | exact fx_len (p := Pt.mk _ _ _ _ _ _)), ?_⟩
    rw [Wo.put_put, Wo.put_put, Wo.put_put, Wo.put_put]
    exact hR m f hm hf
abbrev s_Party___init__ : Stmt := inCls (topS 56) 1
abbrev N_Party___init__ : List Str := ["self", "hall", "error"]
theorem sc_Party___init__ : FnScope N_Party___init__ ["self", "hall"] (defScope s_Party___init__) := ⟨rfl, rfl, rfl, by decide +kernel, rfl, by decide +kernel, by decide +kernel⟩
theorem fn_Party___init__ {f : Addr} {fd : FuncData} (F : Fun K "__init__" "Party.__init__" s_Party___init__ f fd) (B : Bn K mg C) (H_hall_error : Has P w K mg base "hall_error" 5 ["value"] c_hall_error) (HM__stand : HasM P w K mg base (fun D => D = C.Party ∨ D = C.PledgedParty) "_stand" 4 ["self", "halls", "done"] (fun _ => c_Party__stand C)) (H_BadHall : ErrC P w K mg base "BadHall" C.BadHall "error") : FnGX P w K mg base 6 f fd ["self", "hall"] (spDX K 2 (c_Party___init__ C)) := by
  refine fndX (k := 5) (c_Party___init__ C) F sc_Party___init__ fun cdv A outer s H Eh hgd0 hr Y E ok tk => ?_
  have hu := hr.units
  have hu1 : (A.deeper (envOfC "Party.__init__" (defScope s_Party___init__) s.heap.objs.size f cdv)).units + 65 < cLine := by have := hr.un; omega
  have hu0 : (A.deeper (envOfC "Party.__init__" (defScope s_Party___init__) s.heap.objs.size f cdv)).units + 1 < cLine := by have := hr.un; omega
  have hgd : (A.deeper (envOfC "Party.__init__" (defScope s_Party___init__) s.heap.objs.size f cdv)).guards = some [] := hgd0
  refine ⟨_, (dss_cons (ds_set (i := 2) sc_Party___init__.nd rfl (Or.inl rfl) (xe_d (we_has H_hall_error hgd (hr.mono (by decide)) (by rfl) (wa_cons (we_var 1) wa_nil)))) (dss_cons (ds_if (wt_cmp op_notN bi_notN (we_var 2) we_non (nomark _)) (dss_one (ds_raise rfl tk ok H_BadHall (hr.mono (by decide)) (by rfl) (we_var 2))) dss_nil) (dss_cons (ds_fld (we_var 0) we_bl) (dss_one (ds_expr (we_meth (pl := _) tk ok HM__stand hgd (hr.mono (by decide)) (we_var 0) (wa_cons (we_tup (wa_cons (we_var 1) wa_nil)) (wa_cons (we_tup wa_nil) wa_nil)))))))), fun as n R hl hc => ?_⟩
  obtain ⟨a, D, h, rfl, hk, hob, hK, hR⟩ := hc
  refine ⟨_, rfl, rfl, h.1, h.2, rfl, hk.ok, hk.l1, hk.l2, ?_⟩
  refine ⟨_, rfl, rfl, rfl, _, rfl, iteF ?_⟩
  refine ⟨_, rfl, a, _, rfl, hob, B.flk__busy hK, (Nat.le_of_ble_eq_true rfl), ?_⟩
  refine ⟨_, rfl, a, _, rfl, Wo.put_at, hK, rfl, _, rfl, by show 1 ≤ sizeLine; decide, Nat.zero_le _, rfl, a, D, none, false, h, [h], [], _, rfl, Wo.put_at, hK, .inl ⟨rfl, rfl⟩, rfl, hk, fun m f hm hf => ?_⟩
  rw [Wo.put_put]
  exact hR m f hm hf
abbrev s_number_in : Stmt := topS 50
abbrev N_number_in : List Str := ["word", "digits", "number"]
theorem sc_number_in : FnScope N_number_in ["word", "digits"] (defScope s_number_in) := ⟨rfl, rfl, rfl, by decide +kernel, rfl, by decide +kernel, by decide +kernel⟩
theorem fn_number_in {f : Addr} {fd : FuncData} (F : Fun K "number_in" "number_in" s_number_in f fd) (B : Bn K mg C) : FnG P w K mg base 1 f fd ["word", "digits"] (spD K 2 c_number_in) := by
  refine fnd (k := 0) c_number_in F sc_number_in fun cdv A outer s H hgd0 hr Y => ?_
  have hu := hr.units
  have hu1 : (A.deeper (envOfC "number_in" (defScope s_number_in) s.heap.objs.size f cdv)).units + 65 < cLine := by have := hr.un; omega
  have hu0 : (A.deeper (envOfC "number_in" (defScope s_number_in) s.heap.objs.size f cdv)).units + 1 < cLine := by have := hr.un; omega
  have hgd : (A.deeper (envOfC "number_in" (defScope s_number_in) s.heap.objs.size f cdv)).guards = some [] := hgd0
  refine ⟨_, (dss_cons (ds_if (wt_w (ww_or (wt_cmp op_gt bi_B0 (we_callB call_len_str ck_lenS (by rfl) B.len PySem.boot_len (wa_cons (we_var 0) wa_nil)) (we_var 1) (nomark _)) (ww_or (wt_not (wt_val (we_isascii (we_var 0)))) (ww_or1 (wt_not (wt_val (we_isdigit (we_var 0)))))))) (dss_one (ds_ret we_non)) dss_nil) (dss_cons (ds_set (i := 2) sc_number_in.nd rfl (Or.inl rfl) (xe_d (we_callTy call_int_str ck_intS (by rfl) B.int PyProof.Rows.boot_int (wa_cons (we_var 0) wa_nil)))) (dss_cons (ds_if (wt_cmp (or_neA hu) bi_neA (we_callTy call_str_int cr_str (by rfl) B.str PyProof.Rows.boot_str (wa_cons (we_var 2) wa_nil)) (we_var 0) (nomark _)) (dss_one (ds_ret we_non)) dss_nil) (dss_one (ds_ret (we_var 2)))))), fun as n R hl hc => ?_⟩
  obtain ⟨w, k, rfl, hw, hk, hR⟩ := hc
  have hs := digs_txt w
  refine ⟨_, rfl, w, rfl, Nat.le_trans hw (by decide), _, rfl, _, rfl, ?_⟩
  by_cases h1 : w.length ≤ k
  · refine iteDF (by omega) ⟨_, rfl, w, rfl, trivial, _, rfl, ?_⟩
    cases ha : Txt.isascii w with
    | false =>
      rw [ha, Bool.false_and] at hs
      refine iteT (iteT ?_)
      show R .none n
      unfold numOD numO at hR
      rw [← hs] at hR
      simpa using hR
    | true =>
      rw [ha, Bool.true_and] at hs
      refine iteF ⟨_, rfl, w, rfl, trivial, _, rfl, ?_⟩
      cases hb : Txt.isdigit w with
      | false =>
        rw [hb] at hs
        refine iteT ?_
        show R .none n
        unfold numOD numO at hR
        rw [← hs] at hR
        simpa using hR
      | true =>
        rw [hb] at hs
        refine iteF ⟨_, rfl, w, _, rfl, int_txt hs.symm (by omega), by omega, ?_⟩
        refine ⟨_, rfl, _, rfl, ?_, _, rfl, ?_⟩
        · exact val_log (digs_all hs.symm).1 (by rw [← len_chs]; omega)
        refine ⟨_, rfl, ?_⟩
        unfold numOD numO at hR
        by_cases h3 : TL.numL (valL (chs w)) = chs w
        · rw [if_pos ⟨h1, hs.symm, h3⟩] at hR
          refine ifN (by rw [str_num]; exact decide_eq_true h3) ⟨_, rfl, hR⟩
        · rw [if_neg fun q => h3 q.2.2] at hR
          refine ifNF (by rw [str_num]; exact decide_eq_false h3) hR
  · refine iteD (by omega) ?_
    show R .none n
    unfold numOD numO at hR
    rw [if_neg fun q => h1 q.1] at hR
    exact hR
abbrev s__sizes_in : Stmt := topS 51
abbrev N__sizes_in : List Str := ["word", "most", "sizes", "text", "size"]
theorem sc__sizes_in : FnScope N__sizes_in ["word", "most"] (defScope s__sizes_in) := ⟨rfl, rfl, rfl, by decide +kernel, rfl, by decide +kernel, by decide +kernel⟩
theorem fn__sizes_in {f : Addr} {fd : FuncData} (F : Fun K "_sizes_in" "_sizes_in" s__sizes_in f fd) (B : Bn K mg C) (H_number_in : Has P w K mg base "number_in" 1 ["word", "digits"] c_number_in) (H_is_size : Has P w K mg base "is_size" 3 ["value"] c_is_size) : FnG P w K mg base 4 f fd ["word", "most"] (spD K 2 c__sizes_in) := by
  refine fnd (k := 3) c__sizes_in F sc__sizes_in fun cdv A outer s H hgd0 hr Y => ?_
  have hu := hr.units
  have hu1 : (A.deeper (envOfC "_sizes_in" (defScope s__sizes_in) s.heap.objs.size f cdv)).units + 65 < cLine := by have := hr.un; omega
  have hu0 : (A.deeper (envOfC "_sizes_in" (defScope s__sizes_in) s.heap.objs.size f cdv)).units + 1 < cLine := by have := hr.un; omega
  have hgd : (A.deeper (envOfC "_sizes_in" (defScope s__sizes_in) s.heap.objs.size f cdv)).guards = some [] := hgd0
  refine ⟨_, (dss_cons (ds_setLcV (i := 2) (u := xD (dOfM _)) (hyl := rfl) (hy := rfl) (hsw := sw_true rfl rfl rfl (by decide +kernel)) (hu := lc_dat) (own := [("text", 3)]) (hc := rfl) (hN := sc__sizes_in.nd) (hi := (di_seqV (we_ofM (me_split (we_var 0) we_str)))) (ok := (blkOk_by (N := N__sizes_in) (sc := defScope s__sizes_in) (by decide +kernel))) (hk := gok_name) (hg := fun _ _ _ _ _ => (pg_name (i := 3) sc__sizes_in.nd rfl (Or.inl rfl))) (ht := fun _ _ _ _ _ => wts_nil) (he := fun _ _ _ _ _ => (we_has H_number_in hgd (hr.mono (by decide)) (by rfl) (wa_cons (we_var 3) (wa_cons (we_callB call_len_str ck_lenS (by rfl) B.len PySem.boot_len (wa_cons (we_callTy call_str_int cr_str (by rfl) B.str PyProof.Rows.boot_str (wa_cons (we_gint (by rfl) B.MAX_SIZE.choose_spec) wa_nil)) wa_nil)) wa_nil)))) (hv := by decide)) (dss_cons (ds_if (wt_w (ww_or (wt_cmp op_gt bi_B0 (we_callB call_len_seq ck_len (by rfl) B.len PySem.boot_len (wa_cons (we_var 2) wa_nil)) (we_var 1) (nomark _)) (ww_or1 (wt_not (wt_val (we_callB (cr_all rfl) ck_all (by rfl) B.all PyProof.Rows.boot_all (wa_cons (we_ofM (me_compV (own := [("size", 4)]) rfl sc__sizes_in.nd (di_seqV (we_var 2)) (blkOk_by (N := N__sizes_in) (sc := defScope s__sizes_in) (by decide +kernel)) gok_name (fun _ _ _ _ _ => (pg_name (i := 4) sc__sizes_in.nd rfl (Or.inl rfl))) (fun _ _ _ _ _ => wts_nil) (fun _ _ _ _ _ => (we_has H_is_size hgd (hr.mono (by decide)) (by rfl) (wa_cons (we_var 4) wa_nil))) (by decide))) wa_nil))))))) (dss_one (ds_ret we_non)) dss_nil) (dss_one (ds_ret (we_callTy call_tuple_of ck_tuple (by rfl) B.tuple PyProof.Rows.boot_tuple (wa_cons (we_var 2) wa_nil)))))), fun as n R hl hc => ?_⟩
  obtain ⟨w, k, rfl, hw, hk, hR⟩ := hc
  have hwt := wt_split (s := w) (y := ",") (by decide +kernel)
  have hwl := wt_len (Txt.split w ",")
  have hl7 : (toString (1000000 : Int) : Str).length = 7 := by decide +kernel
  have hlt : (Txt.split w ",").length < sizeLine := Nat.lt_of_le_of_lt (Nat.le_trans hwl (Nat.le_trans hwt (Nat.add_le_add_right hw 1))) (by decide)
  refine ⟨_, rfl, w, rfl, ",", rfl, by decide +kernel, Nat.le_trans (Nat.add_le_add_right hw 2) (by decide), _, rfl, compR_m (Txt.split w ",") .str (fun t => numOD t 7) hlt (fun t ht acc KK ha hK => ?_) ?_⟩
  · have := wt_mem ht
    refine ⟨_, rfl, 1000000, rfl, by decide, (toString (1000000 : Int) : Str), rfl, by rw [hl7]; decide, rfl, t, 7, ?_, by omega, by decide, ha, hK⟩
    rw [hl7]
  refine ⟨_, rfl, _, _, rfl, rfl, _, rfl, _, rfl, ?_⟩
  have hall : ((Txt.split w ",").map fun t => szD (numOD t 7)).all id = (Txt.split w ",").all fun t => (szO t).isSome := by
    rw [List.all_map]
    congr 1
    funext t
    exact szD_num t
  unfold szsD szsO at hR
  rw [List.length_map]
  by_cases h1 : (Txt.split w ",").length ≤ k
  · refine iteDF (by omega) ?_
    refine ⟨_, rfl, _, rfl, compR_m (Txt.split w ",") (fun t => numOD t 7) (fun t => .bool (szD (numOD t 7))) hlt (fun t ht acc KK ha hK => ⟨_, rfl, rfl, _, rfl, ?_, ha, hK⟩) ?_⟩
    · unfold numOD; split <;> rfl
    refine ⟨_, (Txt.split w ",").map fun t => szD (numOD t 7), rfl, by rw [List.map_map]; rfl, ?_⟩
    rw [hall]
    refine ⟨_, rfl, ?_⟩
    cases ha : ((Txt.split w ",").all fun t => (szO t).isSome) with
    | false =>
      refine iteT ?_
      show R .none n
      rw [if_neg fun q => by rw [ha] at q; exact absurd q.2 Bool.false_ne_true] at hR
      exact hR
    | true =>
      refine iteF ⟨_, rfl, _, _, rfl, rfl, ?_⟩
      rw [if_pos ⟨h1, ha⟩] at hR
      have e : (Txt.split w ",").map (fun t => numOD t 7) = ((Txt.split w ",").map szV).map .int := by
        rw [List.map_map]
        exact List.map_congr_left fun t ht => numOD_val (List.all_eq_true.mp ha t ht)
      rw [e]
      exact hR
  · refine iteD (by omega) ?_
    show R .none n
    rw [if_neg fun q => h1 q.1] at hR
    exact hR
abbrev s__part_in : Stmt := topS 52
abbrev N__part_in : List Str := ["word", "index"]
theorem sc__part_in : FnScope N__part_in ["word", "index"] (defScope s__part_in) := ⟨rfl, rfl, rfl, by decide +kernel, rfl, by decide +kernel, by decide +kernel⟩
theorem fn__part_in {f : Addr} {fd : FuncData} (F : Fun K "_part_in" "_part_in" s__part_in f fd) (B : Bn K mg C) (H__sizes_in : Has P w K mg base "_sizes_in" 4 ["word", "most"] c__sizes_in) : FnG P w K mg base 5 f fd ["word", "index"] (spD K 2 c__part_in) := by
  refine fnd (k := 4) c__part_in F sc__part_in fun cdv A outer s H hgd0 hr Y => ?_
  have hu := hr.units
  have hu1 : (A.deeper (envOfC "_part_in" (defScope s__part_in) s.heap.objs.size f cdv)).units + 65 < cLine := by have := hr.un; omega
  have hu0 : (A.deeper (envOfC "_part_in" (defScope s__part_in) s.heap.objs.size f cdv)).units + 1 < cLine := by have := hr.un; omega
  have hgd : (A.deeper (envOfC "_part_in" (defScope s__part_in) s.heap.objs.size f cdv)).guards = some [] := hgd0
  refine ⟨_, (dss_cons (ds_if (wt_cmp (or_eqA hu) bi_eqA (we_var 1) we_int (nomark _)) (dss_one (ds_ret (we_has H__sizes_in hgd (hr.mono (by decide)) (by rfl) (wa_cons (we_var 0) (wa_cons (we_gint (by rfl) B.MAX_GUESTS.choose_spec) wa_nil))))) dss_nil) (dss_cons (ds_if (wt_w (ww_and (wt_cmp (or_eqA hu) bi_eqA (we_var 1) we_int (nomark _)) (ww_and1 (wt_cmp (or_eqA hu) bi_eqA (we_var 0) (we_gstr (by rfl) B.SLASH.choose_spec) (nomark _))))) (dss_one (ds_ret (we_var 0))) dss_nil) (dss_cons (ds_if (wt_w (ww_and (wt_cmp (or_eqA hu) bi_eqA (we_var 1) we_int (nomark _)) (ww_and1 (wt_cmp (or_eqA hu) bi_eqA (we_var 0) (we_gstr (by rfl) B.NO_PAIRS.choose_spec) (nomark _))))) (dss_one (ds_ret (we_tup wa_nil))) dss_nil) (dss_cons (ds_if (wt_cmp (or_eqA hu) bi_eqA (we_var 1) we_int (nomark _)) (dss_one (ds_ret (we_has H__sizes_in hgd (hr.mono (by decide)) (by rfl) (wa_cons (we_var 0) (wa_cons (we_gint (by rfl) B.MAX_PAIRS.choose_spec) wa_nil))))) dss_nil) (dss_one (ds_ret we_non)))))), fun as n R hl hc => ?_⟩
  obtain ⟨w, i, rfl, hw, hR⟩ := hc
  unfold partD at hR
  refine ⟨_, rfl, rfl, rfl, sh_int _, sh_int _, _, rfl, ?_⟩
  by_cases h0 : i = 0
  · subst h0
    rw [if_pos rfl] at hR
    exact ifT rfl ⟨_, rfl, rfl, w, 20, rfl, hw, by decide, hR⟩
  rw [if_neg h0] at hR
  refine iteDF (c := ((i : Nat) : Int) = 0) (by omega) ?_
  refine ⟨_, rfl, rfl, rfl, sh_int _, sh_int _, _, rfl, ?_⟩
  by_cases h1 : i = 1
  · subst h1
    rw [if_pos rfl] at hR
    refine ifT rfl ⟨_, rfl, _, rfl, ?_⟩
    by_cases hs : w = "/"
    · rw [if_pos hs] at hR
      exact iteD hs ⟨_, rfl, hR⟩
    · rw [if_neg hs] at hR
      refine iteDF hs ?_
      refine ⟨_, rfl, rfl, rfl, sh_int _, sh_int _, _, rfl, ifF rfl (iteF ?_)⟩
      refine ⟨_, rfl, rfl, rfl, sh_int _, sh_int _, _, rfl, ifF rfl hR⟩
  rw [if_neg h1] at hR
  refine iteDF (c := ((i : Nat) : Int) = 1) (by omega) (iteF ?_)
  refine ⟨_, rfl, rfl, rfl, sh_int _, sh_int _, _, rfl, ?_⟩
  by_cases h2 : i = 2
  · subst h2
    rw [if_pos rfl] at hR
    refine ifT rfl ⟨_, rfl, _, rfl, ?_⟩
    by_cases hs : w = "-"
    · rw [if_pos hs] at hR
      exact iteD hs ⟨Nat.zero_le _, hR⟩
    · rw [if_neg hs] at hR
      refine iteDF hs ?_
      refine ⟨_, rfl, rfl, rfl, sh_int _, sh_int _, _, rfl, ifT rfl ⟨_, rfl, rfl, w, 20, rfl, hw, by decide, hR⟩⟩
  rw [if_neg h2] at hR
  refine iteDF (c := ((i : Nat) : Int) = 2) (by omega) (iteF ?_)
  refine ⟨_, rfl, rfl, rfl, sh_int _, sh_int _, _, rfl, iteDF (c := ((i : Nat) : Int) = 2) (by omega) hR⟩
abbrev s_parse_hall : Stmt := topS 53
abbrev N_parse_hall : List Str := ["value", "parts", "index", "word", "part", "feet", "_", "pairs"]
theorem sc_parse_hall : FnScope N_parse_hall ["value"] (defScope s_parse_hall) := ⟨rfl, rfl, rfl, by decide +kernel, rfl, by decide +kernel, by decide +kernel⟩
theorem fn_parse_hall {f : Addr} {fd : FuncData} (F : Fun K "parse_hall" "parse_hall" s_parse_hall f fd) (B : Bn K mg C) (H__part_in : Has P w K mg base "_part_in" 5 ["word", "index"] c__part_in) (H_BadText : ErrC P w K mg base "BadText" C.BadText "index") : FnGX P w K mg base 6 f fd ["value"] (spDX K 1 (c_parse_hall C)) := by
  refine fndX (k := 5) (c_parse_hall C) F sc_parse_hall fun cdv A outer s H Eh hgd0 hr Y E ok tk => ?_
  have hu := hr.units
  have hu1 : (A.deeper (envOfC "parse_hall" (defScope s_parse_hall) s.heap.objs.size f cdv)).units + 65 < cLine := by have := hr.un; omega
  have hu0 : (A.deeper (envOfC "parse_hall" (defScope s_parse_hall) s.heap.objs.size f cdv)).units + 1 < cLine := by have := hr.un; omega
  have hgd : (A.deeper (envOfC "parse_hall" (defScope s_parse_hall) s.heap.objs.size f cdv)).guards = some [] := hgd0
  refine ⟨_, (dss_cons (ds_if (wt_not (wt_val (we_isi (.inr (.inr (.inl rfl))) (by rfl) B.isinstance (we_var 0) (by rfl) B.str PyProof.Rows.boot_str))) (dss_one (ds_raise rfl tk ok H_BadText (hr.mono (by decide)) (by rfl) we_non)) dss_nil) (dss_cons (ds_set (i := 1) sc_parse_hall.nd rfl (Or.inl rfl) (xe_m (me_lst wa_nil))) (dss_cons (ds_for (passes_of rfl) rfl (di_enumA (by rfl) B.enumerate (wa_cons (we_ofM (me_split (we_var 0) we_str)) wa_nil)) ⟨(pg_tup rfl (pgs_cons (pg_name (i := 2) sc_parse_hall.nd rfl (Or.inl rfl)) (pgs_cons (pg_name (i := 3) sc_parse_hall.nd rfl (Or.inl rfl)) pgs_nil))), gok_two⟩ (dss_cons (ds_set (i := 4) sc_parse_hall.nd rfl (Or.inl rfl) (xe_d (we_has H__part_in hgd (hr.mono (by decide)) (by rfl) (wa_cons (we_var 3) (wa_cons (we_var 2) wa_nil))))) (dss_cons (ds_if (wt_cmp op_isN bi_isN (we_var 4) we_non (nomark _)) (dss_one (ds_raise rfl tk ok H_BadText (hr.mono (by decide)) (by rfl) (we_var 2))) dss_nil) (dss_one (ds_append (pv 1) (we_var 4)))))) (dss_cons (ds_if (wt_cmp op_lt bi_B0 (we_callB call_len_seq ck_len (by rfl) B.len PySem.boot_len (wa_cons (we_var 1) wa_nil)) (we_gint (by rfl) B.WORDS.choose_spec) (nomark _)) (dss_one (ds_raise rfl tk ok H_BadText (hr.mono (by decide)) (by rfl) (we_callB call_len_seq ck_len (by rfl) B.len PySem.boot_len (wa_cons (we_var 1) wa_nil)))) dss_nil) (dss_thaw (i := 1) (dss_cons (ds_asgG (we_var 1) ⟨(pg_unl rfl (pgs_cons (pg_name (i := 5) sc_parse_hall.nd rfl (Or.inl rfl)) (pgs_cons (pg_name (i := 6) sc_parse_hall.nd rfl (Or.inl rfl)) (pgs_cons (pg_name (i := 7) sc_parse_hall.nd rfl (Or.inl rfl)) pgs_nil)))), gok_threeL⟩) (dss_one (ds_ret (we_tup (wa_cons (we_var 5) (wa_cons (we_var 7) wa_nil))))))))))), fun as n R hl hc => ?_⟩
  obtain ⟨d, rfl, hnr, hl, hE, hS⟩ := hc
  rcases Classical.em (∃ s, d = .str s) with ⟨s, rfl⟩ | hd
  · obtain ⟨h1, h2⟩ := hS s rfl
    have hl := hl s rfl
    have hwt := wt_split (s := s) (y := " ") (by decide +kernel)
    have hwl := wt_len (Txt.split s " ")
    have hlt : (Txt.split s " ").length < 50000 := by omega
    refine ⟨_, rfl, rfl, _, rfl, ifNF' (isi_ss _) ?_⟩
    refine ⟨Nat.zero_le _, ?_⟩
    refine ⟨_, rfl, s, rfl, " ", rfl, by decide +kernel, Nat.le_trans (Nat.add_le_add_right hl 2) (by decide), _, _, rfl, rfl, ?_⟩
    rw [enumD_strs]
    refine forR_inv (fun k ρ n' => n' = n ∧ (∀ d ∈ (partsD (Txt.split s " ")).take k, isN d = false) ∧ ∃ a2 a3 a4 a5 a6 a7, ρ = [some (.dat (.str s)), some (.mt ((partsD (Txt.split s " ")).take k)), a2, a3, a4, a5, a6, a7])
      ⟨rfl, fun _ h => (nomatch h), none, none, none, none, none, none, rfl⟩ ?_ ?_
    · rintro k x ρ n' hx ⟨rfl, hno, a2, a3, a4, a5, a6, a7, rfl⟩
      rw [List.getElem?_map, List.getElem?_zipIdx] at hx
      obtain ⟨p, hp, rfl⟩ := Option.map_eq_some_iff.mp hx
      obtain ⟨w, hw, rfl⟩ := Option.map_eq_some_iff.mp hp
      rw [Nat.zero_add]
      have hpk := partsD_get hw
      have hwm := wt_mem (List.mem_of_getElem? hw)
      have hk : k < (Txt.split s " ").length := (List.getElem?_eq_some_iff.mp hw).1
      refine ⟨_, _, rfl, ?_⟩
      refine ⟨_, rfl, _, rfl, rfl, w, k, rfl, by omega, ?_⟩
      refine ⟨_, rfl, rfl, rfl, _, rfl, ?_⟩
      cases hn : isN (partD k w) with
      | true => exact ifT hn ⟨_, rfl, h1 k (by unfold parseR; rw [firstN_eq hpk hn hno, Nat.zero_add])⟩
      | false =>
        refine ifF hn ⟨_, rfl, Dv.dat (partD k w), rfl, ?_, rfl, fun d hd => ?_, _, _, _, _, _, _, by rw [List.take_add_one, hpk]; rfl⟩
        · rw [List.length_take, partsD_length]
          exact Nat.lt_of_le_of_lt (Nat.min_le_left _ _) (Nat.lt_trans (Nat.lt_trans hk hlt) (by decide))
        · rw [List.take_add_one, hpk] at hd
          rcases List.mem_append.mp hd with q | q
          · exact hno d q
          · rw [List.mem_singleton.mp q]; exact hn
    · rintro ρ n' ⟨rfl, hno, a2, a3, a4, a5, a6, a7, rfl⟩
      have e0 : ((Txt.split s " ").zipIdx.map fun p => PyData.tuple [.int (p.2 : Nat), .str p.1]).length = (partsD (Txt.split s " ")).length := by rw [List.length_map, List.length_zipIdx, partsD_length]
      rw [e0, List.take_length] at hno ⊢
      have hf := firstN_all (i := 0) hno
      have hpl := partsD_length (Txt.split s " ")
      refine ⟨_, rfl, _, _, rfl, rfl, _, rfl, ?_⟩
      by_cases h3 : (partsD (Txt.split s " ")).length < 3
      · refine iteD (by omega) ⟨_, rfl, _, _, rfl, rfl, h1 _ ?_⟩
        unfold parseR
        rw [hf, hpl]
        exact if_neg (by omega)
      · refine iteDF (by omega) ⟨_, rfl, ?_⟩
        have h3' : (partsD (Txt.split s " ")).length = 3 := by
          by_cases h4 : 3 < (partsD (Txt.split s " ")).length
          · exfalso
            obtain ⟨w, hw⟩ : ∃ w, (Txt.split s " ")[3]? = some w := ⟨_, List.getElem?_eq_getElem (by omega)⟩
            have := hno _ (List.mem_of_getElem? (partsD_get hw))
            have e3 : partD 3 w = .none := rfl
            rw [e3] at this
            cases this
          · omega
        have h2 := h2 (twoD (partsD (Txt.split s " "))) (by
          unfold parseR
          rw [hf]
          exact if_pos (by omega))
        generalize partsD (Txt.split s " ") = ds at *
        match ds, h3', h2 with
        | [a, b, c], _, h2 => exact ⟨_, rfl, a, b, c, rfl, _, rfl, _, rfl, by show 2 ≤ sizeLine; decide, h2⟩
  · have hd : ∀ s, d ≠ .str s := fun s e => hd ⟨s, e⟩
    have hE := hE hd
    refine ⟨_, rfl, isDR_dat hnr, _, rfl, ifN' (isi_ns hd) ?_⟩
    exact hE
abbrev s_Party_read : Stmt := inCls (topS 56) 21
abbrev N_Party_read : List Str := ["cls", "text"]
theorem sc_Party_read : FnScope N_Party_read ["cls", "text"] (defScope s_Party_read) := ⟨rfl, rfl, rfl, by decide +kernel, rfl, by decide +kernel, by decide +kernel⟩
theorem fn_Party_read {f : Addr} {fd : FuncData} (F : Fun K "read" "Party.read" s_Party_read f fd) (B : Bn K mg C) (H_Party___init__ : HasC P w K mg base "Party" C.Party 6 ["self", "hall"] (c_Party___init__ C)) (H_parse_hall : HasX P w K mg base "parse_hall" 6 ["value"] (c_parse_hall C)) : FnGX P w K mg base 8 f fd ["cls", "text"] (spDX K 2 (c_Party_read C)) := by
  refine fndX (k := 7) (c_Party_read C) F sc_Party_read fun cdv A outer s H Eh hgd0 hr Y E ok tk => ?_
  have hu := hr.units
  have hu1 : (A.deeper (envOfC "Party.read" (defScope s_Party_read) s.heap.objs.size f cdv)).units + 65 < cLine := by have := hr.un; omega
  have hu0 : (A.deeper (envOfC "Party.read" (defScope s_Party_read) s.heap.objs.size f cdv)).units + 1 < cLine := by have := hr.un; omega
  have hgd : (A.deeper (envOfC "Party.read" (defScope s_Party_read) s.heap.objs.size f cdv)).guards = some [] := hgd0
  refine ⟨_, (dss_one (ds_ret (we_makeL (i := 0) tk ok H_Party___init__ hgd (hr.mono (by decide)) rfl (Or.inl rfl) (wa_cons (we_hasX tk ok H_parse_hall hgd (hr.mono (by decide)) (by rfl) (wa_cons (we_var 1) wa_nil)) wa_nil)))), fun as n R hl hc => ?_⟩
  obtain ⟨d, rfl, hnr, hl, hE, hS⟩ := hc
  refine ⟨rfl, _, rfl, rfl, d, rfl, hnr, hl, hE, fun s e => ⟨(hS s e).1, fun p hp => ?_⟩⟩
  obtain ⟨F, P, rfl, hh, f20, p20, et⟩ := parse_acc hp
  refine fun x hx => ⟨x, C.Party, (F, P), rfl, ⟨hh, f20, p20⟩, Wo.put_at, .inl rfl, fun m f hm hf => ⟨rfl, ?_⟩⟩
  rw [Wo.put_put]
  exact (hS s e).2 (F, P) hp ⟨hh, f20, p20⟩ et x m f hx hm hf
abbrev s__law_read : Stmt := topS 70
abbrev N__law_read : List Str := ["value", "e"]
theorem sc__law_read : FnScope N__law_read ["value"] (defScope s__law_read) := ⟨rfl, rfl, rfl, by decide +kernel, rfl, by decide +kernel, by decide +kernel⟩
theorem fn__law_read {f : Addr} {fd : FuncData} (F : Fun K "_law_read" "_law_read" s__law_read f fd) (B : Bn K mg C) (HKM_Party_read : HasKM P w K mg base "Party" C.Party "read" 8 ["cls", "text"] (c_Party_read C)) : FnG P w K mg base 9 f fd ["value"] (spD K 1 (c__law_read C)) := by
  refine fnd (k := 8) (c__law_read C) F sc__law_read fun cdv A outer s H hgd0 hr Y => ?_
  have hu := hr.units
  have hu1 : (A.deeper (envOfC "_law_read" (defScope s__law_read) s.heap.objs.size f cdv)).units + 65 < cLine := by have := hr.un; omega
  have hu0 : (A.deeper (envOfC "_law_read" (defScope s__law_read) s.heap.objs.size f cdv)).units + 1 < cLine := by have := hr.un; omega
  have hgd : (A.deeper (envOfC "_law_read" (defScope s__law_read) s.heap.objs.size f cdv)).guards = some [] := hgd0
  refine ⟨_, (dss_cons (ds_try_as (i := 1) takes0 wok0 rfl rfl sc__law_read.nd rfl rfl (names_own (by rfl) B.g_PartyError) (fun Y1 W1 pn xe dw1 tk1 ok1 => (dss_one (ds_ret (we_km (pl := _) tk1 ok1 HKM_Party_read hgd (hr.mono (by decide)) (by rfl) (wa_cons (we_var 0) wa_nil))))) (fun a oe cls d pn hz hf => (dss_one (ds_if (wt_w (ww_and (wt_val (we_isX hz hf (by rfl) B.isinstance (we_var 1) (pe_glob (v := .ref C.BadText) (by rfl) B.g_BadText rfl) (.own _))) (ww_and (wt_val (we_isX hz hf (by rfl) B.isinstance (we_var 1) (pe_bltn (v := .ty "ValueError") (by rfl) B.ValueError (by decide +kernel) rfl) (.ty _))) (ww_and1 (wt_not (wt_val (we_isXT hz hf (by rfl) B.isinstance (we_var 1) (pa_k (pe_glob (v := .ref C.BadHall) (by rfl) B.g_BadHall rfl) (pa_k (pe_glob (v := .ref C.BadShelf) (by rfl) B.g_BadShelf rfl) (pa_k (pe_glob (v := .ref C.TooLarge) (by rfl) B.g_TooLarge rfl) pa_k0))) (.cons (.own _) (.cons (.own _) (.cons (.own _) .nil))) (show 3 ≤ sizeLine by decide)))))))) (dss_one (ds_ret (we_ofM (me_lst (wa_cons we_str (wa_cons (we_xf hz hf (we_var 1)) wa_nil)))))) dss_nil)))) (dss_one (ds_ret (we_ofM (me_lst (wa_cons we_str wa_nil)))))), fun as n R hl hc => ?_⟩
  obtain ⟨d, rfl, hnr, hl, hN, hS⟩ := hc
  refine ⟨_, rfl, rfl, d, rfl, hnr, hl, fun hd => ?_, fun s e => ⟨fun j hj => ?_, fun h hp hk et x m f hx hm hf => (hS s e).2 h hp hk et x m f hx hm hf⟩⟩
  · refine ⟨true, B.m_BadText_PartyError, fun _ a dd => ?_, fun q => Bool.noConfusion q⟩
    refine ⟨_, rfl, rfl, C.BadText, _, true, rfl, caught_at, B.is_BadText, B.k_BadText_BadText, _, rfl, iteT (B := False) ?_⟩
    refine ⟨_, rfl, rfl, C.BadText, _, true, rfl, caught_at, B.is_BadText, B.k_BadText_ValueError, _, rfl, iteT (B := False) ?_⟩
    refine ⟨_, rfl, rfl, C.BadText, _, false, rfl, caught_at, B.is_BadText, kitAny_no fun c hc => ?_, ?_⟩
    · simp only [List.mem_cons, List.not_mem_nil, or_false] at hc
      rcases hc with rfl | rfl | rfl
      · exact B.k_BadText_BadHall
      · exact B.k_BadText_BadShelf
      · exact B.k_BadText_TooLarge
    refine ⟨_, rfl, iteT (B := False) ?_⟩
    refine ⟨_, rfl, rfl, C.BadText, _, _, rfl, caught_at, B.xf_BadText, rfl, by show 2 ≤ sizeLine; decide, ?_⟩
    exact hN hd _ rfl
  · refine ⟨true, B.m_BadText_PartyError, fun _ a dd => ?_, fun q => Bool.noConfusion q⟩
    refine ⟨_, rfl, rfl, C.BadText, _, true, rfl, caught_at, B.is_BadText, B.k_BadText_BadText, _, rfl, iteT (B := False) ?_⟩
    refine ⟨_, rfl, rfl, C.BadText, _, true, rfl, caught_at, B.is_BadText, B.k_BadText_ValueError, _, rfl, iteT (B := False) ?_⟩
    refine ⟨_, rfl, rfl, C.BadText, _, false, rfl, caught_at, B.is_BadText, kitAny_no fun c hc => ?_, ?_⟩
    · simp only [List.mem_cons, List.not_mem_nil, or_false] at hc
      rcases hc with rfl | rfl | rfl
      · exact B.k_BadText_BadHall
      · exact B.k_BadText_BadShelf
      · exact B.k_BadText_TooLarge
    refine ⟨_, rfl, iteT (B := False) ?_⟩
    refine ⟨_, rfl, rfl, C.BadText, _, _, rfl, caught_at, B.xf_BadText, rfl, by show 2 ≤ sizeLine; decide, ?_⟩
    exact (hS s e).1 j hj _ rfl
abbrev s__law_ends : Stmt := topS 63
abbrev N__law_ends : List Str := ["hall", "feet", "pairs", "small", "great", "fewest", "sums", "size", "place", "foot", "pair"]
theorem sc__law_ends : FnScope N__law_ends ["hall"] (defScope s__law_ends) := ⟨rfl, rfl, rfl, by decide +kernel, rfl, by decide +kernel, by decide +kernel⟩
theorem fn__law_ends {f : Addr} {fd : FuncData} (F : Fun K "_law_ends" "_law_ends" s__law_ends f fd) (B : Bn K mg C) : FnG P w K mg base 1 f fd ["hall"] (spD K 1 c__law_ends) := by
  refine fnd (k := 0) c__law_ends F sc__law_ends fun cdv A outer s H hgd0 hr Y => ?_
  have hu := hr.units
  have hu1 : (A.deeper (envOfC "_law_ends" (defScope s__law_ends) s.heap.objs.size f cdv)).units + 65 < cLine := by have := hr.un; omega
  have hu0 : (A.deeper (envOfC "_law_ends" (defScope s__law_ends) s.heap.objs.size f cdv)).units + 1 < cLine := by have := hr.un; omega
  have hgd : (A.deeper (envOfC "_law_ends" (defScope s__law_ends) s.heap.objs.size f cdv)).guards = some [] := hgd0
  refine ⟨_, (dss_cons (ds_asgG (we_var 0) ⟨(pg_tup rfl (pgs_cons (pg_name (i := 1) sc__law_ends.nd rfl (Or.inl rfl)) (pgs_cons (pg_name (i := 2) sc__law_ends.nd rfl (Or.inl rfl)) pgs_nil))), gok_two⟩) (dss_cons (ds_par (i := 3) (j := 4) rfl sc__law_ends.nd rfl rfl (by decide) rfl rfl (xe_d (we_ofM (me_callB cr_sortIT ck_sortIT (by rfl) B.sorted PyProof.Rows.boot_sorted (wa_cons (we_var 1) wa_nil)))) (xe_d (we_revL (we_ofM (me_callB cr_sortIT ck_sortIT (by rfl) B.sorted PyProof.Rows.boot_sorted (wa_cons (we_var 2) wa_nil))))) (by rfl)) (dss_cons (ds_set (i := 5) sc__law_ends.nd rfl (Or.inl rfl) (xe_d (we_callB call_len_seq ck_len (by rfl) B.len PySem.boot_len (wa_cons (we_ofM (me_compV (own := [("foot", 9), ("pair", 10)]) rfl sc__law_ends.nd (div_of (di_zip (by rfl) B.zip (wa_cons (we_var 3) (wa_cons (we_var 4) wa_nil)))) (blkOk_by (N := N__law_ends) (sc := defScope s__law_ends) (by decide +kernel)) gok_two (fun _ _ _ _ _ => (pg_tup rfl (pgs_cons (pg_name (i := 9) sc__law_ends.nd rfl (Or.inl rfl)) (pgs_cons (pg_name (i := 10) sc__law_ends.nd rfl (Or.inl rfl)) pgs_nil)))) (fun _ _ _ _ _ => (wts_one (wt_cmp op_ge bi_B0 (we_var 10) (we_var 9) (nomark _)))) (fun _ _ _ _ _ => we_int) (by decide))) wa_nil)))) (dss_cons (ds_set (i := 6) sc__law_ends.nd rfl (Or.inl rfl) (xe_m (me_lst (wa_cons (we_callB call_len_seq ck_len (by rfl) B.len PySem.boot_len (wa_cons (we_var 1) wa_nil)) wa_nil)))) (dss_cons (ds_for PassesOwn.never rfl (di_seq (we_bin or_addA bi_add (we_var 1) (we_var 2))) ⟨(pg_name (i := 7) sc__law_ends.nd rfl (Or.inl rfl)), gok_name⟩ (dss_one (ds_for PassesOwn.never rfl (di_seq (we_tup (wa_cons (we_var 7) (wa_cons (we_bin or_addA bi_add (we_var 7) we_int) wa_nil)))) ⟨(pg_name (i := 8) sc__law_ends.nd rfl (Or.inr rfl)), gok_name⟩ (dss_one (ds_append (pv 6) (we_bin or_addA bi_add (we_callB call_len_seq ck_len (by rfl) B.len PySem.boot_len (wa_cons (we_ofM (me_compV (own := [("foot", 9)]) rfl sc__law_ends.nd (di_seqV (we_var 1)) (blkOk_by (N := N__law_ends) (sc := defScope s__law_ends) (by decide +kernel)) gok_name (fun _ _ _ _ _ => (pg_name (i := 9) sc__law_ends.nd rfl (Or.inl rfl))) (fun _ _ _ _ _ => (wts_one (wt_cmp op_lt bi_B0 (we_var 9) (we_var 8) (nomark _)))) (fun _ _ _ _ _ => we_int) (by decide))) wa_nil)) (we_callB call_len_seq ck_len (by rfl) B.len PySem.boot_len (wa_cons (we_ofM (me_compV (own := [("pair", 10)]) rfl sc__law_ends.nd (di_seqV (we_var 2)) (blkOk_by (N := N__law_ends) (sc := defScope s__law_ends) (by decide +kernel)) gok_name (fun _ _ _ _ _ => (pg_name (i := 10) sc__law_ends.nd rfl (Or.inl rfl))) (fun _ _ _ _ _ => (wts_one (wt_cmp op_ge bi_B0 (we_var 10) (we_var 8) (nomark _)))) (fun _ _ _ _ _ => we_int) (by decide))) wa_nil)))))))) (dss_one (ds_ret (we_ofM (me_lst (wa_cons (we_var 5) (wa_cons (we_callB (call_minA rfl) ck_min (by rfl) B.min PyProof.Rows.boot_min (wa_cons (we_var 6) wa_nil)) wa_nil))))))))))), fun as n R hl hc => ?_⟩
  obtain ⟨⟨feet, pairs⟩, rfl, hk, hR⟩ := hc
  have ok := hk.ok
  have hf40 : feet.length ≤ 40 := ok.f2
  have hp40 : pairs.length ≤ 40 := ok.p2
  refine ⟨_, rfl, _, _, rfl, ?_⟩
  refine ⟨_, rfl, _, feet, rfl, rfl, fun G hG hGs => ⟨_, rfl, _, pairs, rfl, rfl, fun Q hQ hQs => ⟨_, rfl, ?_⟩⟩⟩
  have hl : (G.zip Q.reverse).length ≤ 40 := by rw [List.length_zip, hG.length_eq]; omega
  refine ⟨_, rfl, _, rfl, _, _, rfl, ?_⟩
  rw [← List.map_reverse, zip_enc]
  refine compR_p (G.zip Q.reverse) _ (fun q => decide (q.1 ≤ q.2)) (fun _ => .int 1) (line1000 (by omega)) (fun x hx acc KK hK => ⟨_, _, rfl, _, rfl, _, rfl, _, rfl, hK⟩) ?_
  refine ⟨_, _, rfl, rfl, ?_⟩
  have e1 : (((G.zip Q.reverse).filter fun q => decide (q.1 ≤ q.2)).map fun _ => PyData.int 1).length = cz G Q.reverse := by
    rw [List.length_map, ← cz_count, List.count_eq_length_filter, List.filter_map, List.length_map]
    congr 1
    exact List.filter_congr fun q _ => by simp
  have hfew := (few_of_cz (top := 1000001) hG ((List.reverse_perm Q).trans hQ) hGs (rev_desc hQs) fun x hx => by have := ok.pi x hx; omega).1
  rw [e1]
  refine ⟨_, rfl, _, _, rfl, rfl, by show 1 ≤ sizeLine; decide, ?_⟩
  refine ⟨_, rfl, _, rfl, line1000 (by rw [List.length_map, List.length_map]; show feet.length + pairs.length ≤ 1000; omega), _, rfl, ?_⟩
  rw [← List.map_append]
  refine forR_inv (fun k ρ n' => n' = n ∧ ∃ sums : List Int, SumsOk feet pairs ((feet ++ pairs).take k) sums (1 + 2 * k) ∧ ∃ a7 a8 a9 a10, ρ = [some (.dat (halD (feet, pairs))), some (.dat (sizesD feet)), some (.dat (sizesD pairs)), some (.dat (.list (G.map .int))), some (.dat (.list (Q.reverse.map .int))), some (.dat (.int (cz G Q.reverse : Nat))), some (.mt (sums.map .int)), a7, a8, a9, a10])
    ⟨rfl, [(feet.length : Int)], .start ok.fi ok.pi, none, none, none, none, by rw [List.map_cons, List.map_nil]; rw [show ((feet.map PyData.int).length) = feet.length from List.length_map ..]; rfl⟩ ?_ ?_
  · rintro k x ρ n' hx ⟨rfl, sums, hs, a7, a8, a9, a10, rfl⟩
    obtain ⟨z, hz, rfl⟩ := map_get hx
    have hkl := (List.getElem?_eq_some_iff.mp hz).1
    rw [List.length_append] at hkl
    have hkl : k < feet.length + pairs.length := hkl
    refine ⟨_, rfl, _, rfl, by show 2 ≤ sizeLine; decide, _, rfl, ?_⟩
    refine forR_inv (fun k2 ρ n2 => n2 = n' ∧ ∃ sums : List Int, SumsOk feet pairs ((feet ++ pairs).take k) sums (1 + 2 * k + k2) ∧ (1 ≤ k2 → ((cF feet z : Int) + cP pairs z) ∈ sums) ∧ ∃ a8 a9 a10, ρ = [some (.dat (halD (feet, pairs))), some (.dat (sizesD feet)), some (.dat (sizesD pairs)), some (.dat (.list (G.map .int))), some (.dat (.list (Q.reverse.map .int))), some (.dat (.int (cz G Q.reverse : Nat))), some (.mt (sums.map .int)), some (.dat (.int z)), a8, a9, a10])
      ⟨rfl, sums, hs, fun h => absurd h (by decide), a8, a9, a10, rfl⟩ ?_ ?_
    · rintro k2 x ρ n2 hx2 ⟨rfl, sums, hs, hin, a8, a9, a10, rfl⟩
      obtain ⟨v, rfl, hv, hk2⟩ : ∃ v : Int, x = .int v ∧ (k2 = 0 → v = z) ∧ k2 < 2 := by
        rcases k2 with _ | _ | k2
        · exact ⟨z, (Option.some.inj hx2).symm, fun _ => rfl, by decide⟩
        · exact ⟨z + 1, (Option.some.inj hx2).symm, fun h => absurd h (by decide), by decide⟩
        · cases hx2
      refine ⟨_, rfl, _, rfl, _, rfl, compR_p feet .int (fun x => decide (x < v)) (fun _ => .int 1) (line1000 (by omega)) (fun x hx acc KK hK => ⟨_, rfl, _, rfl, _, rfl, hK⟩) ?_⟩
      refine ⟨_, _, rfl, rfl, _, rfl, _, rfl, compR_p pairs .int (fun x => decide (v ≤ x)) (fun _ => .int 1) (line1000 (by omega)) (fun x hx acc KK hK => ⟨_, rfl, _, rfl, _, rfl, hK⟩) ?_⟩
      refine ⟨_, _, rfl, rfl, ?_⟩
      have hsl := hs.len
      refine ⟨small1000 (by rw [List.length_map]; omega), rfl, sums ++ [(cF feet v : Int) + cP pairs v], hs.add v, fun _ => ?_, some (.dat (.int v)), a9, a10, ?_⟩
      · by_cases q : k2 = 0
        · rw [hv q]; exact List.mem_append_right _ (List.mem_singleton.mpr rfl)
        · exact List.mem_append_left _ (hin (by omega))
      · rw [List.map_append, List.length_map, List.length_map]
        rfl
    · rintro ρ n2 ⟨rfl, sums, hs, hin, a8, a9, a10, rfl⟩
      refine ⟨rfl, sums, ⟨hs.top, hs.all, fun s hs2 => ?_, by have := hs.len; show _ ≤ 1 + 2 * (k + 1); have e : ([PyData.int z, PyData.int (z + 1)] : List PyData).length = 2 := rfl; omega⟩, _, _, _, _, rfl⟩
      rw [List.take_add_one, hz] at hs2
      rcases List.mem_append.mp hs2 with q | q
      · exact hs.has s q
      · rw [show s = z by simpa using q]
        exact hin (by show 1 ≤ 2; decide)
  · rintro ρ n' ⟨rfl, sums, hs, a7, a8, a9, a10, rfl⟩
    rw [List.length_map, List.take_length] at hs
    refine ⟨_, rfl, _, rfl, sums, rfl, List.length_pos_of_mem hs.top, fun m hm hle => ?_⟩
    exact ⟨by show 2 ≤ sizeLine; decide, hR m _ (hs.most ok.fi ok.pi hm hle) hfew⟩
abbrev s_Party__hall_at : Stmt := inCls (topS 56) 16
abbrev N_Party__hall_at : List Str := ["self", "version"]
theorem sc_Party__hall_at : FnScope N_Party__hall_at ["self", "version"] (defScope s_Party__hall_at) := ⟨rfl, rfl, rfl, by decide +kernel, rfl, by decide +kernel, by decide +kernel⟩
theorem fn_Party__hall_at {f : Addr} {fd : FuncData} (F : Fun K "_hall_at" "Party._hall_at" s_Party__hall_at f fd) (B : Bn K mg C) (H_is_number_from : Has P w K mg base "is_number_from" 2 ["value", "low", "high"] c_is_number_from) (H_NoVersion : ErrL P w K mg base "NoVersion" C.NoVersion "value") : FnGX P w K mg base 3 f fd ["self", "version"] (spDX K 2 (c_Party__hall_at C)) := by
  refine fndX (k := 2) (c_Party__hall_at C) F sc_Party__hall_at fun cdv A outer s H Eh hgd0 hr Y E ok tk => ?_
  have hu := hr.units
  have hu1 : (A.deeper (envOfC "Party._hall_at" (defScope s_Party__hall_at) s.heap.objs.size f cdv)).units + 65 < cLine := by have := hr.un; omega
  have hu0 : (A.deeper (envOfC "Party._hall_at" (defScope s_Party__hall_at) s.heap.objs.size f cdv)).units + 1 < cLine := by have := hr.un; omega
  have hgd : (A.deeper (envOfC "Party._hall_at" (defScope s_Party__hall_at) s.heap.objs.size f cdv)).guards = some [] := hgd0
  refine ⟨_, (dss_cons (ds_if (wt_cmp op_isN bi_isN (we_var 1) we_non (nomark _)) (dss_one (ds_ret (we_fld (we_var 0)))) dss_nil) (dss_cons (ds_if (wt_not (wt_val (we_has H_is_number_from hgd (hr.mono (by decide)) (by rfl) (wa_cons (we_var 1) (wa_cons we_int (wa_cons (we_callB call_len_seq ck_len (by rfl) B.len PySem.boot_len (wa_cons (we_fld (we_var 0)) wa_nil)) wa_nil)))))) (dss_one (ds_raiseL rfl tk ok H_NoVersion (hr.mono (by decide)) (by rfl) (we_var 1))) dss_nil) (dss_one (ds_ret (we_ix (we_fld (we_var 0)) (we_var 1) (fun _ _ => rfl)))))), fun as n R hl hc => ?_⟩
  obtain ⟨a, D, o, p, d, rfl, hob, hK, hk, hnr, hN, hE, hI⟩ := hc
  refine ⟨_, rfl, rfl, rfl, _, rfl, ?_⟩
  show if isN d = true then _ else _
  by_cases hd : d = .none
  · subst hd
    exact iteT (B := False) ⟨_, rfl, a, _, _, rfl, hob, B.flk_hall hK.pc, rfl, hN rfl⟩
  · have e : isN d = false := by cases d <;> first | exact absurd rfl hd | rfl
    rw [e]
    refine iteF ⟨_, rfl, _, rfl, a, _, _, rfl, hob, B.flk__done hK.pc, rfl, _, _, rfl, rfl, rfl, d, 0, _, rfl, hnr, _, rfl, ?_⟩
    cases q : numIn d 0 p.done.length with
    | false => exact ifNF (b := false) rfl ⟨_, rfl, hE hd q⟩
    | true =>
      obtain ⟨z, rfl, z1, z2⟩ := numIn_true q
      obtain ⟨i, rfl⟩ := Int.eq_ofNat_of_zero_le z1
      have hl : i < p.hs.length := by have := hk.len; omega
      have ei := List.getElem?_eq_getElem hl
      exact ifN (b := true) rfl ⟨_, rfl, a, _, _, rfl, hob, B.flk__halls hK.pc, rfl, _, rfl, _, _, rfl, atI_nat (by rw [List.getElem?_map, ei]; rfl), hI i _ rfl ei⟩
abbrev s_Party_state : Stmt := inCls (topS 56) 17
abbrev N_Party_state : List Str := ["self", "version"]
theorem sc_Party_state : FnScope N_Party_state ["self", "version"] (defScope s_Party_state) := ⟨rfl, rfl, rfl, by decide +kernel, rfl, by decide +kernel, by decide +kernel⟩
theorem fn_Party_state {f : Addr} {fd : FuncData} (F : Fun K "state" "Party.state" s_Party_state f fd) (B : Bn K mg C) (HM__hall_at : HasM P w K mg base (fun D => D = C.Party ∨ D = C.PledgedParty) "_hall_at" 3 ["self", "version"] (fun _ => c_Party__hall_at C)) : FnGX P w K mg base 4 f fd ["self", "version"] (spDX K 2 (c_Party_state C)) := by
  refine fndX (k := 3) (c_Party_state C) F sc_Party_state fun cdv A outer s H Eh hgd0 hr Y E ok tk => ?_
  have hu := hr.units
  have hu1 : (A.deeper (envOfC "Party.state" (defScope s_Party_state) s.heap.objs.size f cdv)).units + 65 < cLine := by have := hr.un; omega
  have hu0 : (A.deeper (envOfC "Party.state" (defScope s_Party_state) s.heap.objs.size f cdv)).units + 1 < cLine := by have := hr.un; omega
  have hgd : (A.deeper (envOfC "Party.state" (defScope s_Party_state) s.heap.objs.size f cdv)).guards = some [] := hgd0
  refine ⟨_, (dss_one (ds_ret (we_meth (pl := _) tk ok HM__hall_at hgd (hr.mono (by decide)) (we_var 0) (wa_cons (we_var 1) wa_nil)))), fun as n R hl hc => ?_⟩
  obtain ⟨a, D, o, p, d, rfl, hob, hK, hk, hnr, hN, hE, hI⟩ := hc
  exact ⟨_, rfl, a, _, rfl, hob, hK.pc, fx_no rfl rfl, _, rfl, rfl, a, D, o, p, d, rfl, hob, hK, hk, hnr, hN, hE, hI⟩
abbrev s_Party_edits : Stmt := inCls (topS 56) 20
abbrev N_Party_edits : List Str := ["self"]
theorem sc_Party_edits : FnScope N_Party_edits ["self"] (defScope s_Party_edits) := ⟨rfl, rfl, rfl, by decide +kernel, rfl, by decide +kernel, by decide +kernel⟩
theorem fn_Party_edits {f : Addr} {fd : FuncData} (F : Fun K "edits" "Party.edits" s_Party_edits f fd) (B : Bn K mg C) : FnGX P w K mg base 1 f fd ["self"] (spDX K 1 (c_Party_edits C)) := by
  refine fndX (k := 0) (c_Party_edits C) F sc_Party_edits fun cdv A outer s H Eh hgd0 hr Y E ok tk => ?_
  have hu := hr.units
  have hu1 : (A.deeper (envOfC "Party.edits" (defScope s_Party_edits) s.heap.objs.size f cdv)).units + 65 < cLine := by have := hr.un; omega
  have hu0 : (A.deeper (envOfC "Party.edits" (defScope s_Party_edits) s.heap.objs.size f cdv)).units + 1 < cLine := by have := hr.un; omega
  have hgd : (A.deeper (envOfC "Party.edits" (defScope s_Party_edits) s.heap.objs.size f cdv)).guards = some [] := hgd0
  refine ⟨_, (dss_one (ds_ret (we_fld (we_var 0)))), fun as n R hl hc => ?_⟩
  obtain ⟨a, D, o, p, rfl, hob, hK, hR⟩ := hc
  exact ⟨_, rfl, a, _, _, rfl, hob, B.flk__done hK.pc, rfl, hR⟩
abbrev s_Party___len__ : Stmt := inCls (topS 56) 22
abbrev N_Party___len__ : List Str := ["self"]
theorem sc_Party___len__ : FnScope N_Party___len__ ["self"] (defScope s_Party___len__) := ⟨rfl, rfl, rfl, by decide +kernel, rfl, by decide +kernel, by decide +kernel⟩
theorem fn_Party___len__ {f : Addr} {fd : FuncData} (F : Fun K "__len__" "Party.__len__" s_Party___len__ f fd) (B : Bn K mg C) : FnGX P w K mg base 1 f fd ["self"] (spDX K 1 (c_Party___len__ C)) := by
  refine fndX (k := 0) (c_Party___len__ C) F sc_Party___len__ fun cdv A outer s H Eh hgd0 hr Y E ok tk => ?_
  have hu := hr.units
  have hu1 : (A.deeper (envOfC "Party.__len__" (defScope s_Party___len__) s.heap.objs.size f cdv)).units + 65 < cLine := by have := hr.un; omega
  have hu0 : (A.deeper (envOfC "Party.__len__" (defScope s_Party___len__) s.heap.objs.size f cdv)).units + 1 < cLine := by have := hr.un; omega
  have hgd : (A.deeper (envOfC "Party.__len__" (defScope s_Party___len__) s.heap.objs.size f cdv)).guards = some [] := hgd0
  refine ⟨_, (dss_one (ds_ret (we_callB call_len_seq ck_len (by rfl) B.len PySem.boot_len (wa_cons (we_fld (we_var 0)) wa_nil)))), fun as n R hl hc => ?_⟩
  obtain ⟨a, D, o, p, rfl, hob, hK, hR⟩ := hc
  exact ⟨_, rfl, a, _, _, rfl, hob, B.flk__done hK.pc, rfl, _, _, rfl, rfl, hR⟩
abbrev s_Party___str__ : Stmt := inCls (topS 56) 23
abbrev N_Party___str__ : List Str := ["self", "feet", "pairs", "served"]
theorem sc_Party___str__ : FnScope N_Party___str__ ["self"] (defScope s_Party___str__) := ⟨rfl, rfl, rfl, by decide +kernel, rfl, by decide +kernel, by decide +kernel⟩
theorem fn_Party___str__ {f : Addr} {fd : FuncData} (F : Fun K "__str__" "Party.__str__" s_Party___str__ f fd) (B : Bn K mg C) : FnGX P w K mg base 1 f fd ["self"] (spDX K 1 (c_Party___str__ C)) := by
  refine fndX (k := 0) (c_Party___str__ C) F sc_Party___str__ fun cdv A outer s H Eh hgd0 hr Y E ok tk => ?_
  have hu := hr.units
  have hu1 : (A.deeper (envOfC "Party.__str__" (defScope s_Party___str__) s.heap.objs.size f cdv)).units + 65 < cLine := by have := hr.un; omega
  have hu0 : (A.deeper (envOfC "Party.__str__" (defScope s_Party___str__) s.heap.objs.size f cdv)).units + 1 < cLine := by have := hr.un; omega
  have hgd : (A.deeper (envOfC "Party.__str__" (defScope s_Party___str__) s.heap.objs.size f cdv)).guards = some [] := hgd0
  refine ⟨_, (dss_cons (ds_asgG (we_fld (we_var 0)) ⟨(pg_tup rfl (pgs_cons (pg_name (i := 1) sc_Party___str__.nd rfl (Or.inl rfl)) (pgs_cons (pg_name (i := 2) sc_Party___str__.nd rfl (Or.inl rfl)) pgs_nil))), gok_two⟩) (dss_cons (ds_set (i := 3) sc_Party___str__.nd rfl (Or.inl rfl) (xe_d (we_fstr (WJ.cons we_str (WJ.cons (we_fmtI (we_fld (we_var 0))) (WJ.cons we_str (WJ.cons (we_fmtI (we_fld (we_var 0))) WJ.nil))))))) (dss_one (ds_ret (we_fstr (WJ.cons (we_fmtI (we_callB call_len_seq ck_len (by rfl) B.len PySem.boot_len (wa_cons (we_var 1) wa_nil))) (WJ.cons we_str (WJ.cons (we_fmtI (we_callB call_len_seq ck_len (by rfl) B.len PySem.boot_len (wa_cons (we_var 2) wa_nil))) (WJ.cons we_str (WJ.cons (we_fmt (we_var 3)) (WJ.cons we_str (WJ.cons (we_fmtI (we_callB call_len_seq ck_len (by rfl) B.len PySem.boot_len (wa_cons (we_fld (we_var 0)) wa_nil))) (WJ.cons we_str WJ.nil))))))))))))), fun as n R hl hc => ?_⟩
  obtain ⟨a, D, o, p, rfl, hob, hK, hk, hR⟩ := hc
  have k1 := hk.hh.ok.f2
  have k2 := hk.hh.ok.p2
  have k3 := hk.few
  have k4 := few_nn2 hk.fe k1 k2
  have k5 := most_nn2 hk.mo k1 k2
  have e1 : (p.h.1.map PyData.int).length = p.h.1.length := List.length_map ..
  have e2 : (p.h.2.map PyData.int).length = p.h.2.length := List.length_map ..
  have n1 := num_small (x := ((p.h.1.map PyData.int).length : Int)) (by omega)
  have n2 := num_small (x := ((p.h.2.map PyData.int).length : Int)) (by omega)
  have n3 := num_small (x := (p.done.length : Int)) (by omega)
  have n4 := num_small (x := p.f) (by omega)
  have n5 := num_small (x := p.m) (by omega)
  have m1 : ∀ y ∈ (["served ", numT p.f, " to ", numT p.m] : List Str), y.length ≤ 1000 := fun y hy => by
    simp only [List.mem_cons, List.not_mem_nil, or_false] at hy
    rcases hy with rfl | rfl | rfl | rfl
    · decide
    · exact Nat.le_trans n4.1 (by decide)
    · decide
    · exact Nat.le_trans n5.1 (by decide)
  have c1 := cat_take m1
  have cl : (cat ["served ", numT p.f, " to ", numT p.m]).length ≤ 1000 := by
    have := cat_go (b := 100) ["served ", numT p.f, " to ", numT p.m] Str.empty fun y hy => by
      simp only [List.mem_cons, List.not_mem_nil, or_false] at hy
      rcases hy with rfl | rfl | rfl | rfl
      · decide
      · exact n4.1
      · decide
      · exact n5.1
    exact Nat.le_trans this (by show 0 + 4 * 100 ≤ 1000; decide)
  have m2 : ∀ y ∈ ([numT (p.h.1.map PyData.int).length, " guests, ", numT (p.h.2.map PyData.int).length, " pairs, ", cat ["served ", numT p.f, " to ", numT p.m], ", ", numT p.done.length, " edits"] : List Str), y.length ≤ 1000 := fun y hy => by
    simp only [List.mem_cons, List.not_mem_nil, or_false] at hy
    rcases hy with rfl | rfl | rfl | rfl | rfl | rfl | rfl | rfl
    · exact Nat.le_trans n1.1 (by decide)
    · decide
    · exact Nat.le_trans n2.1 (by decide)
    · decide
    · exact cl
    · decide
    · exact Nat.le_trans n3.1 (by decide)
    · decide
  have c2 := cat_take m2
  refine ⟨_, rfl, a, _, _, rfl, hob, B.flk_hall hK.pc, rfl, _, _, rfl, ?_⟩
  refine ⟨_, rfl, c1 1 (by decide), _, rfl, a, _, _, rfl, hob, B.flk_fewest hK.pc, rfl, _, rfl, n4.2, _, rfl, c1 2 (by decide), _, rfl, c1 3 (by decide), _, rfl, a, _, _, rfl, hob, B.flk_most hK.pc, rfl, _, rfl, n5.2, _, rfl, c1 4 (by decide), ?_⟩
  refine ⟨_, rfl, _, _, rfl, rfl, _, rfl, n1.2, _, rfl, c2 1 (by decide), _, rfl, c2 2 (by decide), _, rfl, _, _, rfl, rfl, _, rfl, n2.2, _, rfl, c2 3 (by decide), _, rfl, c2 4 (by decide), ?_⟩
  refine ⟨_, rfl, _, rfl, Nat.le_trans cl (by rw [sizeLine_eq]; decide), _, rfl, c2 5 (by decide), _, rfl, c2 6 (by decide), _, rfl, a, _, _, rfl, hob, B.flk__done hK.pc, rfl, _, _, rfl, rfl, _, rfl, n3.2, _, rfl, c2 7 (by decide), _, rfl, c2 8 (by decide), ?_⟩
  show R (.str (cat [numT (p.h.1.map PyData.int).length, " guests, ", numT (p.h.2.map PyData.int).length, " pairs, ", cat ["served ", numT p.f, " to ", numT p.m], ", ", numT p.done.length, " edits"])) n
  rw [e1, e2]
  exact hR
abbrev s__law_right : Stmt := topS 65
abbrev N__law_right : List Str := ["table", "hall", "edits", "fewest", "most", "found", "words"]
theorem sc__law_right : FnScope N__law_right ["table", "hall", "edits"] (defScope s__law_right) := ⟨rfl, rfl, rfl, by decide +kernel, rfl, by decide +kernel, by decide +kernel⟩
theorem fn__law_right {f : Addr} {fd : FuncData} (F : Fun K "_law_right" "_law_right" s__law_right f fd) (B : Bn K mg C) (H__law_ends : Has P w K mg base "_law_ends" 1 ["hall"] c__law_ends) (HMD_state : HasMD P w K mg base (fun D => D = C.Party ∨ D = C.PledgedParty) "state" 4 ["self", "version"] (fun _ => c_Party_state C)) (HM_edits : HasM P w K mg base (fun D => D = C.Party ∨ D = C.PledgedParty) "edits" 1 ["self"] (fun _ => c_Party_edits C)) (HM___len__ : HasM P w K mg base (fun D => D = C.Party ∨ D = C.PledgedParty) "__len__" 1 ["self"] (fun _ => c_Party___len__ C)) (HM___str__ : HasM P w K mg base (fun D => D = C.Party ∨ D = C.PledgedParty) "__str__" 1 ["self"] (fun _ => c_Party___str__ C)) : FnG P w K mg base 5 f fd ["table", "hall", "edits"] (spD K 3 (c__law_right C)) := by
  refine fnd (k := 4) (c__law_right C) F sc__law_right fun cdv A outer s H hgd0 hr Y => ?_
  have hu := hr.units
  have hu1 : (A.deeper (envOfC "_law_right" (defScope s__law_right) s.heap.objs.size f cdv)).units + 65 < cLine := by have := hr.un; omega
  have hu0 : (A.deeper (envOfC "_law_right" (defScope s__law_right) s.heap.objs.size f cdv)).units + 1 < cLine := by have := hr.un; omega
  have hgd : (A.deeper (envOfC "_law_right" (defScope s__law_right) s.heap.objs.size f cdv)).guards = some [] := hgd0
  refine ⟨_, (dss_cons (ds_asgG (we_has H__law_ends hgd (hr.mono (by decide)) (by rfl) (wa_cons (we_var 1) wa_nil)) ⟨(pg_unl rfl (pgs_cons (pg_name (i := 3) sc__law_right.nd rfl (Or.inl rfl)) (pgs_cons (pg_name (i := 4) sc__law_right.nd rfl (Or.inl rfl)) pgs_nil))), gok_unl2⟩) (dss_cons (ds_set (i := 5) sc__law_right.nd rfl (Or.inl rfl) (xe_d (we_ofM (me_lst (wa_cons (we_fld (we_var 0)) (wa_cons (we_fld (we_var 0)) (wa_cons (we_fld (we_var 0)) (wa_cons (we_methD0 (pl := _) takes0 wok0 HMD_state hgd (hr.mono (by decide)) (we_var 0)) (wa_cons (we_meth0 (pl := _) takes0 wok0 HM_edits hgd (hr.mono (by decide)) (we_var 0)) (wa_cons (we_lenO takes0 wok0 HM___len__ hgd (hr.mono (by decide)) rfl (by rfl) B.len (we_var 0)) wa_nil)))))))))) (dss_cons (ds_if (wt_cmp (or_neA hu) bi_neA (we_callB (call_reprE hgd hu) ck_reprE (by rfl) B.repr PyProof.Rows.boot_repr (wa_cons (we_var 5) wa_nil)) (we_callB (call_reprE hgd hu) ck_reprE (by rfl) B.repr PyProof.Rows.boot_repr (wa_cons (we_ofM (me_lst (wa_cons (we_var 1) (wa_cons (we_var 3) (wa_cons (we_var 4) (wa_cons (we_var 1) (wa_cons (we_callTy call_tuple_of ck_tuple (by rfl) B.tuple PyProof.Rows.boot_tuple (wa_cons (we_var 2) wa_nil)) (wa_cons (we_callB call_len_seq ck_len (by rfl) B.len PySem.boot_len (wa_cons (we_var 2) wa_nil)) wa_nil)))))))) wa_nil)) (nomark _)) (dss_one (ds_ret we_bl)) dss_nil) (dss_cons (ds_set (i := 6) sc__law_right.nd rfl (Or.inl rfl) (xe_d (we_ofM (me_lst (wa_cons (we_callTy call_str_int cr_str (by rfl) B.str PyProof.Rows.boot_str (wa_cons (we_callB call_len_seq ck_len (by rfl) B.len PySem.boot_len (wa_cons (we_ix (we_var 1) we_int (fun _ _ => rfl)) wa_nil)) wa_nil)) (wa_cons we_str (wa_cons (we_callTy call_str_int cr_str (by rfl) B.str PyProof.Rows.boot_str (wa_cons (we_callB call_len_seq ck_len (by rfl) B.len PySem.boot_len (wa_cons (we_ix (we_var 1) we_int (fun _ _ => rfl)) wa_nil)) wa_nil)) (wa_cons we_str (wa_cons (we_callTy call_str_int cr_str (by rfl) B.str PyProof.Rows.boot_str (wa_cons (we_var 3) wa_nil)) (wa_cons we_str (wa_cons (we_bin op_add_str bi_addS (we_callTy call_str_int cr_str (by rfl) B.str PyProof.Rows.boot_str (wa_cons (we_var 4) wa_nil)) we_str) wa_nil))))))))))) (dss_one (ds_ret (we_cmp (or_eqA hu) bi_eqA (we_strO takes0 wok0 HM___str__ hgd (hr.mono (by decide)) rfl (by rfl) B.str (we_var 0)) (we_join we_str (we_bin or_addA bi_add (we_var 6) (we_ofM (me_lst (wa_cons (we_callTy call_str_int cr_str (by rfl) B.str PyProof.Rows.boot_str (wa_cons (we_callB call_len_seq ck_len (by rfl) B.len PySem.boot_len (wa_cons (we_var 2) wa_nil)) wa_nil)) (wa_cons we_str wa_nil)))))) (nomark _)))))))), fun as n R hl hc => ?_⟩
  obtain ⟨a, D, o, p, rfl, hob, hK, hk, hd, hR⟩ := hc
  refine ⟨_, rfl, rfl, p.h, rfl, hk.hh, fun m f hm hf => ?_⟩
  obtain rfl := IsMost.uniq hm hk.mo
  obtain rfl := IsFew.uniq hf hk.fe
  have k3 := hk.few
  refine ⟨_, _, rfl, ?_⟩
  refine ⟨_, rfl, a, _, _, rfl, hob, B.flk_hall hK.pc, rfl, _, rfl, a, _, _, rfl, hob, B.flk_fewest hK.pc, rfl, _, rfl, a, _, _, rfl, hob, B.flk_most hK.pc, rfl, ?_⟩
  refine ⟨_, rfl, a, _, rfl, hob, hK.pc, fx_no rfl rfl, rfl, a, D, o, p, .none, rfl, hob, hK, hk, rfl, fun _ => ?_, fun h => absurd rfl h, fun i h e => (nomatch e)⟩
  refine ⟨_, rfl, a, _, rfl, hob, hK.pc, fx_no rfl rfl, rfl, a, D, o, p, rfl, hob, hK, ?_⟩
  refine ⟨_, rfl, a, _, rfl, hob, hK.pc, a, D, o, p, rfl, hob, hK, _, rfl, by omega, by omega, by show 6 ≤ sizeLine; decide, ?_⟩
  have k1 := hk.hh.ok.f2
  have k2 := hk.hh.ok.p2
  have k4 := few_nn2 hk.fe k1 k2
  have k5 := most_nn2 hk.mo k1 k2
  have tV : TameE 1000000 60 (.list [halD p.h, .int p.f, .int p.m, halD p.h, .tuple p.done, .int p.done.length]) := by
    have t1 : TameE 20000 3 (halD p.h) := (tame_hall (by decide) hk.hh.ok.fi hk.hh.ok.pi k1 k2).e.mono (by decide) (by decide)
    have t2 : TameE 20000 3 (.tuple p.done) := (tameE_tuple (m := 200) (k := 2) (l := 60) hd hk.few).mono (by decide) (by decide)
    refine (tameE_list (m := 20000) (k := 3) (l := 6) (fun d hd => ?_) (by simp)).mono (by decide) (by decide)
    simp only [List.mem_cons, List.not_mem_nil, or_false] at hd
    rcases hd with rfl | rfl | rfl | rfl | rfl | rfl
    · exact t1
    · exact (tameE_int (m := 40) (by omega) (by decide) (by decide)).mono (by decide) (by decide)
    · exact (tameE_int (m := 40) (by omega) (by decide) (by decide)).mono (by decide) (by decide)
    · exact t1
    · exact t2
    · exact (tameE_int (m := 40) (by omega) (by decide) (by decide)).mono (by decide) (by decide)
  refine ⟨_, rfl, _, rfl, rfl, tV, _, rfl, _, rfl, _, rfl, _, rfl, _, rfl, _, _, rfl, rfl, _, rfl, _, _, rfl, rfl, by show 6 ≤ sizeLine; decide, _, rfl, rfl, tV, _, rfl, ifN (decide_eq_true rfl) ?_⟩
  have e1 : (p.h.1.map PyData.int).length = p.h.1.length := List.length_map ..
  have e2 : (p.h.2.map PyData.int).length = p.h.2.length := List.length_map ..
  have n1 := num_small (x := ((p.h.1.map PyData.int).length : Int)) (by omega)
  have n2 := num_small (x := ((p.h.2.map PyData.int).length : Int)) (by omega)
  have n3 := num_small (x := (p.done.length : Int)) (by omega)
  have n4 := num_small (x := p.f) (by omega)
  have n5 := num_small (x := p.m) (by omega)
  refine ⟨_, rfl, 0, _, rfl, rfl, _, _, rfl, rfl, _, rfl, n1.2, ?_⟩
  refine ⟨_, rfl, 1, _, rfl, rfl, _, _, rfl, rfl, _, rfl, n2.2, _, rfl, _, rfl, n4.2, _, rfl, _, rfl, n5.2, ?_⟩
  refine ⟨_, _, rfl, rfl, line1000 (by have := n5.1; show (numT p.m).length + 1 ≤ 1000; omega), by show 7 ≤ sizeLine; decide, ?_⟩
  refine ⟨_, rfl, a, _, rfl, hob, hK.pc, a, D, o, p, rfl, hob, hK, hk, _, rfl, ?_⟩
  refine ⟨_, rfl, _, rfl, ?_⟩
  refine ⟨_, rfl, _, _, rfl, rfl, _, rfl, n3.2, by show 2 ≤ sizeLine; decide, by show 7 + 2 ≤ sizeLine; decide, [numT (p.h.1.map PyData.int).length, "guests,", numT (p.h.2.map PyData.int).length, "pairs, served", numT p.f, "to", numT p.m ++ ",", numT p.done.length, "edits"], rfl, ?_, ?_⟩
  · have m2 : ∀ y ∈ ([numT (p.h.1.map PyData.int).length, "guests,", numT (p.h.2.map PyData.int).length, "pairs, served", numT p.f, "to", numT p.m ++ ",", numT p.done.length, "edits"] : List Str), y.length ≤ 1000 := fun y hy => by
      simp only [List.mem_cons, List.not_mem_nil, or_false] at hy
      rcases hy with rfl | rfl | rfl | rfl | rfl | rfl | rfl | rfl | rfl
      · exact Nat.le_trans n1.1 (by decide)
      · decide
      · exact Nat.le_trans n2.1 (by decide)
      · decide
      · exact Nat.le_trans n4.1 (by decide)
      · decide
      · rw [PySem.Str.length_append]; have := n5.1; have : (("," : Str)).length = 1 := by decide
        omega
      · exact Nat.le_trans n3.1 (by decide)
      · decide
    exact Nat.le_trans (Nat.add_le_add_right (len_sum m2) _) (by show 9 * 1000 + 9 * 1 ≤ 16777216; decide)
  · show R (.bool (decide (partyT p = Txt.join " " [numT (p.h.1.map PyData.int).length, "guests,", numT (p.h.2.map PyData.int).length, "pairs, served", numT p.f, "to", numT p.m ++ ",", numT p.done.length, "edits"]))) n
    rw [e1, e2, decide_eq_true (show partyT p = _ from partyT_join _ _ _ _ _)]
    exact hR
abbrev s_Party__promised : Stmt := inCls (topS 56) 5
abbrev N_Party__promised : List Str := ["self"]
theorem sc_Party__promised : FnScope N_Party__promised ["self"] (defScope s_Party__promised) := ⟨rfl, rfl, rfl, by decide +kernel, rfl, by decide +kernel, by decide +kernel⟩
theorem fn_Party__promised {f : Addr} {fd : FuncData} (F : Fun K "_promised" "Party._promised" s_Party__promised f fd) (B : Bn K mg C) : FnGX P w K mg base 1 f fd ["self"] (spDX K 1 (c_Party__promised C)) := by
  refine fndX (k := 0) (c_Party__promised C) F sc_Party__promised fun cdv A outer s H Eh hgd0 hr Y E ok tk => ?_
  have hu := hr.units
  have hu1 : (A.deeper (envOfC "Party._promised" (defScope s_Party__promised) s.heap.objs.size f cdv)).units + 65 < cLine := by have := hr.un; omega
  have hu0 : (A.deeper (envOfC "Party._promised" (defScope s_Party__promised) s.heap.objs.size f cdv)).units + 1 < cLine := by have := hr.un; omega
  have hgd : (A.deeper (envOfC "Party._promised" (defScope s_Party__promised) s.heap.objs.size f cdv)).guards = some [] := hgd0
  refine ⟨_, (dss_one (ds_ret we_non)), fun as n R hl hc => ?_⟩
  obtain ⟨a, rfl, hR⟩ := hc
  exact hR
abbrev s_PledgedParty__promised : Stmt := inCls (topS 57) 2
abbrev N_PledgedParty__promised : List Str := ["self"]
theorem sc_PledgedParty__promised : FnScope N_PledgedParty__promised ["self"] (defScope s_PledgedParty__promised) := ⟨rfl, rfl, rfl, by decide +kernel, rfl, by decide +kernel, by decide +kernel⟩
theorem fn_PledgedParty__promised {f : Addr} {fd : FuncData} (F : Fun K "_promised" "PledgedParty._promised" s_PledgedParty__promised f fd) (B : Bn K mg C) : FnGX P w K mg base 1 f fd ["self"] (spDX K 1 (c_PledgedParty__promised C)) := by
  refine fndX (k := 0) (c_PledgedParty__promised C) F sc_PledgedParty__promised fun cdv A outer s H Eh hgd0 hr Y E ok tk => ?_
  have hu := hr.units
  have hu1 : (A.deeper (envOfC "PledgedParty._promised" (defScope s_PledgedParty__promised) s.heap.objs.size f cdv)).units + 65 < cLine := by have := hr.un; omega
  have hu0 : (A.deeper (envOfC "PledgedParty._promised" (defScope s_PledgedParty__promised) s.heap.objs.size f cdv)).units + 1 < cLine := by have := hr.un; omega
  have hgd : (A.deeper (envOfC "PledgedParty._promised" (defScope s_PledgedParty__promised) s.heap.objs.size f cdv)).guards = some [] := hgd0
  refine ⟨_, (dss_one (ds_ret (we_fld (we_var 0)))), fun as n R hl hc => ?_⟩
  obtain ⟨a, k, fs, rfl, hob, hl, hR⟩ := hc
  exact ⟨_, rfl, a, _, _, rfl, hob, B.fl_PledgedParty_pledge, hl, hR⟩
abbrev s__sorted_sizes : Stmt := topS 55
abbrev N__sorted_sizes : List Str := ["hall", "feet", "pairs"]
theorem sc__sorted_sizes : FnScope N__sorted_sizes ["hall"] (defScope s__sorted_sizes) := ⟨rfl, rfl, rfl, by decide +kernel, rfl, by decide +kernel, by decide +kernel⟩
theorem fn__sorted_sizes {f : Addr} {fd : FuncData} (F : Fun K "_sorted_sizes" "_sorted_sizes" s__sorted_sizes f fd) (B : Bn K mg C) : FnG P w K mg base 1 f fd ["hall"] (spD K 1 c__sorted_sizes) := by
  refine fnd (k := 0) c__sorted_sizes F sc__sorted_sizes fun cdv A outer s H hgd0 hr Y => ?_
  have hu := hr.units
  have hu1 : (A.deeper (envOfC "_sorted_sizes" (defScope s__sorted_sizes) s.heap.objs.size f cdv)).units + 65 < cLine := by have := hr.un; omega
  have hu0 : (A.deeper (envOfC "_sorted_sizes" (defScope s__sorted_sizes) s.heap.objs.size f cdv)).units + 1 < cLine := by have := hr.un; omega
  have hgd : (A.deeper (envOfC "_sorted_sizes" (defScope s__sorted_sizes) s.heap.objs.size f cdv)).guards = some [] := hgd0
  refine ⟨_, (dss_cons (ds_asgG (we_var 0) ⟨(pg_tup rfl (pgs_cons (pg_name (i := 1) sc__sorted_sizes.nd rfl (Or.inl rfl)) (pgs_cons (pg_name (i := 2) sc__sorted_sizes.nd rfl (Or.inl rfl)) pgs_nil))), gok_two⟩) (dss_one (ds_ret (we_tup (wa_cons (we_ofM (me_callB cr_sortIT ck_sortIT (by rfl) B.sorted PyProof.Rows.boot_sorted (wa_cons (we_var 1) wa_nil))) (wa_cons (we_ofM (me_callB cr_sortIT ck_sortIT (by rfl) B.sorted PyProof.Rows.boot_sorted (wa_cons (we_var 2) wa_nil))) wa_nil)))))), fun as n R hl hc => ?_⟩
  obtain ⟨h, rfl, hh, hR⟩ := hc
  refine ⟨_, rfl, _, _, rfl, ?_⟩
  refine ⟨_, rfl, _, h.1, rfl, rfl, fun F hF sF => ?_⟩
  refine ⟨_, rfl, _, h.2, rfl, rfl, fun P hP sP => ⟨by show 2 ≤ sizeLine; decide, ?_⟩⟩
  rw [sorted_uniq (hF.trans (srt_perm h.1).symm) sF (srt_sorted h.1), sorted_uniq (hP.trans (srt_perm h.2).symm) sP (srt_sorted h.2)]
  exact hR
abbrev s_Party___eq__ : Stmt := inCls (topS 56) 24
abbrev N_Party___eq__ : List Str := ["self", "other"]
theorem sc_Party___eq__ : FnScope N_Party___eq__ ["self", "other"] (defScope s_Party___eq__) := ⟨rfl, rfl, rfl, by decide +kernel, rfl, by decide +kernel, by decide +kernel⟩
theorem fn_Party___eq__ {f : Addr} {fd : FuncData} (F : Fun K "__eq__" "Party.__eq__" s_Party___eq__ f fd) (B : Bn K mg C) (HM__promised : HasM P w K mg base (fun D => D = C.Party ∨ D = C.PledgedParty) "_promised" 1 ["self"] (cm__promised C)) (H__sorted_sizes : Has P w K mg base "_sorted_sizes" 1 ["hall"] c__sorted_sizes) : FnGX P w K mg base 2 f fd ["self", "other"] (spDX K 2 (c_Party___eq__ C)) := by
  refine fndX (k := 1) (c_Party___eq__ C) F sc_Party___eq__ fun cdv A outer s H Eh hgd0 hr Y E ok tk => ?_
  have hu := hr.units
  have hu1 : (A.deeper (envOfC "Party.__eq__" (defScope s_Party___eq__) s.heap.objs.size f cdv)).units + 65 < cLine := by have := hr.un; omega
  have hu0 : (A.deeper (envOfC "Party.__eq__" (defScope s_Party___eq__) s.heap.objs.size f cdv)).units + 1 < cLine := by have := hr.un; omega
  have hgd : (A.deeper (envOfC "Party.__eq__" (defScope s_Party___eq__) s.heap.objs.size f cdv)).guards = some [] := hgd0
  refine ⟨_, (dss_cons (ds_if (wt_not (wt_val (we_is (by rfl) B.isinstance (we_var 1) (pe_glob (v := .ref C.Party) (by rfl) B.g_Party rfl) (.own _)))) (dss_one (ds_ret we_bl)) dss_nil) (dss_cons (ds_if (wt_cmp (or_neA hu) bi_neA (we_meth0 (pl := _) tk ok HM__promised hgd (hr.mono (by decide)) (we_var 0)) (we_meth0 (pl := _) tk ok HM__promised hgd (hr.mono (by decide)) (we_var 1)) (nomark _)) (dss_one (ds_ret we_bl)) dss_nil) (dss_one (ds_ret (we_cmp (or_eqA hu) bi_eqA (we_has H__sorted_sizes hgd (hr.mono (by decide)) (by rfl) (wa_cons (we_fld (we_var 0)) wa_nil)) (we_has H__sorted_sizes hgd (hr.mono (by decide)) (by rfl) (wa_cons (we_fld (we_var 1)) wa_nil)) (nomark _)))))), fun as n R hl hc => ?_⟩
  obtain ⟨a, D, o, p, b, D', o', q, rfl, hob, hK, hobb, hK', hp, hq, hR⟩ := hc
  have hI : InsC K D' := by
    rcases hK'.pc with rfl | rfl
    · exact B.i_Party
    · exact B.i_PledgedParty
  have hk : PySem.W.kitOne K (.ref D') (.ref C.Party) = some true := by
    rcases hK'.pc with rfl | rfl
    · exact B.k_Party_Party
    · exact B.k_PledgedParty_Party
  refine ⟨_, rfl, .ref D', true, .inr ⟨b, _, rfl, hobb, hI, rfl⟩, hk, _, rfl, iteF ?_⟩
  have prom : ∀ (x X : Addr) (ox : Option Int) (px : Pt), n.ob x = some ⟨X, px.fs ++ xt ox⟩ → Kd C X ox → ∀ (Q : PyData → Wo → Prop) (E' : Ex → Wo → Prop), Q (promD ox) n → cm__promised C X [.dat (refD x)] n Q E' := fun x X ox px h1 h2 Q E' hq => by
    rcases h2 with ⟨rfl, rfl⟩ | ⟨rfl, ho⟩
    · exact .inl ⟨rfl, x, rfl, hq⟩
    · cases ox with
      | none => exact absurd rfl ho
      | some k => exact .inr ⟨rfl, x, k, _, rfl, h1, rfl, hq⟩
  refine ⟨_, rfl, a, _, rfl, hob, hK.pc, fx_no rfl rfl, rfl, prom a D o p hob hK _ _ ?_⟩
  refine ⟨_, rfl, b, _, rfl, hobb, hK'.pc, fx_no rfl rfl, rfl, prom b D' o' q hobb hK' _ _ ?_⟩
  cases o with
  | none =>
    cases o' with
    | none =>
      refine ⟨rfl, rfl, rfl, rfl, _, rfl, ifN (b := true) rfl ?_⟩
      rw [decide_eq_true rfl, Bool.true_and] at hR
      exact ⟨_, rfl, a, _, _, rfl, hob, B.flk_hall hK.pc, rfl, rfl, p.h, rfl, hp, _, rfl, b, _, _, rfl, hobb, B.flk_hall hK'.pc, rfl, rfl, q.h, rfl, hq, rfl, rfl, sh_srt hp, sh_srt hq, hR⟩
    | some k => exact ⟨rfl, rfl, rfl, rfl, _, rfl, ifNF (b := false) rfl hR⟩
  | some j =>
    cases o' with
    | none => exact ⟨rfl, rfl, rfl, rfl, _, rfl, ifNF (b := false) rfl hR⟩
    | some k =>
      refine ⟨rfl, rfl, rfl, rfl, _, rfl, ?_⟩
      by_cases c : j = k
      · refine ifN ((eqv_int _ _).trans (decide_eq_true c)) ?_
        subst c
        rw [decide_eq_true rfl, Bool.true_and] at hR
        exact ⟨_, rfl, a, _, _, rfl, hob, B.flk_hall hK.pc, rfl, rfl, p.h, rfl, hp, _, rfl, b, _, _, rfl, hobb, B.flk_hall hK'.pc, rfl, rfl, q.h, rfl, hq, rfl, rfl, sh_srt hp, sh_srt hq, hR⟩
      · refine ifNF ((eqv_int _ _).trans (decide_eq_false c)) ?_
        rw [decide_eq_false (fun e => c (Option.some.inj e)), Bool.false_and] at hR
        exact hR
abbrev s_Party__ask_idle : Stmt := inCls (topS 56) 3
abbrev N_Party__ask_idle : List Str := ["self"]
theorem sc_Party__ask_idle : FnScope N_Party__ask_idle ["self"] (defScope s_Party__ask_idle) := ⟨rfl, rfl, rfl, by decide +kernel, rfl, by decide +kernel, by decide +kernel⟩
theorem fn_Party__ask_idle {f : Addr} {fd : FuncData} (F : Fun K "_ask_idle" "Party._ask_idle" s_Party__ask_idle f fd) (B : Bn K mg C) : FnGX P w K mg base 3 f fd ["self"] (spDX K 1 (c_Party__ask_idle C)) := by
  refine fndX (k := 2) (c_Party__ask_idle C) F sc_Party__ask_idle fun cdv A outer s H Eh hgd0 hr Y E ok tk => ?_
  have hu := hr.units
  have hu1 : (A.deeper (envOfC "Party._ask_idle" (defScope s_Party__ask_idle) s.heap.objs.size f cdv)).units + 65 < cLine := by have := hr.un; omega
  have hu0 : (A.deeper (envOfC "Party._ask_idle" (defScope s_Party__ask_idle) s.heap.objs.size f cdv)).units + 1 < cLine := by have := hr.un; omega
  have hgd : (A.deeper (envOfC "Party._ask_idle" (defScope s_Party__ask_idle) s.heap.objs.size f cdv)).guards = some [] := hgd0
  refine ⟨_, (dss_one (ds_if (wt_tru (we_fld (we_var 0))) (dss_one (ds_raise0 rfl tk ok B.e_Busy (by rfl))) dss_nil)), fun as n R hl hc => ?_⟩
  obtain ⟨a, D, o, p, rfl, hob, hK, hF, hT⟩ := hc
  refine ⟨_, rfl, a, _, _, rfl, hob, B.flk__busy hK.pc, rfl, ?_⟩
  cases q : p.busy with
  | false => exact iteF (A := False) (hF q)
  | true => exact iteT (B := False) (hT q)
abbrev s__with_guest : Stmt := topS 33
abbrev N__with_guest : List Str := ["hall", "foot", "feet", "pairs"]
theorem sc__with_guest : FnScope N__with_guest ["hall", "foot"] (defScope s__with_guest) := ⟨rfl, rfl, rfl, by decide +kernel, rfl, by decide +kernel, by decide +kernel⟩
theorem fn__with_guest {f : Addr} {fd : FuncData} (F : Fun K "_with_guest" "_with_guest" s__with_guest f fd) (B : Bn K mg C) (H_is_size : Has P w K mg base "is_size" 3 ["value"] c_is_size) (H_BadFoot : ErrC P w K mg base "BadFoot" C.BadFoot "value") : FnGX P w K mg base 4 f fd ["hall", "foot"] (spDX K 2 (c__with_guest C)) := by
  refine fndX (k := 3) (c__with_guest C) F sc__with_guest fun cdv A outer s H Eh hgd0 hr Y E ok tk => ?_
  have hu := hr.units
  have hu1 : (A.deeper (envOfC "_with_guest" (defScope s__with_guest) s.heap.objs.size f cdv)).units + 65 < cLine := by have := hr.un; omega
  have hu0 : (A.deeper (envOfC "_with_guest" (defScope s__with_guest) s.heap.objs.size f cdv)).units + 1 < cLine := by have := hr.un; omega
  have hgd : (A.deeper (envOfC "_with_guest" (defScope s__with_guest) s.heap.objs.size f cdv)).guards = some [] := hgd0
  refine ⟨_, (dss_cons (ds_asgG (we_var 0) ⟨(pg_tup rfl (pgs_cons (pg_name (i := 2) sc__with_guest.nd rfl (Or.inl rfl)) (pgs_cons (pg_name (i := 3) sc__with_guest.nd rfl (Or.inl rfl)) pgs_nil))), gok_two⟩) (dss_cons (ds_if (wt_not (wt_val (we_has H_is_size hgd (hr.mono (by decide)) (by rfl) (wa_cons (we_var 1) wa_nil)))) (dss_one (ds_raise rfl tk ok H_BadFoot (hr.mono (by decide)) (by rfl) (we_var 1))) dss_nil) (dss_cons (ds_if (wt_cmp op_ge bi_B0 (we_callB call_len_seq ck_len (by rfl) B.len PySem.boot_len (wa_cons (we_var 2) wa_nil)) (we_gint (by rfl) B.MAX_GUESTS.choose_spec) (nomark _)) (dss_one (ds_raise0 rfl tk ok B.e_TooManyGuests (by rfl))) dss_nil) (dss_one (ds_ret (we_tup (wa_cons (we_bin or_addA bi_add (we_var 2) (we_tup (wa_cons (we_var 1) wa_nil))) (wa_cons (we_var 3) wa_nil)))))))), fun as n R hl hc => ?_⟩
  obtain ⟨h, d, rfl, hk, hnr, ho⟩ := hc
  refine ⟨_, rfl, _, _, rfl, ?_⟩
  refine ⟨_, rfl, rfl, d, rfl, hnr, _, rfl, ?_⟩
  unfold aCome at ho
  cases q : szD d with
  | false =>
    rw [q, if_neg Bool.false_ne_true] at ho
    exact ifNF (b := false) rfl ⟨_, rfl, ho⟩
  | true =>
    obtain ⟨z, rfl, z1, z2⟩ := szD_true q
    rw [if_pos q] at ho
    refine ifN (b := true) rfl ⟨_, rfl, _, _, rfl, rfl, _, rfl, ?_⟩
    by_cases c : 20 ≤ h.1.length
    · rw [if_pos c] at ho
      exact iteD (by rw [List.length_map]; omega) ho
    · rw [if_neg c] at ho
      have hR : R (hallD (h.1 ++ [z]) h.2) n := ho
      refine iteDF (by rw [List.length_map]; omega) ⟨_, rfl, _, rfl, by show 1 ≤ sizeLine; decide, ?_⟩
      refine ⟨line1000 (by rw [List.length_map]; show h.1.length + 1 ≤ 1000; omega), _, rfl, by show 2 ≤ sizeLine; decide, ?_⟩
      unfold hallD sizesD at hR
      rw [List.map_append] at hR
      exact hR
abbrev s__without_guest : Stmt := topS 34
abbrev N__without_guest : List Str := ["hall", "guest", "feet", "pairs"]
theorem sc__without_guest : FnScope N__without_guest ["hall", "guest"] (defScope s__without_guest) := ⟨rfl, rfl, rfl, by decide +kernel, rfl, by decide +kernel, by decide +kernel⟩
theorem fn__without_guest {f : Addr} {fd : FuncData} (F : Fun K "_without_guest" "_without_guest" s__without_guest f fd) (B : Bn K mg C) (H_is_number_from : Has P w K mg base "is_number_from" 2 ["value", "low", "high"] c_is_number_from) (H_NoGuest : ErrL P w K mg base "NoGuest" C.NoGuest "value") : FnGX P w K mg base 3 f fd ["hall", "guest"] (spDX K 2 (c__without_guest C)) := by
  refine fndX (k := 2) (c__without_guest C) F sc__without_guest fun cdv A outer s H Eh hgd0 hr Y E ok tk => ?_
  have hu := hr.units
  have hu1 : (A.deeper (envOfC "_without_guest" (defScope s__without_guest) s.heap.objs.size f cdv)).units + 65 < cLine := by have := hr.un; omega
  have hu0 : (A.deeper (envOfC "_without_guest" (defScope s__without_guest) s.heap.objs.size f cdv)).units + 1 < cLine := by have := hr.un; omega
  have hgd : (A.deeper (envOfC "_without_guest" (defScope s__without_guest) s.heap.objs.size f cdv)).guards = some [] := hgd0
  refine ⟨_, (dss_cons (ds_asgG (we_var 0) ⟨(pg_tup rfl (pgs_cons (pg_name (i := 2) sc__without_guest.nd rfl (Or.inl rfl)) (pgs_cons (pg_name (i := 3) sc__without_guest.nd rfl (Or.inl rfl)) pgs_nil))), gok_two⟩) (dss_cons (ds_if (wt_not (wt_val (we_has H_is_number_from hgd (hr.mono (by decide)) (by rfl) (wa_cons (we_var 1) (wa_cons we_int (wa_cons (we_bin op_sub bi_I0 (we_callB call_len_seq ck_len (by rfl) B.len PySem.boot_len (wa_cons (we_var 2) wa_nil)) we_int) wa_nil)))))) (dss_one (ds_raiseL rfl tk ok H_NoGuest (hr.mono (by decide)) (by rfl) (we_var 1))) dss_nil) (dss_cons (ds_if (wt_cmp (or_eqA hu) bi_eqA (we_callB call_len_seq ck_len (by rfl) B.len PySem.boot_len (wa_cons (we_var 2) wa_nil)) we_int (nomark _)) (dss_one (ds_raise0 rfl tk ok B.e_LastGuest (by rfl))) dss_nil) (dss_one (ds_ret (we_tup (wa_cons (we_bin or_addA bi_add (we_slice (we_var 2) wo_none (wo_some (we_var 1))) (we_slice (we_var 2) (wo_some (we_bin or_addA bi_add (we_var 1) we_int)) wo_none)) (wa_cons (we_var 3) wa_nil)))))))), fun as n R hl hc => ?_⟩
  obtain ⟨h, d, rfl, hk, hnr, ho⟩ := hc
  have l1 := hk.l1
  refine ⟨_, rfl, _, _, rfl, ?_⟩
  refine ⟨_, rfl, _, rfl, _, _, rfl, rfl, rfl, d, _, _, rfl, hnr, _, rfl, ?_⟩
  have e0 : ((h.1.map PyData.int).length : Int) - 1 = (h.1.length : Int) - 1 := by rw [List.length_map]
  rw [e0]
  unfold aLeave at ho
  cases q : numIn d 0 ((h.1.length : Int) - 1) with
  | false =>
    rw [q, if_neg Bool.false_ne_true] at ho
    exact ifNF (b := false) rfl ⟨_, rfl, ho⟩
  | true =>
    obtain ⟨z, rfl, z1, z2⟩ := numIn_true q
    rw [if_pos q] at ho
    refine ifN (b := true) rfl ⟨_, rfl, _, _, rfl, rfl, rfl, rfl, rfl, rfl, _, rfl, ?_⟩
    have e1 : PyData.eqv (.int (h.1.map PyData.int).length) (.int 1) = decide (h.1.length = 1) := by
      rw [eqv_int, List.length_map]
      exact decide_eq_decide.mpr ⟨fun e => by omega, fun e => by omega⟩
    show if PyData.eqv (.int (h.1.map PyData.int).length) (.int 1) = true then _ else _
    rw [e1]
    by_cases c : h.1.length = 1
    · rw [if_pos c] at ho
      exact iteD c ho
    · rw [if_neg c] at ho
      obtain ⟨i, rfl⟩ := Int.eq_ofNat_of_zero_le z1
      have hR : R (hallD (h.1.take i ++ h.1.drop (i + 1)) h.2) n := ho
      refine iteDF c ⟨_, rfl, _, rfl, _, rfl, _, rfl, _, rfl, _, rfl, ?_⟩
      rw [show cutG (h.1.map PyData.int) none (some (i : Int)) = (h.1.take i).map .int by rw [cut_take, List.map_take]]
      show (((h.1.take i).map PyData.int).length + (cutG (h.1.map PyData.int) (some ((i : Int) + 1)) none).length ≤ sizeLine) ∧ _
      rw [show cutG (h.1.map PyData.int) (some ((i : Int) + 1)) none = (h.1.drop (i + 1)).map .int by rw [show (i : Int) + 1 = ((i + 1 : Nat) : Int) by omega, cut_drop, List.map_drop]]
      refine ⟨line1000 (by rw [List.length_map, List.length_map, List.length_take, List.length_drop]; omega), _, rfl, by show 2 ≤ sizeLine; decide, ?_⟩
      unfold hallD sizesD at hR
      rw [List.map_append] at hR
      exact hR
abbrev s__with_pair : Stmt := topS 35
abbrev N__with_pair : List Str := ["hall", "size", "feet", "pairs"]
theorem sc__with_pair : FnScope N__with_pair ["hall", "size"] (defScope s__with_pair) := ⟨rfl, rfl, rfl, by decide +kernel, rfl, by decide +kernel, by decide +kernel⟩
theorem fn__with_pair {f : Addr} {fd : FuncData} (F : Fun K "_with_pair" "_with_pair" s__with_pair f fd) (B : Bn K mg C) (H_is_size : Has P w K mg base "is_size" 3 ["value"] c_is_size) (H_BadSize : ErrC P w K mg base "BadSize" C.BadSize "value") : FnGX P w K mg base 4 f fd ["hall", "size"] (spDX K 2 (c__with_pair C)) := by
  refine fndX (k := 3) (c__with_pair C) F sc__with_pair fun cdv A outer s H Eh hgd0 hr Y E ok tk => ?_
  have hu := hr.units
  have hu1 : (A.deeper (envOfC "_with_pair" (defScope s__with_pair) s.heap.objs.size f cdv)).units + 65 < cLine := by have := hr.un; omega
  have hu0 : (A.deeper (envOfC "_with_pair" (defScope s__with_pair) s.heap.objs.size f cdv)).units + 1 < cLine := by have := hr.un; omega
  have hgd : (A.deeper (envOfC "_with_pair" (defScope s__with_pair) s.heap.objs.size f cdv)).guards = some [] := hgd0
  refine ⟨_, (dss_cons (ds_asgG (we_var 0) ⟨(pg_tup rfl (pgs_cons (pg_name (i := 2) sc__with_pair.nd rfl (Or.inl rfl)) (pgs_cons (pg_name (i := 3) sc__with_pair.nd rfl (Or.inl rfl)) pgs_nil))), gok_two⟩) (dss_cons (ds_if (wt_not (wt_val (we_has H_is_size hgd (hr.mono (by decide)) (by rfl) (wa_cons (we_var 1) wa_nil)))) (dss_one (ds_raise rfl tk ok H_BadSize (hr.mono (by decide)) (by rfl) (we_var 1))) dss_nil) (dss_cons (ds_if (wt_cmp op_ge bi_B0 (we_callB call_len_seq ck_len (by rfl) B.len PySem.boot_len (wa_cons (we_var 3) wa_nil)) (we_gint (by rfl) B.MAX_PAIRS.choose_spec) (nomark _)) (dss_one (ds_raise0 rfl tk ok B.e_TooManyPairs (by rfl))) dss_nil) (dss_one (ds_ret (we_tup (wa_cons (we_var 2) (wa_cons (we_bin or_addA bi_add (we_var 3) (we_tup (wa_cons (we_var 1) wa_nil))) wa_nil)))))))), fun as n R hl hc => ?_⟩
  obtain ⟨h, d, rfl, hk, hnr, ho⟩ := hc
  refine ⟨_, rfl, _, _, rfl, ?_⟩
  refine ⟨_, rfl, rfl, d, rfl, hnr, _, rfl, ?_⟩
  unfold aPut at ho
  cases q : szD d with
  | false =>
    rw [q, if_neg Bool.false_ne_true] at ho
    exact ifNF (b := false) rfl ⟨_, rfl, ho⟩
  | true =>
    obtain ⟨z, rfl, z1, z2⟩ := szD_true q
    rw [if_pos q] at ho
    refine ifN (b := true) rfl ⟨_, rfl, _, _, rfl, rfl, _, rfl, ?_⟩
    by_cases c : 20 ≤ h.2.length
    · rw [if_pos c] at ho
      exact iteD (by rw [List.length_map]; omega) ho
    · rw [if_neg c] at ho
      have hR : R (hallD h.1 (h.2 ++ [z])) n := ho
      refine iteDF (by rw [List.length_map]; omega) ⟨_, rfl, _, rfl, _, rfl, by show 1 ≤ sizeLine; decide, ?_⟩
      refine ⟨line1000 (by rw [List.length_map]; show h.2.length + 1 ≤ 1000; omega), by show 2 ≤ sizeLine; decide, ?_⟩
      unfold hallD sizesD at hR
      rw [List.map_append] at hR
      exact hR
abbrev s__without_pair : Stmt := topS 36
abbrev N__without_pair : List Str := ["hall", "pair", "feet", "pairs"]
theorem sc__without_pair : FnScope N__without_pair ["hall", "pair"] (defScope s__without_pair) := ⟨rfl, rfl, rfl, by decide +kernel, rfl, by decide +kernel, by decide +kernel⟩
theorem fn__without_pair {f : Addr} {fd : FuncData} (F : Fun K "_without_pair" "_without_pair" s__without_pair f fd) (B : Bn K mg C) (H_is_number_from : Has P w K mg base "is_number_from" 2 ["value", "low", "high"] c_is_number_from) (H_NoPair : ErrL P w K mg base "NoPair" C.NoPair "value") : FnGX P w K mg base 3 f fd ["hall", "pair"] (spDX K 2 (c__without_pair C)) := by
  refine fndX (k := 2) (c__without_pair C) F sc__without_pair fun cdv A outer s H Eh hgd0 hr Y E ok tk => ?_
  have hu := hr.units
  have hu1 : (A.deeper (envOfC "_without_pair" (defScope s__without_pair) s.heap.objs.size f cdv)).units + 65 < cLine := by have := hr.un; omega
  have hu0 : (A.deeper (envOfC "_without_pair" (defScope s__without_pair) s.heap.objs.size f cdv)).units + 1 < cLine := by have := hr.un; omega
  have hgd : (A.deeper (envOfC "_without_pair" (defScope s__without_pair) s.heap.objs.size f cdv)).guards = some [] := hgd0
  refine ⟨_, (dss_cons (ds_asgG (we_var 0) ⟨(pg_tup rfl (pgs_cons (pg_name (i := 2) sc__without_pair.nd rfl (Or.inl rfl)) (pgs_cons (pg_name (i := 3) sc__without_pair.nd rfl (Or.inl rfl)) pgs_nil))), gok_two⟩) (dss_cons (ds_if (wt_not (wt_val (we_has H_is_number_from hgd (hr.mono (by decide)) (by rfl) (wa_cons (we_var 1) (wa_cons we_int (wa_cons (we_bin op_sub bi_I0 (we_callB call_len_seq ck_len (by rfl) B.len PySem.boot_len (wa_cons (we_var 3) wa_nil)) we_int) wa_nil)))))) (dss_one (ds_raiseL rfl tk ok H_NoPair (hr.mono (by decide)) (by rfl) (we_var 1))) dss_nil) (dss_one (ds_ret (we_tup (wa_cons (we_var 2) (wa_cons (we_bin or_addA bi_add (we_slice (we_var 3) wo_none (wo_some (we_var 1))) (we_slice (we_var 3) (wo_some (we_bin or_addA bi_add (we_var 1) we_int)) wo_none)) wa_nil))))))), fun as n R hl hc => ?_⟩
  obtain ⟨h, d, rfl, hk, hnr, ho⟩ := hc
  have l1 := hk.l2
  refine ⟨_, rfl, _, _, rfl, ?_⟩
  refine ⟨_, rfl, _, rfl, _, _, rfl, rfl, rfl, d, _, _, rfl, hnr, _, rfl, ?_⟩
  have e0 : ((h.2.map PyData.int).length : Int) - 1 = (h.2.length : Int) - 1 := by rw [List.length_map]
  rw [e0]
  unfold aTake at ho
  cases q : numIn d 0 ((h.2.length : Int) - 1) with
  | false =>
    rw [q, if_neg Bool.false_ne_true] at ho
    exact ifNF (b := false) rfl ⟨_, rfl, ho⟩
  | true =>
    obtain ⟨z, rfl, z1, z2⟩ := numIn_true q
    rw [if_pos q] at ho
    obtain ⟨i, rfl⟩ := Int.eq_ofNat_of_zero_le z1
    have hR : R (hallD h.1 (h.2.take i ++ h.2.drop (i + 1))) n := ho
    refine ifN (b := true) rfl ⟨_, rfl, _, rfl, _, rfl, _, rfl, _, rfl, _, rfl, _, rfl, ?_⟩
    rw [show cutG (h.2.map PyData.int) none (some (i : Int)) = (h.2.take i).map .int by rw [cut_take, List.map_take]]
    show (((h.2.take i).map PyData.int).length + (cutG (h.2.map PyData.int) (some ((i : Int) + 1)) none).length ≤ sizeLine) ∧ _
    rw [show cutG (h.2.map PyData.int) (some ((i : Int) + 1)) none = (h.2.drop (i + 1)).map .int by rw [show (i : Int) + 1 = ((i + 1 : Nat) : Int) by omega, cut_drop, List.map_drop]]
    refine ⟨line1000 (by rw [List.length_map, List.length_map, List.length_take, List.length_drop]; omega), by show 2 ≤ sizeLine; decide, ?_⟩
    unfold hallD sizesD at hR
    rw [List.map_append] at hR
    exact hR
def S_hall_after_change (mg : Str → Option Value) (C : CA) (g : Addr) (c : DSpecX) : Prop := (mg "_with_guest" = some (.ref g) ∧ c = c__with_guest C) ∨ (mg "_without_guest" = some (.ref g) ∧ c = c__without_guest C) ∨ (mg "_with_pair" = some (.ref g) ∧ c = c__with_pair C) ∨ (mg "_without_pair" = some (.ref g) ∧ c = c__without_pair C)
abbrev s_hall_after : Stmt := topS 38
abbrev N_hall_after : List Str := ["hall", "name", "value", "change"]
theorem sc_hall_after : FnScope N_hall_after ["hall", "name", "value"] (defScope s_hall_after) := ⟨rfl, rfl, rfl, by decide +kernel, rfl, by decide +kernel, by decide +kernel⟩
theorem fn_hall_after {f : Addr} {fd : FuncData} (F : Fun K "hall_after" "hall_after" s_hall_after f fd) (B : Bn K mg C) (HS_change : ∀ g c, S_hall_after_change mg C g c → PySem.W.keepIn K (.ref g) = true ∧ ∃ fd ps, Binds K fd ps [] ∧ FnGX P w K mg base 4 g fd ps (spDX K 2 c)) (KD_CHANGES : ∃ es n, KDict K w C.CHANGES es n) : FnGX P w K mg base 5 f fd ["hall", "name", "value"] (spDX K 3 (c_hall_after C)) := by
  refine fndX (k := 4) (c_hall_after C) F sc_hall_after fun cdv A outer s H Eh hgd0 hr Y E ok tk => ?_
  have hu := hr.units
  have hu1 : (A.deeper (envOfC "hall_after" (defScope s_hall_after) s.heap.objs.size f cdv)).units + 65 < cLine := by have := hr.un; omega
  have hu0 : (A.deeper (envOfC "hall_after" (defScope s_hall_after) s.heap.objs.size f cdv)).units + 1 < cLine := by have := hr.un; omega
  have hgd : (A.deeper (envOfC "hall_after" (defScope s_hall_after) s.heap.objs.size f cdv)).guards = some [] := hgd0
  refine ⟨_, (dss_cons (ds_set (i := 3) sc_hall_after.nd rfl (Or.inl rfl) (xe_d (we_kd KD_CHANGES.choose_spec.choose_spec (we_gref (by rfl) B.g_CHANGES) (we_var 1)))) (dss_one (ds_ret (we_callR (i := 3) tk ok HS_change hgd (hr.mono (by decide)) rfl (Or.inl rfl) (wa_cons (we_var 0) (wa_cons (we_var 2) wa_nil)))))), fun as n R hl hc => ?_⟩
  obtain ⟨h, nm, d, rfl, hk, hnr, hm, ho⟩ := hc
  rcases hm with rfl | rfl | rfl | rfl
  · rw [aft_come] at ho
    obtain ⟨g, hg, hmg⟩ := B.fk_CHANGES_come
    exact ⟨_, rfl, "come", g, rfl, rfl, hg, g, _, rfl, .inl ⟨hmg, rfl⟩, _, rfl, _, rfl, rfl, h, d, rfl, hk, hnr, ho⟩
  · rw [aft_leave] at ho
    obtain ⟨g, hg, hmg⟩ := B.fk_CHANGES_leave
    exact ⟨_, rfl, "leave", g, rfl, rfl, hg, g, _, rfl, .inr (.inl ⟨hmg, rfl⟩), _, rfl, _, rfl, rfl, h, d, rfl, hk, hnr, ho⟩
  · rw [aft_put] at ho
    obtain ⟨g, hg, hmg⟩ := B.fk_CHANGES_put
    exact ⟨_, rfl, "put", g, rfl, rfl, hg, g, _, rfl, .inr (.inr (.inl ⟨hmg, rfl⟩)), _, rfl, _, rfl, rfl, h, d, rfl, hk, hnr, ho⟩
  · rw [aft_take] at ho
    obtain ⟨g, hg, hmg⟩ := B.fk_CHANGES_take
    exact ⟨_, rfl, "take", g, rfl, rfl, hg, g, _, rfl, .inr (.inr (.inr ⟨hmg, rfl⟩)), _, rfl, _, rfl, rfl, h, d, rfl, hk, hnr, ho⟩
abbrev s_Party__ask_pledge : Stmt := inCls (topS 56) 4
abbrev N_Party__ask_pledge : List Str := ["self", "fewest"]
theorem sc_Party__ask_pledge : FnScope N_Party__ask_pledge ["self", "fewest"] (defScope s_Party__ask_pledge) := ⟨rfl, rfl, rfl, by decide +kernel, rfl, by decide +kernel, by decide +kernel⟩
theorem fn_Party__ask_pledge {f : Addr} {fd : FuncData} (F : Fun K "_ask_pledge" "Party._ask_pledge" s_Party__ask_pledge f fd) (B : Bn K mg C) : FnGX P w K mg base 1 f fd ["self", "fewest"] (spDX K 2 (c_Party__ask_pledge C)) := by
  refine fndX (k := 0) (c_Party__ask_pledge C) F sc_Party__ask_pledge fun cdv A outer s H Eh hgd0 hr Y E ok tk => ?_
  have hu := hr.units
  have hu1 : (A.deeper (envOfC "Party._ask_pledge" (defScope s_Party__ask_pledge) s.heap.objs.size f cdv)).units + 65 < cLine := by have := hr.un; omega
  have hu0 : (A.deeper (envOfC "Party._ask_pledge" (defScope s_Party__ask_pledge) s.heap.objs.size f cdv)).units + 1 < cLine := by have := hr.un; omega
  have hgd : (A.deeper (envOfC "Party._ask_pledge" (defScope s_Party__ask_pledge) s.heap.objs.size f cdv)).guards = some [] := hgd0
  refine ⟨_, (dss_one ds_pass), fun as n R hl hc => ?_⟩
  obtain ⟨a, f, rfl, hR⟩ := hc
  exact hR
abbrev s_Pledge_spare : Stmt := inCls (topS 45) 1
abbrev N_Pledge_spare : List Str := ["self", "number"]
theorem sc_Pledge_spare : FnScope N_Pledge_spare ["self", "number"] (defScope s_Pledge_spare) := ⟨rfl, rfl, rfl, by decide +kernel, rfl, by decide +kernel, by decide +kernel⟩
theorem fn_Pledge_spare {f : Addr} {fd : FuncData} (F : Fun K "spare" "Pledge.spare" s_Pledge_spare f fd) (B : Bn K mg C) (H_is_number_from : Has P w K mg base "is_number_from" 2 ["value", "low", "high"] c_is_number_from) (H_BadNumber : ErrC P w K mg base "BadNumber" C.BadNumber "value") (H_TooFewServed : ErrC P w K mg base "TooFewServed" C.TooFewServed "number") : FnGX P w K mg base 3 f fd ["self", "number"] (spDX K 2 (c_Pledge_spare C)) := by
  refine fndX (k := 2) (c_Pledge_spare C) F sc_Pledge_spare fun cdv A outer s H Eh hgd0 hr Y E ok tk => ?_
  have hu := hr.units
  have hu1 : (A.deeper (envOfC "Pledge.spare" (defScope s_Pledge_spare) s.heap.objs.size f cdv)).units + 65 < cLine := by have := hr.un; omega
  have hu0 : (A.deeper (envOfC "Pledge.spare" (defScope s_Pledge_spare) s.heap.objs.size f cdv)).units + 1 < cLine := by have := hr.un; omega
  have hgd : (A.deeper (envOfC "Pledge.spare" (defScope s_Pledge_spare) s.heap.objs.size f cdv)).guards = some [] := hgd0
  refine ⟨_, (dss_cons (ds_if (wt_not (wt_val (we_has H_is_number_from hgd (hr.mono (by decide)) (by rfl) (wa_cons (we_var 1) (wa_cons we_int (wa_cons (we_gint (by rfl) B.LIMIT.choose_spec) wa_nil)))))) (dss_one (ds_raise rfl tk ok H_BadNumber (hr.mono (by decide)) (by rfl) (we_var 1))) dss_nil) (dss_cons (ds_if (wt_cmp op_lt bi_B0 (we_var 1) (we_fld (we_var 0)) (nomark _)) (dss_one (ds_raise rfl tk ok H_TooFewServed (hr.mono (by decide)) (by rfl) (we_var 1))) dss_nil) (dss_one (ds_ret (we_bin op_sub bi_I0 (we_var 1) (we_fld (we_var 0))))))), fun as n R hl hc => ?_⟩
  obtain ⟨a, D, d, k, fs, rfl, hnr, hob, hD, hlk, hF, hT⟩ := hc
  have hf : FldC K D "pledge" := by
    rcases hD with rfl | rfl
    · exact B.fl_Pledge_pledge
    · exact B.fl_PledgedParty_pledge
  refine ⟨_, rfl, rfl, d, 0, 1000, rfl, hnr, _, rfl, ?_⟩
  cases h : numIn d 0 1000 with
  | false => exact ifNF (b := false) rfl ⟨_, rfl, hF h⟩
  | true =>
    obtain ⟨z, rfl, h1, h2⟩ := numIn_true h
    obtain ⟨hlt, hge⟩ := hT z rfl h1 h2
    refine ifN (b := true) rfl ⟨_, rfl, _, rfl, a, _, .int k, rfl, hob, hf, hlk, _, rfl, ?_⟩
    by_cases q : z < k
    · exact iteD q ⟨_, rfl, hlt q⟩
    · exact iteDF q ⟨_, rfl, _, rfl, a, _, .int k, rfl, hob, hf, hlk, hge (by omega)⟩
abbrev s_PledgedParty__ask_pledge : Stmt := inCls (topS 57) 1
abbrev N_PledgedParty__ask_pledge : List Str := ["self", "fewest"]
theorem sc_PledgedParty__ask_pledge : FnScope N_PledgedParty__ask_pledge ["self", "fewest"] (defScope s_PledgedParty__ask_pledge) := ⟨rfl, rfl, rfl, by decide +kernel, rfl, by decide +kernel, by decide +kernel⟩
theorem fn_PledgedParty__ask_pledge {f : Addr} {fd : FuncData} (F : Fun K "_ask_pledge" "PledgedParty._ask_pledge" s_PledgedParty__ask_pledge f fd) (B : Bn K mg C) (HM_spare : HasM P w K mg base (fun D => D = C.Pledge ∨ D = C.PledgedParty) "spare" 3 ["self", "number"] (fun _ => c_Pledge_spare C)) : FnGX P w K mg base 4 f fd ["self", "fewest"] (spDX K 2 (c_PledgedParty__ask_pledge C)) := by
  refine fndX (k := 3) (c_PledgedParty__ask_pledge C) F sc_PledgedParty__ask_pledge fun cdv A outer s H Eh hgd0 hr Y E ok tk => ?_
  have hu := hr.units
  have hu1 : (A.deeper (envOfC "PledgedParty._ask_pledge" (defScope s_PledgedParty__ask_pledge) s.heap.objs.size f cdv)).units + 65 < cLine := by have := hr.un; omega
  have hu0 : (A.deeper (envOfC "PledgedParty._ask_pledge" (defScope s_PledgedParty__ask_pledge) s.heap.objs.size f cdv)).units + 1 < cLine := by have := hr.un; omega
  have hgd : (A.deeper (envOfC "PledgedParty._ask_pledge" (defScope s_PledgedParty__ask_pledge) s.heap.objs.size f cdv)).guards = some [] := hgd0
  refine ⟨_, (dss_one (ds_expr (we_meth (pl := _) tk ok HM_spare hgd (hr.mono (by decide)) (we_var 0) (wa_cons (we_var 1) wa_nil)))), fun as n R hl hc => ?_⟩
  obtain ⟨a, f, k, fs, rfl, hob, hlk, hno, f0, f1, hE, hR⟩ := hc
  refine ⟨_, rfl, a, _, rfl, hob, .inr rfl, hno, _, rfl, rfl, a, C.PledgedParty, .int f, k, fs, rfl, rfl, hob, .inr rfl, hlk, fun q => ?_, fun z ez z0 z1 => ?_⟩
  · rw [numIn_int f0 f1] at q
    cases q
  · obtain rfl := PyData.int.inj ez
    exact ⟨hE, hR⟩
abbrev s_Party__do : Stmt := inCls (topS 56) 6
abbrev N_Party__do : List Str := ["self", "name", "value", "hall"]
theorem sc_Party__do : FnScope N_Party__do ["self", "name", "value"] (defScope s_Party__do) := ⟨rfl, rfl, rfl, by decide +kernel, rfl, by decide +kernel, by decide +kernel⟩
theorem fn_Party__do {f : Addr} {fd : FuncData} (F : Fun K "_do" "Party._do" s_Party__do f fd) (B : Bn K mg C) (H_hall_after : HasX P w K mg base "hall_after" 5 ["hall", "name", "value"] (c_hall_after C)) (HM__ask_pledge : HasM P w K mg base (fun D => D = C.Party ∨ D = C.PledgedParty) "_ask_pledge" 4 ["self", "fewest"] (cm__ask_pledge C)) (HM__stand : HasM P w K mg base (fun D => D = C.Party ∨ D = C.PledgedParty) "_stand" 4 ["self", "halls", "done"] (fun _ => c_Party__stand C)) (H_fewest_served : Has P w K mg base "fewest_served" 3 ["hall"] c_fewest_served) : FnGX P w K mg base 6 f fd ["self", "name", "value"] (spDX K 3 (c_Party__do C)) := by
  refine fndX (k := 5) (c_Party__do C) F sc_Party__do fun cdv A outer s H Eh hgd0 hr Y E ok tk => ?_
  have hu := hr.units
  have hu1 : (A.deeper (envOfC "Party._do" (defScope s_Party__do) s.heap.objs.size f cdv)).units + 65 < cLine := by have := hr.un; omega
  have hu0 : (A.deeper (envOfC "Party._do" (defScope s_Party__do) s.heap.objs.size f cdv)).units + 1 < cLine := by have := hr.un; omega
  have hgd : (A.deeper (envOfC "Party._do" (defScope s_Party__do) s.heap.objs.size f cdv)).guards = some [] := hgd0
  refine ⟨_, (dss_cons (ds_if (wt_cmp op_ge bi_B0 (we_callB call_len_seq ck_len (by rfl) B.len PySem.boot_len (wa_cons (we_fld (we_var 0)) wa_nil)) (we_con (we_var 0)) (nomark _)) (dss_one (ds_raise0 rfl tk ok B.e_TooManyEdits (by rfl))) dss_nil) (dss_cons (ds_set (i := 3) sc_Party__do.nd rfl (Or.inl rfl) (xe_d (we_hasX tk ok H_hall_after hgd (hr.mono (by decide)) (by rfl) (wa_cons (we_fld (we_var 0)) (wa_cons (we_var 1) (wa_cons (we_var 2) wa_nil)))))) (dss_cons (ds_expr (we_meth (pl := _) tk ok HM__ask_pledge hgd (hr.mono (by decide)) (we_var 0) (wa_cons (we_has H_fewest_served hgd (hr.mono (by decide)) (by rfl) (wa_cons (we_var 3) wa_nil)) wa_nil))) (dss_one (ds_expr (we_meth (pl := _) tk ok HM__stand hgd (hr.mono (by decide)) (we_var 0) (wa_cons (we_bin or_addA bi_add (we_fld (we_var 0)) (we_tup (wa_cons (we_var 3) wa_nil))) (wa_cons (we_bin or_addA bi_add (we_fld (we_var 0)) (we_tup (wa_cons (we_tup (wa_cons (we_var 1) (wa_cons (we_var 2) wa_nil))) wa_nil))) wa_nil)))))))), fun as n R hl hc => ?_⟩
  obtain ⟨a, D, o, p, nm, d, rfl, hob, hK, hk, h4, hnr, hT, hL⟩ := hc
  obtain ⟨u, hu⟩ := B.conk hK.pc
  refine ⟨_, rfl, a, _, _, rfl, hob, B.flk__done hK.pc, rfl, _, _, rfl, rfl, _, rfl, a, _, 60, u, rfl, hob, B.clk hK.pc, hu, fx_no rfl rfl, _, rfl, ?_⟩
  by_cases c : 60 ≤ p.done.length
  · exact iteD (by omega) (hT c)
  · have hL := hL (by omega)
    refine iteDF (by omega) ?_
    refine ⟨_, rfl, a, _, _, rfl, hob, B.flk_hall hK.pc, rfl, _, rfl, _, rfl, rfl, p.h, nm, d, rfl, hk.hh, hnr, h4, ?_⟩
    cases e : aft nm d p.h with
    | inl b => rw [e] at hL; exact hL
    | inr h =>
      rw [e] at hL
      obtain ⟨hE, hR⟩ := hL
      have hh := aft_ok hk.hh e
      refine ⟨_, rfl, a, _, rfl, hob, hK.pc, fx_no rfl rfl, _, rfl, rfl, h.1, h.2, rfl, hh.ok, fun f0 hf0 => ⟨rfl, ?_⟩⟩
      have hfb := few_nn2 hf0 hh.ok.f2 hh.ok.p2
      have key : ∀ (G : PyData → Wo → Prop), (okP o f0 → G .none n) → (cm__ask_pledge C D [.dat (refD a), .dat (.int f0)] n G fun ex n2 => E ex n2) := fun G hG => by
        have hK2 := hK
        rcases hK2 with ⟨rfl, rfl⟩ | ⟨rfl, ho⟩
        · exact .inl ⟨rfl, a, f0, rfl, hG fun k q => (nomatch q)⟩
        · cases o with
          | none => exact absurd rfl ho
          | some k =>
            refine .inr ⟨rfl, a, f0, k, _, rfl, hob, rfl, fx_no rfl rfl, hfb.1, by omega, fun q => hE f0 hf0 fun q2 => ?_, fun q => hG fun k2 q2 => ?_⟩
            · have := q2 k rfl
              omega
            · cases q2
              exact q
      refine key _ fun hp => ?_
      refine ⟨_, rfl, a, _, rfl, hob, hK.pc, fx_no rfl rfl, _, rfl, a, _, _, rfl, hob, B.flk__halls hK.pc, rfl, ?_⟩
      have l1 : p.hs.length + 1 ≤ 1000 := by have := hk.len; have := hk.few; omega
      have l2 : p.done.length + 1 ≤ 1000 := by have := hk.few; omega
      refine ⟨_, rfl, by show 1 ≤ sizeLine; decide, line1000 (by rw [List.length_map]; exact l1), ?_⟩
      refine ⟨_, rfl, a, _, _, rfl, hob, B.flk__done hK.pc, rfl, _, rfl, _, rfl, by show 2 ≤ sizeLine; decide, by show 1 ≤ sizeLine; decide, line1000 l2, ?_⟩
      exact ⟨rfl, a, D, o, p.busy, h, p.hs ++ [h], p.done ++ [PyData.tuple [.str nm, d]], _, by rw [List.map_append]; rfl, hob, hK.pc, .inr ⟨p, rfl, rfl⟩, by simp, hh, fun m f hm hf => hR m f hm hf (by rw [hf.uniq hf0]; exact hp)⟩
abbrev s_Party__edit : Stmt := inCls (topS 56) 7
abbrev N_Party__edit : List Str := ["self", "name", "value"]
theorem sc_Party__edit : FnScope N_Party__edit ["self", "name", "value"] (defScope s_Party__edit) := ⟨rfl, rfl, rfl, by decide +kernel, rfl, by decide +kernel, by decide +kernel⟩
theorem fn_Party__edit {f : Addr} {fd : FuncData} (F : Fun K "_edit" "Party._edit" s_Party__edit f fd) (B : Bn K mg C) (HM__ask_idle : HasM P w K mg base (fun D => D = C.Party ∨ D = C.PledgedParty) "_ask_idle" 3 ["self"] (fun _ => c_Party__ask_idle C)) (HM__do : HasM P w K mg base (fun D => D = C.Party ∨ D = C.PledgedParty) "_do" 6 ["self", "name", "value"] (fun _ => c_Party__do C)) : FnGX P w K mg base 7 f fd ["self", "name", "value"] (spDX K 3 (c_Party__edit C)) := by
  refine fndX (k := 6) (c_Party__edit C) F sc_Party__edit fun cdv A outer s H Eh hgd0 hr Y E ok tk => ?_
  have hu := hr.units
  have hu1 : (A.deeper (envOfC "Party._edit" (defScope s_Party__edit) s.heap.objs.size f cdv)).units + 65 < cLine := by have := hr.un; omega
  have hu0 : (A.deeper (envOfC "Party._edit" (defScope s_Party__edit) s.heap.objs.size f cdv)).units + 1 < cLine := by have := hr.un; omega
  have hgd : (A.deeper (envOfC "Party._edit" (defScope s_Party__edit) s.heap.objs.size f cdv)).guards = some [] := hgd0
  refine ⟨_, (dss_cons (ds_expr (we_meth0 (pl := _) tk ok HM__ask_idle hgd (hr.mono (by decide)) (we_var 0))) (dss_cons (ds_expr (we_meth (pl := _) tk ok HM__do hgd (hr.mono (by decide)) (we_var 0) (wa_cons (we_var 1) (wa_cons (we_var 2) wa_nil)))) (dss_one (ds_ret (we_callB call_len_seq ck_len (by rfl) B.len PySem.boot_len (wa_cons (we_fld (we_var 0)) wa_nil)))))), fun as n R hl hc => ?_⟩
  obtain ⟨a, D, o, p, nm, d, rfl, hob, hK, hk, h4, hnr, hB, hD⟩ := hc
  refine ⟨_, rfl, a, _, rfl, hob, hK.pc, fx_no rfl rfl, rfl, a, D, o, p, rfl, hob, hK, fun q => ?_, hB⟩
  obtain ⟨hT, hL⟩ := hD q
  refine ⟨_, rfl, a, _, rfl, hob, hK.pc, fx_no rfl rfl, _, rfl, _, rfl, rfl, a, D, o, p, nm, d, rfl, hob, hK, hk, h4, hnr, hT, fun c => ?_⟩
  have hL := hL c
  cases e : aft nm d p.h with
  | inl b => rw [e] at hL; exact hL
  | inr h =>
    rw [e] at hL
    refine ⟨hL.1, fun m f hm hf hp => ?_⟩
    refine ⟨_, rfl, a, _, _, rfl, Wo.put_at, B.flk__done hK.pc, rfl, _, _, rfl, rfl, ?_⟩
    have hR := hL.2 m f hm hf hp
    show R (.int ((p.done ++ [PyData.tuple [.str nm, d]]).length : Nat)) _
    rw [show (((p.done ++ [PyData.tuple [.str nm, d]]).length : Nat) : Int) = p.done.length + 1 by simp]
    exact hR
abbrev s_Party_take : Stmt := inCls (topS 56) 11
abbrev N_Party_take : List Str := ["self", "pair"]
theorem sc_Party_take : FnScope N_Party_take ["self", "pair"] (defScope s_Party_take) := ⟨rfl, rfl, rfl, by decide +kernel, rfl, by decide +kernel, by decide +kernel⟩
theorem fn_Party_take {f : Addr} {fd : FuncData} (F : Fun K "take" "Party.take" s_Party_take f fd) (B : Bn K mg C) (HM__edit : HasM P w K mg base (fun D => D = C.Party ∨ D = C.PledgedParty) "_edit" 7 ["self", "name", "value"] (fun _ => c_Party__edit C)) : FnGX P w K mg base 8 f fd ["self", "pair"] (spDX K 2 (c_Party_take C)) := by
  refine fndX (k := 7) (c_Party_take C) F sc_Party_take fun cdv A outer s H Eh hgd0 hr Y E ok tk => ?_
  have hu := hr.units
  have hu1 : (A.deeper (envOfC "Party.take" (defScope s_Party_take) s.heap.objs.size f cdv)).units + 65 < cLine := by have := hr.un; omega
  have hu0 : (A.deeper (envOfC "Party.take" (defScope s_Party_take) s.heap.objs.size f cdv)).units + 1 < cLine := by have := hr.un; omega
  have hgd : (A.deeper (envOfC "Party.take" (defScope s_Party_take) s.heap.objs.size f cdv)).guards = some [] := hgd0
  refine ⟨_, (dss_one (ds_ret (we_meth (pl := _) tk ok HM__edit hgd (hr.mono (by decide)) (we_var 0) (wa_cons we_str (wa_cons (we_var 1) wa_nil))))), fun as n R hl hc => ?_⟩
  obtain ⟨a, D, o, p, d, rfl, hob, hK, hk, hnr, hE⟩ := hc
  exact ⟨_, rfl, a, _, rfl, hob, hK.pc, fx_no rfl rfl, _, rfl, rfl, a, D, o, p, "take", d, rfl, hob, hK, hk, .inr (.inr (.inr rfl)), hnr, hE⟩
abbrev s_Party_come : Stmt := inCls (topS 56) 8
abbrev N_Party_come : List Str := ["self", "foot"]
theorem sc_Party_come : FnScope N_Party_come ["self", "foot"] (defScope s_Party_come) := ⟨rfl, rfl, rfl, by decide +kernel, rfl, by decide +kernel, by decide +kernel⟩
theorem fn_Party_come {f : Addr} {fd : FuncData} (F : Fun K "come" "Party.come" s_Party_come f fd) (B : Bn K mg C) (HM__edit : HasM P w K mg base (fun D => D = C.Party ∨ D = C.PledgedParty) "_edit" 7 ["self", "name", "value"] (fun _ => c_Party__edit C)) : FnGX P w K mg base 8 f fd ["self", "foot"] (spDX K 2 (c_Party_come C)) := by
  refine fndX (k := 7) (c_Party_come C) F sc_Party_come fun cdv A outer s H Eh hgd0 hr Y E ok tk => ?_
  have hu := hr.units
  have hu1 : (A.deeper (envOfC "Party.come" (defScope s_Party_come) s.heap.objs.size f cdv)).units + 65 < cLine := by have := hr.un; omega
  have hu0 : (A.deeper (envOfC "Party.come" (defScope s_Party_come) s.heap.objs.size f cdv)).units + 1 < cLine := by have := hr.un; omega
  have hgd : (A.deeper (envOfC "Party.come" (defScope s_Party_come) s.heap.objs.size f cdv)).guards = some [] := hgd0
  refine ⟨_, (dss_one (ds_ret (we_meth (pl := _) tk ok HM__edit hgd (hr.mono (by decide)) (we_var 0) (wa_cons we_str (wa_cons (we_var 1) wa_nil))))), fun as n R hl hc => ?_⟩
  obtain ⟨a, D, o, p, d, rfl, hob, hK, hk, hnr, hE⟩ := hc
  exact ⟨_, rfl, a, _, rfl, hob, hK.pc, fx_no rfl rfl, _, rfl, rfl, a, D, o, p, "come", d, rfl, hob, hK, hk, .inl rfl, hnr, hE⟩
abbrev s_Party_leave : Stmt := inCls (topS 56) 9
abbrev N_Party_leave : List Str := ["self", "guest"]
theorem sc_Party_leave : FnScope N_Party_leave ["self", "guest"] (defScope s_Party_leave) := ⟨rfl, rfl, rfl, by decide +kernel, rfl, by decide +kernel, by decide +kernel⟩
theorem fn_Party_leave {f : Addr} {fd : FuncData} (F : Fun K "leave" "Party.leave" s_Party_leave f fd) (B : Bn K mg C) (HM__edit : HasM P w K mg base (fun D => D = C.Party ∨ D = C.PledgedParty) "_edit" 7 ["self", "name", "value"] (fun _ => c_Party__edit C)) : FnGX P w K mg base 8 f fd ["self", "guest"] (spDX K 2 (c_Party_leave C)) := by
  refine fndX (k := 7) (c_Party_leave C) F sc_Party_leave fun cdv A outer s H Eh hgd0 hr Y E ok tk => ?_
  have hu := hr.units
  have hu1 : (A.deeper (envOfC "Party.leave" (defScope s_Party_leave) s.heap.objs.size f cdv)).units + 65 < cLine := by have := hr.un; omega
  have hu0 : (A.deeper (envOfC "Party.leave" (defScope s_Party_leave) s.heap.objs.size f cdv)).units + 1 < cLine := by have := hr.un; omega
  have hgd : (A.deeper (envOfC "Party.leave" (defScope s_Party_leave) s.heap.objs.size f cdv)).guards = some [] := hgd0
  refine ⟨_, (dss_one (ds_ret (we_meth (pl := _) tk ok HM__edit hgd (hr.mono (by decide)) (we_var 0) (wa_cons we_str (wa_cons (we_var 1) wa_nil))))), fun as n R hl hc => ?_⟩
  obtain ⟨a, D, o, p, d, rfl, hob, hK, hk, hnr, hE⟩ := hc
  exact ⟨_, rfl, a, _, rfl, hob, hK.pc, fx_no rfl rfl, _, rfl, rfl, a, D, o, p, "leave", d, rfl, hob, hK, hk, .inr (.inl rfl), hnr, hE⟩
abbrev s_Party_put : Stmt := inCls (topS 56) 10
abbrev N_Party_put : List Str := ["self", "size"]
theorem sc_Party_put : FnScope N_Party_put ["self", "size"] (defScope s_Party_put) := ⟨rfl, rfl, rfl, by decide +kernel, rfl, by decide +kernel, by decide +kernel⟩
theorem fn_Party_put {f : Addr} {fd : FuncData} (F : Fun K "put" "Party.put" s_Party_put f fd) (B : Bn K mg C) (HM__edit : HasM P w K mg base (fun D => D = C.Party ∨ D = C.PledgedParty) "_edit" 7 ["self", "name", "value"] (fun _ => c_Party__edit C)) : FnGX P w K mg base 8 f fd ["self", "size"] (spDX K 2 (c_Party_put C)) := by
  refine fndX (k := 7) (c_Party_put C) F sc_Party_put fun cdv A outer s H Eh hgd0 hr Y E ok tk => ?_
  have hu := hr.units
  have hu1 : (A.deeper (envOfC "Party.put" (defScope s_Party_put) s.heap.objs.size f cdv)).units + 65 < cLine := by have := hr.un; omega
  have hu0 : (A.deeper (envOfC "Party.put" (defScope s_Party_put) s.heap.objs.size f cdv)).units + 1 < cLine := by have := hr.un; omega
  have hgd : (A.deeper (envOfC "Party.put" (defScope s_Party_put) s.heap.objs.size f cdv)).guards = some [] := hgd0
  refine ⟨_, (dss_one (ds_ret (we_meth (pl := _) tk ok HM__edit hgd (hr.mono (by decide)) (we_var 0) (wa_cons we_str (wa_cons (we_var 1) wa_nil))))), fun as n R hl hc => ?_⟩
  obtain ⟨a, D, o, p, d, rfl, hob, hK, hk, hnr, hE⟩ := hc
  exact ⟨_, rfl, a, _, rfl, hob, hK.pc, fx_no rfl rfl, _, rfl, rfl, a, D, o, p, "put", d, rfl, hob, hK, hk, .inr (.inr (.inl rfl)), hnr, hE⟩
abbrev s__law_do : Stmt := topS 64
abbrev N__law_do : List Str := ["table", "edit"]
theorem sc__law_do : FnScope N__law_do ["table", "edit"] (defScope s__law_do) := ⟨rfl, rfl, rfl, by decide +kernel, rfl, by decide +kernel, by decide +kernel⟩
theorem fn__law_do {f : Addr} {fd : FuncData} (F : Fun K "_law_do" "_law_do" s__law_do f fd) (B : Bn K mg C) (HM_take : HasM P w K mg base (fun D => D = C.Party ∨ D = C.PledgedParty) "take" 8 ["self", "pair"] (fun _ => c_Party_take C)) (HM_come : HasM P w K mg base (fun D => D = C.Party ∨ D = C.PledgedParty) "come" 8 ["self", "foot"] (fun _ => c_Party_come C)) (HM_leave : HasM P w K mg base (fun D => D = C.Party ∨ D = C.PledgedParty) "leave" 8 ["self", "guest"] (fun _ => c_Party_leave C)) (HM_put : HasM P w K mg base (fun D => D = C.Party ∨ D = C.PledgedParty) "put" 8 ["self", "size"] (fun _ => c_Party_put C)) : FnG P w K mg base 9 f fd ["table", "edit"] (spD K 2 (c__law_do C)) := by
  refine fnd (k := 8) (c__law_do C) F sc__law_do fun cdv A outer s H hgd0 hr Y => ?_
  have hu := hr.units
  have hu1 : (A.deeper (envOfC "_law_do" (defScope s__law_do) s.heap.objs.size f cdv)).units + 65 < cLine := by have := hr.un; omega
  have hu0 : (A.deeper (envOfC "_law_do" (defScope s__law_do) s.heap.objs.size f cdv)).units + 1 < cLine := by have := hr.un; omega
  have hgd : (A.deeper (envOfC "_law_do" (defScope s__law_do) s.heap.objs.size f cdv)).guards = some [] := hgd0
  refine ⟨_, (dss_cons (ds_if (wt_cmp (or_eqA hu) bi_eqA (we_ix (we_var 1) we_int (fun _ _ => rfl)) we_str (nomark _)) (dss_one (ds_ret (we_meth (pl := _) takes0 wok0 HM_come hgd (hr.mono (by decide)) (we_var 0) (wa_cons (we_ix (we_var 1) we_int (fun _ _ => rfl)) wa_nil)))) dss_nil) (dss_cons (ds_if (wt_cmp (or_eqA hu) bi_eqA (we_ix (we_var 1) we_int (fun _ _ => rfl)) we_str (nomark _)) (dss_one (ds_ret (we_meth (pl := _) takes0 wok0 HM_leave hgd (hr.mono (by decide)) (we_var 0) (wa_cons (we_ix (we_var 1) we_int (fun _ _ => rfl)) wa_nil)))) dss_nil) (dss_cons (ds_if (wt_cmp (or_eqA hu) bi_eqA (we_ix (we_var 1) we_int (fun _ _ => rfl)) we_str (nomark _)) (dss_one (ds_ret (we_meth (pl := _) takes0 wok0 HM_put hgd (hr.mono (by decide)) (we_var 0) (wa_cons (we_ix (we_var 1) we_int (fun _ _ => rfl)) wa_nil)))) dss_nil) (dss_one (ds_ret (we_meth (pl := _) takes0 wok0 HM_take hgd (hr.mono (by decide)) (we_var 0) (wa_cons (we_ix (we_var 1) we_int (fun _ _ => rfl)) wa_nil))))))), fun as n R hl hc => ?_⟩
  obtain ⟨a, D, o, p, nm, d, h, rfl, hob, hK, hk, hb, hl, h4, hnr, e, hP, hR⟩ := hc
  rcases h4 with rfl | rfl | rfl | rfl
  · refine ⟨_, rfl, 0, _, rfl, rfl, _, rfl, iteT ?_⟩
    exact ⟨_, rfl, a, _, rfl, hob, hK.pc, fx_no rfl rfl, _, rfl, 1, _, rfl, rfl, rfl, a, D, o, p, d, rfl, hob, hK, hk, hnr, fun q => absurd (hb.symm.trans q) (by decide), fun _ => ⟨fun c => absurd c (by omega), fun _ => by rw [e]; exact ⟨fun f hf hn => absurd (hP f hf) hn, fun m f hm hf _ => hR m f hm hf⟩⟩⟩
  · refine ⟨_, rfl, 0, _, rfl, rfl, _, rfl, iteF ?_⟩
    refine ⟨_, rfl, 0, _, rfl, rfl, _, rfl, iteT ?_⟩
    exact ⟨_, rfl, a, _, rfl, hob, hK.pc, fx_no rfl rfl, _, rfl, 1, _, rfl, rfl, rfl, a, D, o, p, d, rfl, hob, hK, hk, hnr, fun q => absurd (hb.symm.trans q) (by decide), fun _ => ⟨fun c => absurd c (by omega), fun _ => by rw [e]; exact ⟨fun f hf hn => absurd (hP f hf) hn, fun m f hm hf _ => hR m f hm hf⟩⟩⟩
  · refine ⟨_, rfl, 0, _, rfl, rfl, _, rfl, iteF ?_⟩
    refine ⟨_, rfl, 0, _, rfl, rfl, _, rfl, iteF ?_⟩
    refine ⟨_, rfl, 0, _, rfl, rfl, _, rfl, iteT ?_⟩
    exact ⟨_, rfl, a, _, rfl, hob, hK.pc, fx_no rfl rfl, _, rfl, 1, _, rfl, rfl, rfl, a, D, o, p, d, rfl, hob, hK, hk, hnr, fun q => absurd (hb.symm.trans q) (by decide), fun _ => ⟨fun c => absurd c (by omega), fun _ => by rw [e]; exact ⟨fun f hf hn => absurd (hP f hf) hn, fun m f hm hf _ => hR m f hm hf⟩⟩⟩
  · refine ⟨_, rfl, 0, _, rfl, rfl, _, rfl, iteF ?_⟩
    refine ⟨_, rfl, 0, _, rfl, rfl, _, rfl, iteF ?_⟩
    refine ⟨_, rfl, 0, _, rfl, rfl, _, rfl, iteF ?_⟩
    exact ⟨_, rfl, a, _, rfl, hob, hK.pc, fx_no rfl rfl, _, rfl, 1, _, rfl, rfl, rfl, a, D, o, p, d, rfl, hob, hK, hk, hnr, fun q => absurd (hb.symm.trans q) (by decide), fun _ => ⟨fun c => absurd c (by omega), fun _ => by rw [e]; exact ⟨fun f hf hn => absurd (hP f hf) hn, fun m f hm hf _ => hR m f hm hf⟩⟩⟩
abbrev s_Party_undo : Stmt := inCls (topS 56) 12
abbrev N_Party_undo : List Str := ["self"]
theorem sc_Party_undo : FnScope N_Party_undo ["self"] (defScope s_Party_undo) := ⟨rfl, rfl, rfl, by decide +kernel, rfl, by decide +kernel, by decide +kernel⟩
theorem fn_Party_undo {f : Addr} {fd : FuncData} (F : Fun K "undo" "Party.undo" s_Party_undo f fd) (B : Bn K mg C) (HM__ask_idle : HasM P w K mg base (fun D => D = C.Party ∨ D = C.PledgedParty) "_ask_idle" 3 ["self"] (fun _ => c_Party__ask_idle C)) (HM__stand : HasM P w K mg base (fun D => D = C.Party ∨ D = C.PledgedParty) "_stand" 4 ["self", "halls", "done"] (fun _ => c_Party__stand C)) : FnGX P w K mg base 5 f fd ["self"] (spDX K 1 (c_Party_undo C)) := by
  refine fndX (k := 4) (c_Party_undo C) F sc_Party_undo fun cdv A outer s H Eh hgd0 hr Y E ok tk => ?_
  have hu := hr.units
  have hu1 : (A.deeper (envOfC "Party.undo" (defScope s_Party_undo) s.heap.objs.size f cdv)).units + 65 < cLine := by have := hr.un; omega
  have hu0 : (A.deeper (envOfC "Party.undo" (defScope s_Party_undo) s.heap.objs.size f cdv)).units + 1 < cLine := by have := hr.un; omega
  have hgd : (A.deeper (envOfC "Party.undo" (defScope s_Party_undo) s.heap.objs.size f cdv)).guards = some [] := hgd0
  refine ⟨_, (dss_cons (ds_expr (we_meth0 (pl := _) tk ok HM__ask_idle hgd (hr.mono (by decide)) (we_var 0))) (dss_cons (ds_if (wt_not (wt_tru (we_fld (we_var 0)))) (dss_one (ds_raise0 rfl tk ok B.e_NothingToUndo (by rfl))) dss_nil) (dss_cons (ds_expr (we_meth (pl := _) tk ok HM__stand hgd (hr.mono (by decide)) (we_var 0) (wa_cons (we_slice (we_fld (we_var 0)) wo_none (wo_some (we_neg we_int))) (wa_cons (we_slice (we_fld (we_var 0)) wo_none (wo_some (we_neg we_int))) wa_nil)))) (dss_one (ds_ret (we_callB call_len_seq ck_len (by rfl) B.len PySem.boot_len (wa_cons (we_fld (we_var 0)) wa_nil))))))), fun as n R hl hc => ?_⟩
  obtain ⟨a, D, o, p, rfl, hob, hK, hk, hB, hI⟩ := hc
  refine ⟨_, rfl, a, _, rfl, hob, hK.pc, fx_no rfl rfl, rfl, a, D, o, p, rfl, hob, hK, fun q => ?_, hB⟩
  obtain ⟨hE, hR⟩ := hI q
  refine ⟨_, rfl, a, _, _, rfl, hob, B.flk__done hK.pc, rfl, ?_⟩
  cases e : p.done with
  | nil => exact iteT (B := False) (hE e)
  | cons d ds =>
    have hne : p.done ≠ [] := by rw [e]; nofun
    refine iteF (A := False) ?_
    obtain ⟨h', hl, hh⟩ := back_last hk hne
    refine ⟨_, rfl, a, _, rfl, hob, hK.pc, fx_no rfl rfl, _, rfl, a, _, _, rfl, hob, B.flk__halls hK.pc, rfl, -1, rfl, ?_⟩
    refine ⟨_, rfl, a, _, _, rfl, hob, B.flk__done hK.pc, rfl, -1, rfl, ?_⟩
    refine ⟨rfl, a, D, o, p.busy, h', p.hs.dropLast, p.done.dropLast, _, ?_, hob, hK.pc, .inr ⟨p, rfl, rfl⟩, hl, hh, fun m f hm hf => ?_⟩
    · show [_, Dv.dat (.tuple (cutG (p.hs.map halD) none (some (-1)))), Dv.dat (.tuple (cutG p.done none (some (-1))))] = _
      rw [cut_init, cut_init, List.map_dropLast]
    · refine ⟨_, rfl, a, _, _, rfl, Wo.put_at, B.flk__done hK.pc, rfl, _, _, rfl, rfl, ?_⟩
      have hR := hR hne h' m f hl hm hf
      show R (.int (p.done.dropLast.length : Nat)) _
      have l1 := List.length_pos_iff.mpr hne
      rw [List.length_dropLast, show (((p.done.length - 1 : Nat)) : Int) = p.done.length - 1 by omega]
      exact hR
abbrev s__law_edits_right : Stmt := topS 71
abbrev N__law_edits_right : List Str := ["table", "hall", "edit", "found", "e"]
theorem sc__law_edits_right : FnScope N__law_edits_right ["table", "hall"] (defScope s__law_edits_right) := ⟨rfl, rfl, rfl, by decide +kernel, rfl, by decide +kernel, by decide +kernel⟩
theorem fn__law_edits_right {f : Addr} {fd : FuncData} (F : Fun K "_law_edits_right" "_law_edits_right" s__law_edits_right f fd) (B : Bn K mg C) (H__law_do : Has P w K mg base "_law_do" 9 ["table", "edit"] (c__law_do C)) (HMK_state : HasMK P w K mg base (fun D => D = C.Party ∨ D = C.PledgedParty) "state" "version" 4 ["self", "version"] (fun _ => c_Party_state C)) (HM_undo : HasM P w K mg base (fun D => D = C.Party ∨ D = C.PledgedParty) "undo" 5 ["self"] (fun _ => c_Party_undo C)) : FnG P w K mg base 10 f fd ["table", "hall"] (spD K 2 (c__law_edits_right C)) := by
  refine fnd (k := 9) (c__law_edits_right C) F sc__law_edits_right fun cdv A outer s H hgd0 hr Y => ?_
  have hu := hr.units
  have hu1 : (A.deeper (envOfC "_law_edits_right" (defScope s__law_edits_right) s.heap.objs.size f cdv)).units + 65 < cLine := by have := hr.un; omega
  have hu0 : (A.deeper (envOfC "_law_edits_right" (defScope s__law_edits_right) s.heap.objs.size f cdv)).units + 1 < cLine := by have := hr.un; omega
  have hgd : (A.deeper (envOfC "_law_edits_right" (defScope s__law_edits_right) s.heap.objs.size f cdv)).guards = some [] := hgd0
  refine ⟨_, (dss_cut (ds_set (i := 2) sc__law_edits_right.nd rfl (Or.inl rfl) (xe_d (we_if (wt_cmp op_gt bi_B0 (we_callB call_len_seq ck_len (by rfl) B.len PySem.boot_len (wa_cons (we_ix (we_var 1) we_int (fun _ _ => rfl)) wa_nil)) we_int (nomark _)) (we_tup (wa_cons we_str (wa_cons we_int wa_nil))) (we_tup (wa_cons we_str (wa_cons we_int wa_nil)))))) (dss_cons (ds_set (i := 3) sc__law_edits_right.nd rfl (Or.inl rfl) (xe_d we_bl)) (dss_cons (ds_if (wt_w (ww_or (wt_cmp (or_neA hu) bi_neA (we_has H__law_do hgd (hr.mono (by decide)) (by rfl) (wa_cons (we_var 0) (wa_cons (we_var 2) wa_nil))) we_int (nomark _)) (ww_or (wt_cmp (or_neA hu) bi_neA (we_methK0 (pl := _) takes0 wok0 HMK_state hgd (hr.mono (by decide)) (we_var 0) we_int) (we_var 1) (nomark _)) (ww_or1 (wt_cmp (or_neA hu) bi_neA (we_meth0 (pl := _) takes0 wok0 HM_undo hgd (hr.mono (by decide)) (we_var 0)) we_int (nomark _)))))) (dss_one (ds_ret we_bl)) dss_nil) (dss_cons (ds_try_as (i := 4) takes0 wok0 rfl rfl sc__law_edits_right.nd rfl rfl (names_own (by rfl) B.g_NothingToUndo) (fun Y1 W1 pn xe dw1 tk1 ok1 => (dss_one (ds_set (i := 3) sc__law_edits_right.nd rfl (Or.inl rfl) (xe_d (we_cmp op_lt bi_B0 (we_meth0 (pl := _) tk1 ok1 HM_undo hgd (hr.mono (by decide)) (we_var 0)) we_int (nomark _)))))) (fun a oe cls d pn hz hf => (dss_one (ds_set (i := 3) sc__law_edits_right.nd rfl (Or.inl rfl) (xe_d we_bl))))) (dss_one (ds_ret (we_var 3))))))), fun as n R hl hc => ?_⟩
  obtain ⟨a, p, rfl, hob, hk, hb, hd, hs, hR⟩ := hc
  have K0 : Kd C C.Party none := .inl ⟨rfl, rfl⟩
  have e1 : (p.h.1.map PyData.int).length = p.h.1.length := List.length_map ..
  have f1 := hk.hh.ok.f1
  refine ⟨fun ρ m => m = n ∧ ∃ (nm : Str) (v : Int) (h : Hl), four nm ∧ aft nm (.int v) p.h = .inr h ∧ ρ = [some (.dat (refD a)), some (.dat (halD p.h)), some (.dat (.tuple [.str nm, .int v])), none, none], ?_, ?_⟩
  · refine ⟨_, rfl, 0, _, rfl, rfl, _, _, rfl, rfl, _, rfl, ?_⟩
    rw [e1]
    by_cases c : p.h.1.length > 1
    · refine iteD (by omega) ⟨by show 2 ≤ sizeLine; decide, rfl, "leave", 0, (p.h.1.take 0 ++ p.h.1.drop 1, p.h.2), .inr (.inl rfl), ?_, rfl⟩
      rw [aft_leave]
      exact (if_pos (numIn_int (by omega) (by omega))).trans (if_neg (by omega))
    · refine iteDF (by omega) ⟨by show 2 ≤ sizeLine; decide, rfl, "come", 7, (p.h.1 ++ [7], p.h.2), .inl rfl, ?_, rfl⟩
      rw [aft_come]
      exact (if_pos rfl).trans (if_neg (by omega))
  rintro ρ m ⟨rfl, nm, v, h, h4, ha, rfl⟩
  have hh' := aft_ok hk.hh ha
  refine ⟨_, rfl, _, rfl, rfl, a, C.Party, none, p, nm, .int v, h, rfl, hob, K0, hk, hb, by rw [hd]; decide, h4, rfl, ha, (fun f _ k e => nomatch e), fun m' f' hm' hf' => ?_⟩
  have pk' : (p.next h m' f' (.tuple [.str nm, .int v])).Ok := hk.next hh' hm' hf' (by rw [hd]; decide)
  have hob1 : (m.put a ⟨C.Party, (p.next h m' f' (.tuple [.str nm, .int v])).fs ++ xt none⟩).ob a = some ⟨C.Party, (p.next h m' f' (.tuple [.str nm, .int v])).fs ++ xt none⟩ := Wo.put_at
  have hn1 : (m.put a ⟨C.Party, (p.next h m' f' (.tuple [.str nm, .int v])).fs ++ xt none⟩).n = m.n := rfl
  have hhs : (p.next h m' f' (.tuple [.str nm, .int v])).hs = [p.h, h] := by show p.hs ++ [h] = _; rw [hs]; rfl
  have hdn : (p.next h m' f' (.tuple [.str nm, .int v])).done = [.tuple [.str nm, .int v]] := by show p.done ++ [_] = _; rw [hd]; rfl
  have hbz : (p.next h m' f' (.tuple [.str nm, .int v])).busy = false := hb
  generalize m.put a ⟨C.Party, (p.next h m' f' (.tuple [.str nm, .int v])).fs ++ xt none⟩ = n1 at hob1 hn1 ⊢
  generalize p.next h m' f' (.tuple [.str nm, .int v]) = p1 at pk' hob1 hhs hdn hbz
  refine ⟨rfl, rfl, sh_int _, sh_int _, _, rfl, neI (by rw [hd]; rfl) ?_⟩
  refine ⟨_, rfl, a, _, rfl, hob1, K0.pc, fx_no rfl rfl, rfl, a, C.Party, none, p1, .int 0, rfl, hob1, K0, pk', rfl, fun e => (by cases e), fun _ e => ?_, fun i h2 e1 e2 => ?_⟩
  · rw [numIn_int (by decide) (by omega)] at e
    cases e
  obtain rfl : i = 0 := by injection e1 with e1; omega
  rw [hhs] at e2
  obtain rfl : p.h = h2 := Option.some.inj e2
  refine ⟨_, rfl, rfl, rfl, sh_hall _ _, sh_hall _ _, _, rfl, ifF (by show (!PyData.eqv (halD p.h) (halD p.h)) = false; rw [show PyData.eqv (halD p.h) (halD p.h) = true from eqv_hall _ _]; rfl) ?_⟩
  refine ⟨_, rfl, a, _, rfl, hob1, K0.pc, fx_no rfl rfl, rfl, a, C.Party, none, p1, rfl, hob1, K0, pk', fun q => absurd (hbz.symm.trans q) (by decide), fun _ => ⟨fun e => (by rw [hdn] at e; cases e), fun _ h2 m2 f2 e3 hm2 hf2 => ?_⟩⟩
  rw [hhs] at e3
  obtain rfl : p.h = h2 := Option.some.inj e3
  obtain rfl := hm2.uniq hk.mo
  obtain rfl := hf2.uniq hk.fe
  have hpp : p1.back p.h p.m p.f = p := by
    show Pt.mk p1.busy p.h p.m p.f p1.hs.dropLast p1.done.dropLast = p
    rw [hbz, hhs, hdn]
    show Pt.mk false p.h p.m p.f [p.h] [] = p
    rw [← hb, ← hs, ← hd]
  have hob2 : (n1.put a ⟨C.Party, (p1.back p.h p.m p.f).fs ++ xt none⟩).ob a = some ⟨C.Party, p.fs ++ xt none⟩ := by rw [hpp]; exact Wo.put_at
  have hn2 : (n1.put a ⟨C.Party, (p1.back p.h p.m p.f).fs ++ xt none⟩).n = m.n := hn1
  generalize n1.put a ⟨C.Party, (p1.back p.h p.m p.f).fs ++ xt none⟩ = n2 at hob2 hn2 ⊢
  refine ⟨rfl, rfl, sh_int _, sh_int _, _, rfl, neI (by rw [hdn]; rfl) ?_⟩
  refine ⟨_, rfl, a, _, rfl, hob2, K0.pc, fx_no rfl rfl, rfl, a, C.Party, none, p, rfl, hob2, K0, hk, fun q => absurd (hb.symm.trans q) (by decide), fun _ => ⟨fun _ => ?_, fun q => absurd hd q⟩⟩
  refine ⟨true, B.m_NothingToUndo_NothingToUndo, fun _ b dd => ?_, fun q => Bool.noConfusion q⟩
  exact ⟨_, rfl, hR _ hn2 hob2⟩
/-- a def of the module with any promise -/
def HasS (P : Program) (w : World) (K : PySem.W.Frag) (mg : Str → Option Value) (base : Heap) (x : Str) (k : Nat) (ps : List Str) (sp : Sp) : Prop :=
  ∃ f fd, mg x = some (.ref f) ∧ PySem.W.keepIn K (.ref f) = true ∧ Binds K fd ps [] ∧ FnG P w K mg base k f fd ps sp
theorem pe_hasS {X : Cx} {k : Nat} {ps : List Str} {sp : Sp} {x : Str} {p pos : Pos} {e : Expr} {es : List Expr} {t : TA} (h : HasS X.prog X.w X.K X.mg X.base x k ps sp) (hgd : X.A.guards = some []) (hr : Room k X.A) (hg : Gl X x)
    (ha : PA X (e :: es) t) (hdb : (x == ("__debug__" : Str)) = false := by decide) (he : starEach (e :: es) X.env = (false, eval e X.env) :: starEach es X.env := by rfl) (hpl : (backTo pos (starEach es X.env)).any (·.1) = false := by rfl) :
    PE X (.Call (.Name x p) (e :: es) [] pos) (fun σ H Q => t σ H fun vs H1 => sp vs H1 Q E0) := by
  obtain ⟨f, fd, h1, h2, h3, h4⟩ := h
  exact pe_callg h4 hgd hr hg h1 h2 h3 ha hdb he hpl
theorem spDeckA_ok {K : PySem.W.Frag} (a : Addr) (ns : List Int) (H : Hp) (Q : VK) (hS : SqL K H a (ns.map V.int)) (hl : ns.length ≤ 63)
    (k : ∀ (H' : Hp) (δ : DkS) (p : Addr), Same H H' → IsDk false δ p → δ.at0 H' 0 → (∀ b, b ∈ δ.own → H' b ≠ none) → Q (.ref p) H') : spDeckA K [.ref a] H Q E0 :=
  ⟨a, ns, rfl, hS, hl, fun H' p q s _ _ hat => k H' (dkA p q) p s ⟨q, rfl⟩ hat fun b hb => by
    obtain ⟨cells, h1, h2, _⟩ := hat
    simp only [dkA, List.mem_cons, List.not_mem_nil, or_false] at hb
    rcases hb with rfl | rfl
    · rw [h1]; nofun
    · rw [h2]; nofun⟩
abbrev s_law : Stmt := topS 72
abbrev N_law : List Str := ["script", "deck", "turn", "feet", "pairs", "way", "value", "at", "some", "mark", "odd", "text", "due", "found"]
theorem sc_law : FnScope N_law ["script"] (defScope s_law) := ⟨rfl, rfl, rfl, by decide +kernel, rfl, by decide +kernel, by decide +kernel⟩
theorem fn_law {f : Addr} {fd : FuncData} (F : Fun K "law" "law" s_law f fd) (B : Bn K mg C) (HD : HasS P w K mg base "_law_deck" 1 ["script"] (spDeckA K)) (H__law_hall : Has P w K mg base "_law_hall" 3 ["deck", "most"] c__law_hall) (H__law_draw : Has P w K mg base "_law_draw" 1 ["deck", "many"] c__law_draw) (H__law_text : Has P w K mg base "_law_text" 1 ["feet", "pairs"] c__law_text) (H__law_due : Has P w K mg base "_law_due" 3 ["value"] c__law_due) (H__law_read : Has P w K mg base "_law_read" 9 ["value"] (c__law_read C)) (H__law_right : Has P w K mg base "_law_right" 5 ["table", "hall", "edits"] (c__law_right C)) (HM___eq__ : HasM P w K mg base (fun D => D = C.Party ∨ D = C.PledgedParty) "__eq__" 2 ["self", "other"] (fun _ => c_Party___eq__ C)) (H_Party___init__ : HasC P w K mg base "Party" C.Party 6 ["self", "hall"] (c_Party___init__ C)) (H__law_edits_right : Has P w K mg base "_law_edits_right" 10 ["table", "hall"] (c__law_edits_right C)) : FnG P w K mg base 11 f fd ["script"] (spLaw K) := by
  refine law_start (N := N_law) (k := 10) (m := 12) (kd := false) (spD0 := spDeckA) F sc_law rfl rfl spDeckA_ok fun cdv A outer s H hgd0 hr => ?_
  have hu := hr.units
  have hu1 : (A.deeper (envOfC "law" (defScope s_law) s.heap.objs.size f cdv)).units + 65 < cLine := by have := hr.un; omega
  have hu0 : (A.deeper (envOfC "law" (defScope s_law) s.heap.objs.size f cdv)).units + 1 < cLine := by have := hr.un; omega
  have hgd : (A.deeper (envOfC "law" (defScope s_law) s.heap.objs.size f cdv)).guards = some [] := hgd0
  refine ⟨ps_set (i := 1) sc_law.nd rfl (Or.inl rfl) (pe_hasS HD hgd (hr.mono (by decide)) (by rfl) (pa_cons (pv 0) pa_nil)), fun Y => ⟨_, (dss_cons (ds_for PassesOwn.never rfl (di_range1 (by rfl) B.range (wa_cons we_int wa_nil)) ⟨(pg_name (i := 2) sc_law.nd rfl (Or.inl rfl)), gok_name⟩ (dss_cons (ds_asgG (we_has H__law_hall hgd (hr.mono (by decide)) (by rfl) (wa_cons (we_var 1) (wa_cons (we_ix (we_ofM (me_lst (wa_cons we_int (wa_cons we_int wa_nil)))) (we_bin op_mod bi_I (we_var 2) we_int) (fun _ _ => rfl)) wa_nil))) ⟨(pg_tup rfl (pgs_cons (pg_name (i := 3) sc_law.nd rfl (Or.inl rfl)) (pgs_cons (pg_name (i := 4) sc_law.nd rfl (Or.inl rfl)) pgs_nil))), gok_two⟩) (dss_cons (ds_set (i := 5) sc_law.nd rfl (Or.inl rfl) (xe_d (we_has H__law_draw hgd (hr.mono (by decide)) (by rfl) (wa_cons (we_var 1) (wa_cons we_int wa_nil))))) (dss_cons (ds_set (i := 6) sc_law.nd rfl (Or.inl rfl) (xe_d (we_has H__law_text hgd (hr.mono (by decide)) (by rfl) (wa_cons (we_bin or_addA bi_add (we_var 3) (we_bin op_repZ bi_repZ (we_slice (we_var 3) wo_none (wo_some we_int)) (we_bin or_mulA bi_mul we_int (we_callTy call_int1 ck_int (by rfl) B.int PyProof.Rows.boot_int (wa_cons (we_cmp (or_eqA hu) bi_eqA (we_var 5) we_int (nomark _)) wa_nil))))) (wa_cons (we_bin or_addA bi_add (we_var 4) (we_bin op_repZ bi_repZ (we_slice (we_var 3) wo_none (wo_some we_int)) (we_bin or_mulA bi_mul we_int (we_callTy call_int1 ck_int (by rfl) B.int PyProof.Rows.boot_int (wa_cons (we_cmp (or_eqA hu) bi_eqA (we_var 5) we_int (nomark _)) wa_nil))))) wa_nil))))) (dss_cut (ds_if (wt_cmp (or_eqA hu) bi_eqA (we_has H__law_draw hgd (hr.mono (by decide)) (by rfl) (wa_cons (we_var 1) (wa_cons we_int wa_nil))) we_int (nomark _)) (dss_cons (ds_set (i := 7) sc_law.nd rfl (Or.inl rfl) (xe_d (we_has H__law_draw hgd (hr.mono (by decide)) (by rfl) (wa_cons (we_var 1) (wa_cons (we_bin or_addA bi_add (we_callB call_len_str ck_lenS (by rfl) B.len PySem.boot_len (wa_cons (we_var 6) wa_nil)) we_int) wa_nil))))) (dss_cons (ds_set (i := 8) sc_law.nd rfl (Or.inl rfl) (xe_d (we_ofM (me_lst (wa_cons we_str (wa_cons we_str (wa_cons we_str (wa_cons we_str (wa_cons we_str (wa_cons we_str (wa_cons we_str (wa_cons we_str (wa_cons we_str (wa_cons we_str (wa_cons we_str (wa_cons we_str (wa_cons we_str (wa_cons we_str (wa_cons we_str wa_nil))))))))))))))))))) (dss_cons (ds_set (i := 9) sc_law.nd rfl (Or.inl rfl) (xe_d (we_ix (we_var 8) (we_has H__law_draw hgd (hr.mono (by decide)) (by rfl) (wa_cons (we_var 1) (wa_cons we_int wa_nil))) (fun _ _ => rfl)))) (dss_one (ds_set (i := 6) sc_law.nd rfl (Or.inl rfl) (xe_d (we_bin op_add_str bi_addS (we_bin op_add_str bi_addS (we_sliceS (we_var 6) wo_none (wo_some (we_var 7))) (we_var 9)) (we_sliceS (we_var 6) (wo_some (we_bin or_addA bi_add (we_var 7) (we_has H__law_draw hgd (hr.mono (by decide)) (by rfl) (wa_cons (we_var 1) (wa_cons we_int wa_nil))))) wo_none)))))))) dss_nil) (dss_cons (ds_set (i := 10) sc_law.nd rfl (Or.inl rfl) (xe_d (we_ofM (me_lst (wa_cons we_non (wa_cons we_int (wa_cons we_bl (wa_cons (we_tup wa_nil) (wa_cons (we_ofM (me_lst wa_nil)) (wa_cons we_dict0 (wa_cons we_str (wa_cons we_str (wa_cons we_str (wa_cons we_str (wa_cons we_str (wa_cons we_str (wa_cons we_str (wa_cons we_str (wa_cons we_str (wa_cons we_str wa_nil)))))))))))))))))))) (dss_one (ds_for PassesOwn.never rfl (di_seq (we_ofM (me_lst (wa_cons (we_var 6) (wa_cons (we_ix (we_var 10) (we_has H__law_draw hgd (hr.mono (by decide)) (by rfl) (wa_cons (we_var 1) (wa_cons we_int wa_nil))) (fun _ _ => rfl)) wa_nil))))) ⟨(pg_name (i := 11) sc_law.nd rfl (Or.inl rfl)), gok_name⟩ (dss_cons (ds_par (i := 12) (j := 13) rfl sc_law.nd rfl rfl (by decide) rfl rfl (xe_d (we_has H__law_due hgd (hr.mono (by decide)) (by rfl) (wa_cons (we_var 11) wa_nil))) (xe_d (we_has H__law_read hgd (hr.mono (by decide)) (by rfl) (wa_cons (we_var 11) wa_nil))) (by rfl)) (dss_one (ds_if (wt_val (we_isi (.inr (.inr (.inr (.inr rfl)))) (by rfl) B.isinstance (we_var 12) (by rfl) B.list PyProof.Rows.boot_list)) (dss_one (ds_if (wt_w (ww_or (wt_not (wt_val (we_is (by rfl) B.isinstance (we_var 13) (pe_bltn (v := .ty "list") (by rfl) B.list PyProof.Rows.boot_list rfl) (.ty _)))) (ww_or1 (wt_cmp (or_neA hu) bi_neA (we_callB (call_reprE hgd hu) ck_reprE (by rfl) B.repr PyProof.Rows.boot_repr (wa_cons (we_var 13) wa_nil)) (we_callB (call_reprE hgd hu) ck_reprE (by rfl) B.repr PyProof.Rows.boot_repr (wa_cons (we_var 12) wa_nil)) (nomark _))))) (dss_one (ds_ret we_bl)) dss_nil)) (dss_one (ds_if (wt_w (ww_or (wt_val (we_is (by rfl) B.isinstance (we_var 13) (pe_bltn (v := .ty "list") (by rfl) B.list PyProof.Rows.boot_list rfl) (.ty _))) (ww_or (wt_val (we_is (by rfl) B.isinstance (we_var 13) (pe_glob (v := .ref C.PledgedParty) (by rfl) B.g_PledgedParty rfl) (.own _))) (ww_or1 (wt_cmp (or_neA hu) bi_neA (we_con (we_var 13)) we_int (nomark _)))))) (dss_one (ds_ret we_bl)) (dss_one (ds_if (wt_w (ww_or (wt_not (wt_val (we_has H__law_right hgd (hr.mono (by decide)) (by rfl) (wa_cons (we_var 13) (wa_cons (we_var 12) (wa_cons (we_ofM (me_lst wa_nil)) wa_nil)))))) (ww_or1 (wt_not (wt_eqO takes0 wok0 HM___eq__ hgd (hr.mono (by decide)) rfl (Nat.lt_of_succ_lt hu0) (we_var 13) (we_hasC takes0 wok0 H_Party___init__ hgd (hr.mono (by decide)) (by rfl) (wa_cons (we_var 12) wa_nil))))))) (dss_one (ds_ret we_bl)) (dss_one (ds_if (wt_w (ww_or (wt_not (wt_val (we_has H__law_edits_right hgd (hr.mono (by decide)) (by rfl) (wa_cons (we_var 13) (wa_cons (we_var 12) wa_nil))))) (ww_or1 (wt_not (wt_val (we_has H__law_right hgd (hr.mono (by decide)) (by rfl) (wa_cons (we_var 13) (wa_cons (we_var 12) (wa_cons (we_ofM (me_lst wa_nil)) wa_nil))))))))) (dss_one (ds_ret we_bl)) dss_nil))))))))))))))))) (dss_one (ds_ret we_bl))), ?_⟩⟩
  refine ⟨6, rfl, by decide, by decide, forR_inv (fun k ρ n => n.n ≤ k * 200 ∧ ∃ b2 b3 b4 b5 b6 b7 b8 b9 b10 b11 b12 b13, ρ = [none, some (.deck false), b2, b3, b4, b5, b6, b7, b8, b9, b10, b11, b12, b13])
    ⟨Nat.zero_le _, _, _, _, _, _, _, _, _, _, _, _, _, rfl⟩ ?_ ?_⟩
  rotate_left
  · rintro ρ n ⟨hn, b2, b3, b4, b5, b6, b7, b8, b9, b10, b11, b12, b13, rfl⟩
    exact rfl
  rintro k y ρ n hy ⟨hn, b2, b3, b4, b5, b6, b7, b8, b9, b10, b11, b12, b13, rfl⟩
  obtain ⟨rfl, hk⟩ := rngD_mem hy
  have hk : k < 6 := hk
  have ix : ∃ g : Int, atI [PyData.int 4, .int 20] ((0 + (k : Int)) % 2) = some (.int g) ∧ 1 ≤ g ∧ g ≤ 20 := by
    rcases (by omega : k = 0 ∨ k = 1 ∨ k = 2 ∨ k = 3 ∨ k = 4 ∨ k = 5) with rfl | rfl | rfl | rfl | rfl | rfl <;> exact ⟨_, rfl, by decide, by decide⟩
  obtain ⟨g, hg, g1, g2⟩ := ix
  refine ⟨_, rfl, by show 2 ≤ sizeLine; decide, _, rfl, (by decide : (0 : Int) < 2), _, _, rfl, hg, rfl, g, rfl, g1, g2, by omega, fun h n1 hh l1 l2 hn1 => ?_⟩
  have hn1' : n1.n ≤ n.n + 100 := hn1.1
  refine ⟨_, _, rfl, _, rfl, rfl, 5, rfl, by decide, by decide, by omega, fun w w0 w1 => ?_⟩
  have hF : h.1 ≠ [] := fun e => by have := hh.ok.f1; rw [e] at this; cases this
  obtain ⟨c, hc⟩ : ∃ c, h.1.take 1 = [c] := by
    cases e : h.1 with
    | nil => exact absurd e hF
    | cons a l => exact ⟨a, rfl⟩
  have hcm : c ∈ h.1 := List.mem_of_mem_take (by rw [hc]; exact List.mem_singleton.mpr rfl)
  have ecut : cutG (h.1.map PyData.int) none (some 1) = [.int c] := by
    rw [show (some 1 : Option Int) = some ((1 : Nat) : Int) from rfl, cut_take, ← List.map_take, hc]; rfl
  have erep : ∀ m : Nat, (List.replicate m [PyData.int c]).flatten = (List.replicate m c).map .int := fun m => by
    rw [List.map_replicate]
    induction m with
    | zero => rfl
    | succ m ih => rw [List.replicate_succ, List.flatten_cons, ih]; rfl
  refine ⟨_, rfl, _, rfl, 1, rfl, _, rfl, rfl, rfl, sh_int _, sh_int _, ?_⟩
  rw [ecut]
  have hmul : ∀ (z : Bool) (K : Nat) (R : PyData → Prop), K ≤ 100 → (R (.tuple ((List.replicate (if z = true then K else 0) c).map .int))) → oInt [.dat (.bool z)] fun d => oMul (.dat (.int (K : Nat))) (.dat d) fun y => oRepZ (.dat (.tuple [.int c])) (.dat y) R := fun z K R hK hR => by
    cases z
    · show CMul (K : Int) 0 ∧ oRepZ (.dat (.tuple [.int c])) (.dat (.int ((K : Int) * 0))) R
      refine ⟨.inr ⟨by decide, by decide⟩, _, _, rfl, rfl, by simp, by omega, by omega, by show 1 ≤ 1000; decide, ?_⟩
      rw [erep, show ((K : Int) * 0).toNat = 0 by omega]
      exact hR
    · show CMul (K : Int) 1 ∧ oRepZ (.dat (.tuple [.int c])) (.dat (.int ((K : Int) * 1))) R
      refine ⟨.inr ⟨by decide, by decide⟩, _, _, rfl, rfl, by simp, by omega, by omega, by show 1 ≤ 1000; decide, ?_⟩
      rw [erep, show ((K : Int) * 1).toNat = K by omega]
      exact hR
  obtain ⟨m1, em1⟩ : ∃ m1, (if (PyData.eqv (.int w) (.int 0)) = true then 20 else 0) = m1 := ⟨_, rfl⟩
  obtain ⟨m2, em2⟩ : ∃ m2, (if (PyData.eqv (.int w) (.int 1)) = true then 21 else 0) = m2 := ⟨_, rfl⟩
  have hm12 : m1 ≤ 20 ∧ m2 ≤ 21 ∧ (m1 = 0 ∨ m2 = 0) := by
    rw [← em1, ← em2, eqv_int, eqv_int]
    by_cases c0 : w = 0
    · subst c0; decide
    · rw [decide_eq_false c0]
      refine ⟨by decide, ?_, .inl rfl⟩
      split <;> decide
  have sz1 : (h.1.map PyData.int).length + ((List.replicate m1 c).map PyData.int).length ≤ sizeLine := by
    rw [List.length_map, List.length_map, List.length_replicate]
    exact Nat.le_trans (show _ ≤ 1000 by omega) (by decide)
  have sz2 : (h.2.map PyData.int).length + ((List.replicate m2 c).map PyData.int).length ≤ sizeLine := by
    rw [List.length_map, List.length_map, List.length_replicate]
    exact Nat.le_trans (show _ ≤ 1000 by omega) (by decide)
  refine hmul (PyData.eqv (.int w) (.int 0)) 20 _ (by decide) ?_
  rw [em1]
  refine ⟨sz1, _, rfl, _, rfl, 1, rfl, _, rfl, rfl, rfl, sh_int _, sh_int _, ?_⟩
  rw [ecut]
  refine hmul (PyData.eqv (.int w) (.int 1)) 21 _ (by decide) ?_
  rw [em2]
  have In' : ∀ {L : List Int} (m : Nat), In1 (10 ^ 6) L → In1 (10 ^ 6) (L ++ List.replicate m c) := fun {L} m hL x hx => by
    rcases List.mem_append.mp hx with q | q
    · exact hL x q
    · rw [(List.mem_replicate.mp q).2]; exact hh.ok.fi c hcm
  refine ⟨sz2, rfl, h.1 ++ List.replicate m1 c, h.2 ++ List.replicate m2 c, by rw [← List.map_append, ← List.map_append]; rfl, by rw [List.length_append, List.length_replicate]; omega, by rw [List.length_append, List.length_replicate]; omega, In' m1 hh.ok.fi, In' m2 hh.ok.pi, ?_⟩
  have tl0 : (joinT (h.1 ++ List.replicate m1 c) ++ " / " ++ pairsT (h.2 ++ List.replicate m2 c)).length ≤ 600 := by
    have q1 := join_len (In' m1 hh.ok.fi)
    have q2 := pairsT_len (In' m2 hh.ok.pi)
    have c1 : (" / " : Str).length = 3 := by decide +kernel
    rw [List.length_append, List.length_replicate] at q1 q2
    rw [app_len, app_len, c1]
    omega
  generalize joinT (h.1 ++ List.replicate m1 c) ++ " / " ++ pairsT (h.2 ++ List.replicate m2 c) = t0 at tl0 ⊢
  refine ⟨fun ρ m => m.n ≤ k * 200 + 110 ∧ ∃ (t : Str) (b7 b8 b9 : Option Dv), t.length ≤ 620 ∧ ρ = [none, some (.deck false), some (.dat (.int (0 + (k : Int)))), some (.dat (sizesD h.1)), some (.dat (sizesD h.2)), some (.dat (.int w)), some (.dat (.str t)), b7, b8, b9, b10, b11, b12, b13], ?_, ?_⟩
  · refine ⟨_, rfl, rfl, 2, rfl, by decide, by decide, by show n1.n + 1 ≤ _; omega, fun r r0 r1 => ⟨rfl, rfl, sh_int _, sh_int _, _, rfl, ?_⟩⟩
    by_cases c0 : r = 0
    · refine ifT (show PyData.eqv (.int r) (.int 0) = true from (eqv_int _ _).trans (decide_eq_true c0)) ?_
      refine ⟨_, rfl, _, rfl, t0, rfl, Nat.le_trans tl0 (by decide), rfl, ((t0.length : Nat) : Int) + 1, rfl, by omega, by omega, by show n1.n + 1 + 1 ≤ _; omega, fun at_ a0 a1 => ?_⟩
      refine ⟨by show 15 ≤ sizeLine; decide, _, rfl, _, rfl, rfl, 15, rfl, by decide, by decide, by show n1.n + 1 + 1 + 1 ≤ _; omega, fun s0 s1 s2 => ?_⟩
      obtain ⟨mk, hmk, mkl⟩ := marks45 s0 s1 s2
      obtain ⟨ai, rfl⟩ := Int.eq_ofNat_of_zero_le a0
      have z0 : t0.length ≤ sizeLine := Nat.le_trans tl0 (by decide)
      have sp := cutS_split t0 ai ai (Nat.le_refl _)
      have bd : ∀ a b : Nat, a + b ≤ 3000 → a + b ≤ sizeLine := fun a b h => Nat.le_trans h (by decide)
      refine ⟨s0, _, rfl, hmk, _, rfl, t0, rfl, _, rfl, (ai : Int), rfl, z0, _, rfl, _, _, rfl, rfl, bd _ _ (by omega), _, rfl, t0, rfl, _, rfl, _, rfl, rfl, 2, rfl, by decide, by decide, by show n1.n + 1 + 1 + 1 + 1 ≤ _; omega, fun u u0 u1 => ?_⟩
      obtain ⟨ui, rfl⟩ := Int.eq_ofNat_of_zero_le u0
      have sp2 := cutS_split t0 ai (ai + ui) (Nat.le_add_right _ _)
      rw [show (((ai + ui : Nat)) : Int) = (ai : Int) + (ui : Int) by omega] at sp2
      refine ⟨_, rfl, z0, _, _, rfl, rfl, bd _ _ (by rw [app_len]; omega), ?_⟩
      refine ⟨by show n1.n + 1 + 1 + 1 + 1 + 1 ≤ _; omega, _, _, _, _, ?_, rfl⟩
      rw [app_len, app_len]
      omega
    · exact ifF (show PyData.eqv (.int r) (.int 0) = false from (eqv_int _ _).trans (decide_eq_false c0)) ⟨by show n1.n + 1 + 1 ≤ _; omega, t0, _, _, _, by omega, rfl⟩
  rintro ρ n2 ⟨hn2, t, b7, b8, b9, tl, rfl⟩
  refine ⟨Nat.zero_le _, Nat.zero_le _, by show 16 ≤ sizeLine; decide, _, rfl, _, rfl, _, rfl, rfl, 16, rfl, by decide, by decide, by omega, fun s0 s1 s2 => ?_⟩
  obtain ⟨d0, hd0, hnr0, hdl0⟩ := odds45 s0 s1 s2
  refine ⟨s0, d0, rfl, hd0, by show 2 ≤ sizeLine; decide, _, rfl, ?_⟩
  refine forR_inv (fun j ρ m => m.n ≤ k * 200 + 111 ∧ ∃ b10 b11 b12 b13, ρ = [none, some (.deck false), some (.dat (.int (0 + (k : Int)))), some (.dat (sizesD h.1)), some (.dat (sizesD h.2)), some (.dat (.int w)), some (.dat (.str t)), b7, b8, b9, b10, b11, b12, b13])
    ⟨by show n2.n + 1 ≤ _; omega, _, _, _, _, rfl⟩ ?_ ?_
  rotate_left
  · rintro ρ n3 ⟨hn3, c10, c11, c12, c13, rfl⟩
    exact ⟨by omega, _, _, _, _, _, _, _, _, _, _, _, _, rfl⟩
  rintro j d ρ n3 hd ⟨hn3, c10, c11, c12, c13, rfl⟩
  have hdm := List.mem_of_getElem? hd
  obtain ⟨hnr, hdl⟩ : isRefD d = false ∧ ∀ s, d = .str s → s.length ≤ 620 := by
    simp only [List.mem_cons, List.not_mem_nil, or_false] at hdm
    rcases hdm with rfl | rfl
    · exact ⟨rfl, fun s e => by injection e with e; rw [← e]; exact tl⟩
    · exact ⟨hnr0, hdl0⟩
  refine ⟨_, rfl, rfl, d, rfl, hnr, hdl, _, rfl, rfl, d, rfl, hnr, fun s e => by have := hdl s e; omega, fun hns n4 h4 => ?_, fun s e => ⟨fun jj hjj n4 h4 => ?_, fun h' hp hk' het x m f hx hm hf => ?_⟩⟩
  · have e : dueL d = .list [.str "text", .none] := by
      cases d with
      | str s => exact absurd rfl (hns s)
      | _ => rfl
    have tm : TameE 1000000 60 (.list [.str "text", .none]) := tm45 (.inl rfl)
    rw [e]
    refine ⟨_, rfl, rfl, _, rfl, ifT (by decide +kernel) ?_⟩
    refine ⟨_, rfl, _, _, .inl ⟨rfl, rfl⟩, kit_isi (t := "list") (by simp [isTy]) (.list [.str "text", .none]), _, rfl, ifN (show isiB "list" "list" = true by decide +kernel) ?_⟩
    refine ⟨_, rfl, _, rfl, rfl, tm, _, rfl, _, rfl, rfl, tm, _, rfl, ifN (decide_eq_true rfl) ⟨by omega, _, _, _, _, rfl⟩⟩
  · have e' : dueL d = .list [.str "text", .int (jj : Nat)] := by
      subst e
      show (match parseR s with | .inl j => _ | .inr p => p) = _
      rw [hjj]
    have tm : TameE 1000000 60 (.list [.str "text", .int (jj : Nat)]) := tm45 (.inr ⟨_, by have := parse_idx hjj; have := hdl s e; omega, rfl⟩)
    rw [e']
    refine ⟨_, rfl, rfl, _, rfl, ifT (show isiB "list" "list" = true by decide +kernel) ?_⟩
    refine ⟨_, rfl, _, _, .inl ⟨rfl, rfl⟩, kit_isi (t := "list") (by simp [isTy]) (.list [.str "text", .int (jj : Nat)]), _, rfl, ifN (show isiB "list" "list" = true by decide +kernel) ?_⟩
    refine ⟨_, rfl, _, rfl, rfl, tm, _, rfl, _, rfl, rfl, tm, _, rfl, ifN (decide_eq_true rfl) ⟨by omega, _, _, _, _, rfl⟩⟩
  · have e' : dueL d = halD h' := by
      subst e
      show (match parseR s with | .inl j => _ | .inr p => p) = _
      rw [hp]
    rw [e']
    have K0 : Kd C C.Party none := .inl ⟨rfl, rfl⟩
    have pk : (Pt.mk false h' m f [h'] []).Ok := ⟨hk', hm, hf, rfl, fun y hy => by rw [List.mem_singleton.mp hy]; exact hk', rfl, Nat.zero_le _⟩
    have hob : (n3.put x ⟨C.Party, (Pt.mk false h' m f [h'] []).fs ++ xt none⟩).ob x = some ⟨C.Party, (Pt.mk false h' m f [h'] []).fs ++ xt none⟩ := Wo.put_at
    have hn4 : (n3.put x ⟨C.Party, (Pt.mk false h' m f [h'] []).fs ++ xt none⟩).n ≤ k * 200 + 111 := hn3
    generalize n3.put x ⟨C.Party, (Pt.mk false h' m f [h'] []).fs ++ xt none⟩ = n4 at hob hn4 ⊢
    obtain ⟨u, hu⟩ := B.con_Party_MOST_EDITS
    refine ⟨_, rfl, rfl, _, rfl, ifF rfl ?_⟩
    refine ⟨_, rfl, _, false, .inr ⟨x, _, rfl, hob, B.i_Party, rfl⟩, B.k_Party_list, _, rfl, iteF (A := False) ?_⟩
    refine ⟨_, rfl, _, false, .inr ⟨x, _, rfl, hob, B.i_Party, rfl⟩, B.k_Party_PledgedParty, _, rfl, iteF (A := False) ?_⟩
    refine ⟨_, rfl, x, _, 60, u, rfl, hob, B.c_Party, hu, fx_no rfl rfl, rfl, rfl, sh_int _, sh_int _, _, rfl, ifF (by decide +kernel) ?_⟩
    refine ⟨_, rfl, _, rfl, Nat.zero_le _, rfl, x, C.Party, none, _, rfl, hob, K0, pk, fun _ q => (nomatch q), _, rfl, iteF (A := False) ?_⟩
    refine ⟨_, rfl, _, rfl, fun y hy => ⟨y, C.Party, h', rfl, hk', Wo.put_at, .inl rfl, fun m6 f6 hm6 hf6 => ⟨rfl, ?_⟩⟩⟩
    rw [Wo.put_put]
    have hxy : x ≠ y := fun q => by
      subst q
      rw [hob] at hy
      cases hy
    have hobx := (Wo.put_ne (w := n4) (o := ⟨C.Party, (Pt.mk false h' m6 f6 [h'] []).fs⟩) hxy).trans hob
    have hoby : (n4.put y ⟨C.Party, (Pt.mk false h' m6 f6 [h'] []).fs⟩).ob y = some ⟨C.Party, (Pt.mk false h' m6 f6 [h'] []).fs ++ xt none⟩ := Wo.put_at
    have hn5 : (n4.put y ⟨C.Party, (Pt.mk false h' m6 f6 [h'] []).fs⟩).n ≤ k * 200 + 111 := hn4
    generalize n4.put y ⟨C.Party, (Pt.mk false h' m6 f6 [h'] []).fs⟩ = n5 at hobx hoby hn5 ⊢
    have heq : (decide ((none : Option Int) = none) && PyData.eqv (srtD h') (srtD h')) = true := by rw [eqv_srt1]; simp
    refine ⟨x, _, y, _, rfl, rfl, hobx, hoby, K0.pc, nf_same, x, C.Party, none, Pt.mk false h' m f [h'] [], y, C.Party, none, Pt.mk false h' m6 f6 [h'] [], rfl, hobx, K0, hoby, K0, hk', hk', _, rfl, _, rfl, ifN heq ?_⟩
    refine ⟨_, rfl, _, rfl, rfl, x, Pt.mk false h' m f [h'] [], rfl, hobx, pk, rfl, rfl, rfl, fun n7 h7 hob7 => ⟨_, rfl, iteF (A := False) ?_⟩⟩
    refine ⟨_, rfl, _, rfl, Nat.zero_le _, rfl, x, C.Party, none, Pt.mk false h' m f [h'] [], rfl, hob7, K0, pk, fun _ q => (nomatch q), _, rfl, iteF (A := False) ?_⟩
    exact ⟨by omega, _, _, _, _, rfl⟩
end
theorem all_mk {l : PySem.W.OpenLaw} {w : World} {K : PySem.W.Frag} {h : Heap} {mg : Str → Option Value} {fa : Addr} {C : CA} (X : K.In h) (G : h.Ns mainGlobals mg) (hfa : mg "law" = some (.ref fa))
    {f0 : Addr} {od0 an0 : Option Addr} {sl0 : Array (Option Value)} {oc0 kV0 dc0 pm0 cd0 ct0 : Value}
    (a0 : PySem.W.nsIn K mainGlobals "_law_deck" = some (some (.ref f0)))
    (l0 : K.lookup f0 = some ⟨oc0, od0, .func (PySem.W.fnOf "_law_deck" "_law_deck" (defArgs s__law_deck) (defBody s__law_deck) (defScope s__law_deck) .none kV0 dc0 pm0 an0 cd0 ct0), sl0⟩) (c0 : PySem.W.codeIn K cd0 "_law_deck" = true) (k0 : PySem.W.keepIn K (.ref f0) = true)
    {f1 : Addr} {od1 an1 : Option Addr} {sl1 : Array (Option Value)} {oc1 kV1 dc1 pm1 cd1 ct1 : Value}
    (a1 : PySem.W.nsIn K mainGlobals "_law_draw" = some (some (.ref f1)))
    (l1 : K.lookup f1 = some ⟨oc1, od1, .func (PySem.W.fnOf "_law_draw" "_law_draw" (defArgs s__law_draw) (defBody s__law_draw) (defScope s__law_draw) .none kV1 dc1 pm1 an1 cd1 ct1), sl1⟩) (c1 : PySem.W.codeIn K cd1 "_law_draw" = true) (k1 : PySem.W.keepIn K (.ref f1) = true)
    {f2 : Addr} {od2 an2 : Option Addr} {sl2 : Array (Option Value)} {oc2 kV2 dc2 pm2 cd2 ct2 : Value}
    (a2 : PySem.W.nsIn K mainGlobals "_law_sizes" = some (some (.ref f2)))
    (l2 : K.lookup f2 = some ⟨oc2, od2, .func (PySem.W.fnOf "_law_sizes" "_law_sizes" (defArgs s__law_sizes) (defBody s__law_sizes) (defScope s__law_sizes) .none kV2 dc2 pm2 an2 cd2 ct2), sl2⟩) (c2 : PySem.W.codeIn K cd2 "_law_sizes" = true) (k2 : PySem.W.keepIn K (.ref f2) = true)
    {f3 : Addr} {od3 an3 : Option Addr} {sl3 : Array (Option Value)} {oc3 kV3 dc3 pm3 cd3 ct3 : Value}
    (a3 : PySem.W.nsIn K mainGlobals "_law_hall" = some (some (.ref f3)))
    (l3 : K.lookup f3 = some ⟨oc3, od3, .func (PySem.W.fnOf "_law_hall" "_law_hall" (defArgs s__law_hall) (defBody s__law_hall) (defScope s__law_hall) .none kV3 dc3 pm3 an3 cd3 ct3), sl3⟩) (c3 : PySem.W.codeIn K cd3 "_law_hall" = true) (k3 : PySem.W.keepIn K (.ref f3) = true)
    {f4 : Addr} {od4 an4 : Option Addr} {sl4 : Array (Option Value)} {oc4 kV4 dc4 pm4 cd4 ct4 : Value}
    (a4 : PySem.W.nsIn K mainGlobals "_law_text" = some (some (.ref f4)))
    (l4 : K.lookup f4 = some ⟨oc4, od4, .func (PySem.W.fnOf "_law_text" "_law_text" (defArgs s__law_text) (defBody s__law_text) (defScope s__law_text) .none kV4 dc4 pm4 an4 cd4 ct4), sl4⟩) (c4 : PySem.W.codeIn K cd4 "_law_text" = true) (k4 : PySem.W.keepIn K (.ref f4) = true)
    {f5 : Addr} {od5 an5 : Option Addr} {sl5 : Array (Option Value)} {oc5 kV5 dc5 pm5 cd5 ct5 : Value}
    (a5 : PySem.W.nsIn K mainGlobals "_law_number" = some (some (.ref f5)))
    (l5 : K.lookup f5 = some ⟨oc5, od5, .func (PySem.W.fnOf "_law_number" "_law_number" (defArgs s__law_number) (defBody s__law_number) (defScope s__law_number) .none kV5 dc5 pm5 an5 cd5 ct5), sl5⟩) (c5 : PySem.W.codeIn K cd5 "_law_number" = true) (k5 : PySem.W.keepIn K (.ref f5) = true)
    {f6 : Addr} {od6 an6 : Option Addr} {sl6 : Array (Option Value)} {oc6 kV6 dc6 pm6 cd6 ct6 : Value}
    (a6 : PySem.W.nsIn K mainGlobals "_law_sizes_of" = some (some (.ref f6)))
    (l6 : K.lookup f6 = some ⟨oc6, od6, .func (PySem.W.fnOf "_law_sizes_of" "_law_sizes_of" (defArgs s__law_sizes_of) (defBody s__law_sizes_of) (defScope s__law_sizes_of) .none kV6 dc6 pm6 an6 cd6 ct6), sl6⟩) (c6 : PySem.W.codeIn K cd6 "_law_sizes_of" = true) (k6 : PySem.W.keepIn K (.ref f6) = true)
    {f7 : Addr} {od7 an7 : Option Addr} {sl7 : Array (Option Value)} {oc7 kV7 dc7 pm7 cd7 ct7 : Value}
    (a7 : PySem.W.nsIn K mainGlobals "_law_due" = some (some (.ref f7)))
    (l7 : K.lookup f7 = some ⟨oc7, od7, .func (PySem.W.fnOf "_law_due" "_law_due" (defArgs s__law_due) (defBody s__law_due) (defScope s__law_due) .none kV7 dc7 pm7 an7 cd7 ct7), sl7⟩) (c7 : PySem.W.codeIn K cd7 "_law_due" = true) (k7 : PySem.W.keepIn K (.ref f7) = true)
    {f8 : Addr} {od8 an8 : Option Addr} {sl8 : Array (Option Value)} {oc8 kV8 dc8 pm8 cd8 ct8 : Value}
    (a8 : PySem.W.nsIn K mainGlobals "is_number" = some (some (.ref f8)))
    (l8 : K.lookup f8 = some ⟨oc8, od8, .func (PySem.W.fnOf "is_number" "is_number" (defArgs s_is_number) (defBody s_is_number) (defScope s_is_number) .none kV8 dc8 pm8 an8 cd8 ct8), sl8⟩) (c8 : PySem.W.codeIn K cd8 "is_number" = true) (k8 : PySem.W.keepIn K (.ref f8) = true)
    {f9 : Addr} {od9 an9 : Option Addr} {sl9 : Array (Option Value)} {oc9 kV9 dc9 pm9 cd9 ct9 : Value}
    (a9 : PySem.W.nsIn K mainGlobals "is_number_from" = some (some (.ref f9)))
    (l9 : K.lookup f9 = some ⟨oc9, od9, .func (PySem.W.fnOf "is_number_from" "is_number_from" (defArgs s_is_number_from) (defBody s_is_number_from) (defScope s_is_number_from) .none kV9 dc9 pm9 an9 cd9 ct9), sl9⟩) (c9 : PySem.W.codeIn K cd9 "is_number_from" = true) (k9 : PySem.W.keepIn K (.ref f9) = true)
    {f10 : Addr} {od10 an10 : Option Addr} {sl10 : Array (Option Value)} {oc10 kV10 dc10 pm10 cd10 ct10 : Value}
    (a10 : PySem.W.nsIn K mainGlobals "is_size" = some (some (.ref f10)))
    (l10 : K.lookup f10 = some ⟨oc10, od10, .func (PySem.W.fnOf "is_size" "is_size" (defArgs s_is_size) (defBody s_is_size) (defScope s_is_size) .none kV10 dc10 pm10 an10 cd10 ct10), sl10⟩) (c10 : PySem.W.codeIn K cd10 "is_size" = true) (k10 : PySem.W.keepIn K (.ref f10) = true)
    {f11 : Addr} {od11 an11 : Option Addr} {sl11 : Array (Option Value)} {oc11 kV11 dc11 pm11 cd11 ct11 : Value}
    (a11 : PySem.W.nsIn K mainGlobals "_first_wrong" = some (some (.ref f11)))
    (l11 : K.lookup f11 = some ⟨oc11, od11, .func (PySem.W.fnOf "_first_wrong" "_first_wrong" (defArgs s__first_wrong) (defBody s__first_wrong) (defScope s__first_wrong) .none kV11 dc11 pm11 an11 cd11 ct11), sl11⟩) (c11 : PySem.W.codeIn K cd11 "_first_wrong" = true) (k11 : PySem.W.keepIn K (.ref f11) = true)
    {f12 : Addr} {od12 an12 : Option Addr} {sl12 : Array (Option Value)} {oc12 kV12 dc12 pm12 cd12 ct12 : Value}
    (a12 : PySem.W.nsIn K mainGlobals "is_tuple" = some (some (.ref f12)))
    (l12 : K.lookup f12 = some ⟨oc12, od12, .func (PySem.W.fnOf "is_tuple" "is_tuple" (defArgs s_is_tuple) (defBody s_is_tuple) (defScope s_is_tuple) .none kV12 dc12 pm12 an12 cd12 ct12), sl12⟩) (c12 : PySem.W.codeIn K cd12 "is_tuple" = true) (k12 : PySem.W.keepIn K (.ref f12) = true)
    {f13 : Addr} {od13 an13 : Option Addr} {sl13 : Array (Option Value)} {oc13 kV13 dc13 pm13 cd13 ct13 : Value}
    (a13 : PySem.W.nsIn K mainGlobals "hall_error" = some (some (.ref f13)))
    (l13 : K.lookup f13 = some ⟨oc13, od13, .func (PySem.W.fnOf "hall_error" "hall_error" (defArgs s_hall_error) (defBody s_hall_error) (defScope s_hall_error) .none kV13 dc13 pm13 an13 cd13 ct13), sl13⟩) (c13 : PySem.W.codeIn K cd13 "hall_error" = true) (k13 : PySem.W.keepIn K (.ref f13) = true)
    {f14 : Addr} {od14 an14 : Option Addr} {sl14 : Array (Option Value)} {oc14 kV14 dc14 pm14 cd14 ct14 : Value}
    (a14 : PySem.W.nsIn K mainGlobals "counts_at" = some (some (.ref f14)))
    (l14 : K.lookup f14 = some ⟨oc14, od14, .func (PySem.W.fnOf "counts_at" "counts_at" (defArgs s_counts_at) (defBody s_counts_at) (defScope s_counts_at) .none kV14 dc14 pm14 an14 cd14 ct14), sl14⟩) (c14 : PySem.W.codeIn K cd14 "counts_at" = true) (k14 : PySem.W.keepIn K (.ref f14) = true)
    {f15 : Addr} {od15 an15 : Option Addr} {sl15 : Array (Option Value)} {oc15 kV15 dc15 pm15 cd15 ct15 : Value}
    (a15 : PySem.W.nsIn K mainGlobals "_foot_sizes" = some (some (.ref f15)))
    (l15 : K.lookup f15 = some ⟨oc15, od15, .func (PySem.W.fnOf "_foot_sizes" "_foot_sizes" (defArgs s__foot_sizes) (defBody s__foot_sizes) (defScope s__foot_sizes) .none kV15 dc15 pm15 an15 cd15 ct15), sl15⟩) (c15 : PySem.W.codeIn K cd15 "_foot_sizes" = true) (k15 : PySem.W.keepIn K (.ref f15) = true)
    {f16 : Addr} {od16 an16 : Option Addr} {sl16 : Array (Option Value)} {oc16 kV16 dc16 pm16 cd16 ct16 : Value}
    (a16 : PySem.W.nsIn K mainGlobals "_deciding_sizes" = some (some (.ref f16)))
    (l16 : K.lookup f16 = some ⟨oc16, od16, .func (PySem.W.fnOf "_deciding_sizes" "_deciding_sizes" (defArgs s__deciding_sizes) (defBody s__deciding_sizes) (defScope s__deciding_sizes) .none kV16 dc16 pm16 an16 cd16 ct16), sl16⟩) (c16 : PySem.W.codeIn K cd16 "_deciding_sizes" = true) (k16 : PySem.W.keepIn K (.ref f16) = true)
    {f17 : Addr} {od17 an17 : Option Addr} {sl17 : Array (Option Value)} {oc17 kV17 dc17 pm17 cd17 ct17 : Value}
    (a17 : PySem.W.nsIn K mainGlobals "most_served" = some (some (.ref f17)))
    (l17 : K.lookup f17 = some ⟨oc17, od17, .func (PySem.W.fnOf "most_served" "most_served" (defArgs s_most_served) (defBody s_most_served) (defScope s_most_served) .none kV17 dc17 pm17 an17 cd17 ct17), sl17⟩) (c17 : PySem.W.codeIn K cd17 "most_served" = true) (k17 : PySem.W.keepIn K (.ref f17) = true)
    {f18 : Addr} {od18 an18 : Option Addr} {sl18 : Array (Option Value)} {oc18 kV18 dc18 pm18 cd18 ct18 : Value}
    (a18 : PySem.W.nsIn K mainGlobals "fewest_served" = some (some (.ref f18)))
    (l18 : K.lookup f18 = some ⟨oc18, od18, .func (PySem.W.fnOf "fewest_served" "fewest_served" (defArgs s_fewest_served) (defBody s_fewest_served) (defScope s_fewest_served) .none kV18 dc18 pm18 an18 cd18 ct18), sl18⟩) (c18 : PySem.W.codeIn K cd18 "fewest_served" = true) (k18 : PySem.W.keepIn K (.ref f18) = true)
    {f19 : Addr} {od19 an19 : Option Addr} {sl19 : Array (Option Value)} {oc19 kV19 dc19 pm19 cd19 ct19 : Value}
    (a19 : PySem.W.nsIn K mainGlobals "number_in" = some (some (.ref f19)))
    (l19 : K.lookup f19 = some ⟨oc19, od19, .func (PySem.W.fnOf "number_in" "number_in" (defArgs s_number_in) (defBody s_number_in) (defScope s_number_in) .none kV19 dc19 pm19 an19 cd19 ct19), sl19⟩) (c19 : PySem.W.codeIn K cd19 "number_in" = true) (k19 : PySem.W.keepIn K (.ref f19) = true)
    {f20 : Addr} {od20 an20 : Option Addr} {sl20 : Array (Option Value)} {oc20 kV20 dc20 pm20 cd20 ct20 : Value}
    (a20 : PySem.W.nsIn K mainGlobals "_sizes_in" = some (some (.ref f20)))
    (l20 : K.lookup f20 = some ⟨oc20, od20, .func (PySem.W.fnOf "_sizes_in" "_sizes_in" (defArgs s__sizes_in) (defBody s__sizes_in) (defScope s__sizes_in) .none kV20 dc20 pm20 an20 cd20 ct20), sl20⟩) (c20 : PySem.W.codeIn K cd20 "_sizes_in" = true) (k20 : PySem.W.keepIn K (.ref f20) = true)
    {f21 : Addr} {od21 an21 : Option Addr} {sl21 : Array (Option Value)} {oc21 kV21 dc21 pm21 cd21 ct21 : Value}
    (a21 : PySem.W.nsIn K mainGlobals "_part_in" = some (some (.ref f21)))
    (l21 : K.lookup f21 = some ⟨oc21, od21, .func (PySem.W.fnOf "_part_in" "_part_in" (defArgs s__part_in) (defBody s__part_in) (defScope s__part_in) .none kV21 dc21 pm21 an21 cd21 ct21), sl21⟩) (c21 : PySem.W.codeIn K cd21 "_part_in" = true) (k21 : PySem.W.keepIn K (.ref f21) = true)
    {f22 : Addr} {od22 an22 : Option Addr} {sl22 : Array (Option Value)} {oc22 kV22 dc22 pm22 cd22 ct22 : Value}
    (a22 : PySem.W.nsIn K mainGlobals "parse_hall" = some (some (.ref f22)))
    (l22 : K.lookup f22 = some ⟨oc22, od22, .func (PySem.W.fnOf "parse_hall" "parse_hall" (defArgs s_parse_hall) (defBody s_parse_hall) (defScope s_parse_hall) .none kV22 dc22 pm22 an22 cd22 ct22), sl22⟩) (c22 : PySem.W.codeIn K cd22 "parse_hall" = true) (k22 : PySem.W.keepIn K (.ref f22) = true)
    {f23 : Addr} {od23 an23 : Option Addr} {sl23 : Array (Option Value)} {oc23 kV23 dc23 pm23 cd23 ct23 : Value}
    (a23 : PySem.W.nsIn K mainGlobals "_law_read" = some (some (.ref f23)))
    (l23 : K.lookup f23 = some ⟨oc23, od23, .func (PySem.W.fnOf "_law_read" "_law_read" (defArgs s__law_read) (defBody s__law_read) (defScope s__law_read) .none kV23 dc23 pm23 an23 cd23 ct23), sl23⟩) (c23 : PySem.W.codeIn K cd23 "_law_read" = true) (k23 : PySem.W.keepIn K (.ref f23) = true)
    {f24 : Addr} {od24 an24 : Option Addr} {sl24 : Array (Option Value)} {oc24 kV24 dc24 pm24 cd24 ct24 : Value}
    (a24 : PySem.W.nsIn K mainGlobals "_law_ends" = some (some (.ref f24)))
    (l24 : K.lookup f24 = some ⟨oc24, od24, .func (PySem.W.fnOf "_law_ends" "_law_ends" (defArgs s__law_ends) (defBody s__law_ends) (defScope s__law_ends) .none kV24 dc24 pm24 an24 cd24 ct24), sl24⟩) (c24 : PySem.W.codeIn K cd24 "_law_ends" = true) (k24 : PySem.W.keepIn K (.ref f24) = true)
    {f25 : Addr} {od25 an25 : Option Addr} {sl25 : Array (Option Value)} {oc25 kV25 dc25 pm25 cd25 ct25 : Value}
    (a25 : PySem.W.nsIn K mainGlobals "_law_right" = some (some (.ref f25)))
    (l25 : K.lookup f25 = some ⟨oc25, od25, .func (PySem.W.fnOf "_law_right" "_law_right" (defArgs s__law_right) (defBody s__law_right) (defScope s__law_right) .none kV25 dc25 pm25 an25 cd25 ct25), sl25⟩) (c25 : PySem.W.codeIn K cd25 "_law_right" = true) (k25 : PySem.W.keepIn K (.ref f25) = true)
    {f26 : Addr} {od26 an26 : Option Addr} {sl26 : Array (Option Value)} {oc26 kV26 dc26 pm26 cd26 ct26 : Value}
    (a26 : PySem.W.nsIn K mainGlobals "_sorted_sizes" = some (some (.ref f26)))
    (l26 : K.lookup f26 = some ⟨oc26, od26, .func (PySem.W.fnOf "_sorted_sizes" "_sorted_sizes" (defArgs s__sorted_sizes) (defBody s__sorted_sizes) (defScope s__sorted_sizes) .none kV26 dc26 pm26 an26 cd26 ct26), sl26⟩) (c26 : PySem.W.codeIn K cd26 "_sorted_sizes" = true) (k26 : PySem.W.keepIn K (.ref f26) = true)
    {f27 : Addr} {od27 an27 : Option Addr} {sl27 : Array (Option Value)} {oc27 kV27 dc27 pm27 cd27 ct27 : Value}
    (a27 : PySem.W.nsIn K mainGlobals "_with_guest" = some (some (.ref f27)))
    (l27 : K.lookup f27 = some ⟨oc27, od27, .func (PySem.W.fnOf "_with_guest" "_with_guest" (defArgs s__with_guest) (defBody s__with_guest) (defScope s__with_guest) .none kV27 dc27 pm27 an27 cd27 ct27), sl27⟩) (c27 : PySem.W.codeIn K cd27 "_with_guest" = true) (k27 : PySem.W.keepIn K (.ref f27) = true)
    {f28 : Addr} {od28 an28 : Option Addr} {sl28 : Array (Option Value)} {oc28 kV28 dc28 pm28 cd28 ct28 : Value}
    (a28 : PySem.W.nsIn K mainGlobals "_without_guest" = some (some (.ref f28)))
    (l28 : K.lookup f28 = some ⟨oc28, od28, .func (PySem.W.fnOf "_without_guest" "_without_guest" (defArgs s__without_guest) (defBody s__without_guest) (defScope s__without_guest) .none kV28 dc28 pm28 an28 cd28 ct28), sl28⟩) (c28 : PySem.W.codeIn K cd28 "_without_guest" = true) (k28 : PySem.W.keepIn K (.ref f28) = true)
    {f29 : Addr} {od29 an29 : Option Addr} {sl29 : Array (Option Value)} {oc29 kV29 dc29 pm29 cd29 ct29 : Value}
    (a29 : PySem.W.nsIn K mainGlobals "_with_pair" = some (some (.ref f29)))
    (l29 : K.lookup f29 = some ⟨oc29, od29, .func (PySem.W.fnOf "_with_pair" "_with_pair" (defArgs s__with_pair) (defBody s__with_pair) (defScope s__with_pair) .none kV29 dc29 pm29 an29 cd29 ct29), sl29⟩) (c29 : PySem.W.codeIn K cd29 "_with_pair" = true) (k29 : PySem.W.keepIn K (.ref f29) = true)
    {f30 : Addr} {od30 an30 : Option Addr} {sl30 : Array (Option Value)} {oc30 kV30 dc30 pm30 cd30 ct30 : Value}
    (a30 : PySem.W.nsIn K mainGlobals "_without_pair" = some (some (.ref f30)))
    (l30 : K.lookup f30 = some ⟨oc30, od30, .func (PySem.W.fnOf "_without_pair" "_without_pair" (defArgs s__without_pair) (defBody s__without_pair) (defScope s__without_pair) .none kV30 dc30 pm30 an30 cd30 ct30), sl30⟩) (c30 : PySem.W.codeIn K cd30 "_without_pair" = true) (k30 : PySem.W.keepIn K (.ref f30) = true)
    {f31 : Addr} {od31 an31 : Option Addr} {sl31 : Array (Option Value)} {oc31 kV31 dc31 pm31 cd31 ct31 : Value}
    (a31 : PySem.W.nsIn K mainGlobals "hall_after" = some (some (.ref f31)))
    (l31 : K.lookup f31 = some ⟨oc31, od31, .func (PySem.W.fnOf "hall_after" "hall_after" (defArgs s_hall_after) (defBody s_hall_after) (defScope s_hall_after) .none kV31 dc31 pm31 an31 cd31 ct31), sl31⟩) (c31 : PySem.W.codeIn K cd31 "hall_after" = true) (k31 : PySem.W.keepIn K (.ref f31) = true)
    {f32 : Addr} {od32 an32 : Option Addr} {sl32 : Array (Option Value)} {oc32 kV32 dc32 pm32 cd32 ct32 : Value}
    (a32 : PySem.W.nsIn K mainGlobals "_law_do" = some (some (.ref f32)))
    (l32 : K.lookup f32 = some ⟨oc32, od32, .func (PySem.W.fnOf "_law_do" "_law_do" (defArgs s__law_do) (defBody s__law_do) (defScope s__law_do) .none kV32 dc32 pm32 an32 cd32 ct32), sl32⟩) (c32 : PySem.W.codeIn K cd32 "_law_do" = true) (k32 : PySem.W.keepIn K (.ref f32) = true)
    {f33 : Addr} {od33 an33 : Option Addr} {sl33 : Array (Option Value)} {oc33 kV33 dc33 pm33 cd33 ct33 : Value}
    (a33 : PySem.W.nsIn K mainGlobals "_law_edits_right" = some (some (.ref f33)))
    (l33 : K.lookup f33 = some ⟨oc33, od33, .func (PySem.W.fnOf "_law_edits_right" "_law_edits_right" (defArgs s__law_edits_right) (defBody s__law_edits_right) (defScope s__law_edits_right) .none kV33 dc33 pm33 an33 cd33 ct33), sl33⟩) (c33 : PySem.W.codeIn K cd33 "_law_edits_right" = true) (k33 : PySem.W.keepIn K (.ref f33) = true)
    {f34 : Addr} {od34 an34 : Option Addr} {sl34 : Array (Option Value)} {oc34 kV34 dc34 pm34 cd34 ct34 : Value}
    (a34 : PySem.W.nsIn K mainGlobals "law" = some (some (.ref f34)))
    (l34 : K.lookup f34 = some ⟨oc34, od34, .func (PySem.W.fnOf "law" "law" (defArgs s_law) (defBody s_law) (defScope s_law) .none kV34 dc34 pm34 an34 cd34 ct34), sl34⟩) (c34 : PySem.W.codeIn K cd34 "law" = true) (k34 : PySem.W.keepIn K (.ref f34) = true)
    {f35 : Addr} {od35 an35 : Option Addr} {sl35 : Array (Option Value)} {oc35 kV35 dc35 pm35 cd35 ct35 : Value}
    (a35 : PySem.W.findIn K (.ref C.Party) "_stand" = some (some (.ref f35))) (fn35 : PySem.W.isFn K (.ref f35) = true)
    (ai35_PledgedParty : PySem.W.findIn K (.ref C.PledgedParty) "_stand" = some (some (.ref f35)))
    (l35 : K.lookup f35 = some ⟨oc35, od35, .func (PySem.W.fnOf "_stand" "Party._stand" (defArgs s_Party__stand) (defBody s_Party__stand) (defScope s_Party__stand) .none kV35 dc35 pm35 an35 cd35 ct35), sl35⟩) (c35 : PySem.W.codeIn K cd35 "Party._stand" = true) (k35 : PySem.W.keepIn K (.ref f35) = true)
    {f36 : Addr} {od36 an36 : Option Addr} {sl36 : Array (Option Value)} {oc36 kV36 dc36 pm36 cd36 ct36 : Value}
    (a36 : PySem.W.findIn K (.ref C.Party) "__init__" = some (some (.ref f36))) (fn36 : PySem.W.isFn K (.ref f36) = true)
    (l36 : K.lookup f36 = some ⟨oc36, od36, .func (PySem.W.fnOf "__init__" "Party.__init__" (defArgs s_Party___init__) (defBody s_Party___init__) (defScope s_Party___init__) .none kV36 dc36 pm36 an36 cd36 ct36), sl36⟩) (c36 : PySem.W.codeIn K cd36 "Party.__init__" = true) (k36 : PySem.W.keepIn K (.ref f36) = true)
    {f37 : Addr} {od37 an37 : Option Addr} {sl37 : Array (Option Value)} {oc37 kV37 dc37 pm37 cd37 ct37 : Value}
    {pc37 : Addr} {rs37 : List Value} (a37 : PySem.W.findCls K (.ref C.Party) (.type "type") "read" = some (.get (.builtin "classmethod.__get__") (.ref pc37) .none (.ref C.Party)))
    (rc37 : PySem.W.recIn K pc37 "classmethod" = some (.ref f37 :: rs37)) (fi37 : PySem.W.fnIn K f37 = true) (sg37 : PySem.W.specialIn K (.ref C.Party) "__getattribute__" = some (some (.builtin "type.__getattribute__"))) (rd37 : PySem.W.readsIn K C.Party (.type "type") = true)
    (l37 : K.lookup f37 = some ⟨oc37, od37, .func (PySem.W.fnOf "read" "Party.read" (defArgs s_Party_read) (defBody s_Party_read) (defScope s_Party_read) .none kV37 dc37 pm37 an37 cd37 ct37), sl37⟩) (c37 : PySem.W.codeIn K cd37 "Party.read" = true) (k37 : PySem.W.keepIn K (.ref f37) = true)
    {f38 : Addr} {od38 an38 : Option Addr} {sl38 : Array (Option Value)} {oc38 kV38 dc38 pm38 cd38 ct38 : Value}
    (a38 : PySem.W.findIn K (.ref C.Party) "_hall_at" = some (some (.ref f38))) (fn38 : PySem.W.isFn K (.ref f38) = true)
    (ai38_PledgedParty : PySem.W.findIn K (.ref C.PledgedParty) "_hall_at" = some (some (.ref f38)))
    (l38 : K.lookup f38 = some ⟨oc38, od38, .func (PySem.W.fnOf "_hall_at" "Party._hall_at" (defArgs s_Party__hall_at) (defBody s_Party__hall_at) (defScope s_Party__hall_at) .none kV38 dc38 pm38 an38 cd38 ct38), sl38⟩) (c38 : PySem.W.codeIn K cd38 "Party._hall_at" = true) (k38 : PySem.W.keepIn K (.ref f38) = true)
    {f39 : Addr} {od39 an39 : Option Addr} {sl39 : Array (Option Value)} {oc39 dc39 pm39 cd39 ct39 : Value}
    (a39 : PySem.W.findIn K (.ref C.Party) "state" = some (some (.ref f39))) (fn39 : PySem.W.isFn K (.ref f39) = true)
    (ai39_PledgedParty : PySem.W.findIn K (.ref C.PledgedParty) "state" = some (some (.ref f39)))
    {D39 : Addr}
    (l39 : K.lookup f39 = some ⟨oc39, od39, .func (PySem.W.fnOf "state" "Party.state" (defArgs s_Party_state) (defBody s_Party_state) (defScope s_Party_state) .none (.ref D39) dc39 pm39 an39 cd39 ct39), sl39⟩) (c39 : PySem.W.codeIn K cd39 "Party.state" = true) (k39 : PySem.W.keepIn K (.ref f39) = true)
    (kd39 : PySem.W.nsIn K D39 "version" = some (some .none))
    {f40 : Addr} {od40 an40 : Option Addr} {sl40 : Array (Option Value)} {oc40 kV40 dc40 pm40 cd40 ct40 : Value}
    (a40 : PySem.W.findIn K (.ref C.Party) "edits" = some (some (.ref f40))) (fn40 : PySem.W.isFn K (.ref f40) = true)
    (ai40_PledgedParty : PySem.W.findIn K (.ref C.PledgedParty) "edits" = some (some (.ref f40)))
    (l40 : K.lookup f40 = some ⟨oc40, od40, .func (PySem.W.fnOf "edits" "Party.edits" (defArgs s_Party_edits) (defBody s_Party_edits) (defScope s_Party_edits) .none kV40 dc40 pm40 an40 cd40 ct40), sl40⟩) (c40 : PySem.W.codeIn K cd40 "Party.edits" = true) (k40 : PySem.W.keepIn K (.ref f40) = true)
    {f41 : Addr} {od41 an41 : Option Addr} {sl41 : Array (Option Value)} {oc41 kV41 dc41 pm41 cd41 ct41 : Value}
    (a41 : PySem.W.findIn K (.ref C.Party) "__len__" = some (some (.ref f41))) (fn41 : PySem.W.isFn K (.ref f41) = true)
    (ai41_PledgedParty : PySem.W.findIn K (.ref C.PledgedParty) "__len__" = some (some (.ref f41)))
    (l41 : K.lookup f41 = some ⟨oc41, od41, .func (PySem.W.fnOf "__len__" "Party.__len__" (defArgs s_Party___len__) (defBody s_Party___len__) (defScope s_Party___len__) .none kV41 dc41 pm41 an41 cd41 ct41), sl41⟩) (c41 : PySem.W.codeIn K cd41 "Party.__len__" = true) (k41 : PySem.W.keepIn K (.ref f41) = true)
    {f42 : Addr} {od42 an42 : Option Addr} {sl42 : Array (Option Value)} {oc42 kV42 dc42 pm42 cd42 ct42 : Value}
    (a42 : PySem.W.findIn K (.ref C.Party) "__str__" = some (some (.ref f42))) (fn42 : PySem.W.isFn K (.ref f42) = true)
    (ai42_PledgedParty : PySem.W.findIn K (.ref C.PledgedParty) "__str__" = some (some (.ref f42)))
    (l42 : K.lookup f42 = some ⟨oc42, od42, .func (PySem.W.fnOf "__str__" "Party.__str__" (defArgs s_Party___str__) (defBody s_Party___str__) (defScope s_Party___str__) .none kV42 dc42 pm42 an42 cd42 ct42), sl42⟩) (c42 : PySem.W.codeIn K cd42 "Party.__str__" = true) (k42 : PySem.W.keepIn K (.ref f42) = true)
    {f43 : Addr} {od43 an43 : Option Addr} {sl43 : Array (Option Value)} {oc43 kV43 dc43 pm43 cd43 ct43 : Value}
    (a43 : PySem.W.findIn K (.ref C.Party) "_promised" = some (some (.ref f43))) (fn43 : PySem.W.isFn K (.ref f43) = true)
    (l43 : K.lookup f43 = some ⟨oc43, od43, .func (PySem.W.fnOf "_promised" "Party._promised" (defArgs s_Party__promised) (defBody s_Party__promised) (defScope s_Party__promised) .none kV43 dc43 pm43 an43 cd43 ct43), sl43⟩) (c43 : PySem.W.codeIn K cd43 "Party._promised" = true) (k43 : PySem.W.keepIn K (.ref f43) = true)
    {f44 : Addr} {od44 an44 : Option Addr} {sl44 : Array (Option Value)} {oc44 kV44 dc44 pm44 cd44 ct44 : Value}
    (a44 : PySem.W.findIn K (.ref C.PledgedParty) "_promised" = some (some (.ref f44))) (fn44 : PySem.W.isFn K (.ref f44) = true)
    (l44 : K.lookup f44 = some ⟨oc44, od44, .func (PySem.W.fnOf "_promised" "PledgedParty._promised" (defArgs s_PledgedParty__promised) (defBody s_PledgedParty__promised) (defScope s_PledgedParty__promised) .none kV44 dc44 pm44 an44 cd44 ct44), sl44⟩) (c44 : PySem.W.codeIn K cd44 "PledgedParty._promised" = true) (k44 : PySem.W.keepIn K (.ref f44) = true)
    {f45 : Addr} {od45 an45 : Option Addr} {sl45 : Array (Option Value)} {oc45 kV45 dc45 pm45 cd45 ct45 : Value}
    (a45 : PySem.W.findIn K (.ref C.Party) "__eq__" = some (some (.ref f45))) (fn45 : PySem.W.isFn K (.ref f45) = true)
    (ai45_PledgedParty : PySem.W.findIn K (.ref C.PledgedParty) "__eq__" = some (some (.ref f45)))
    (l45 : K.lookup f45 = some ⟨oc45, od45, .func (PySem.W.fnOf "__eq__" "Party.__eq__" (defArgs s_Party___eq__) (defBody s_Party___eq__) (defScope s_Party___eq__) .none kV45 dc45 pm45 an45 cd45 ct45), sl45⟩) (c45 : PySem.W.codeIn K cd45 "Party.__eq__" = true) (k45 : PySem.W.keepIn K (.ref f45) = true)
    {f46 : Addr} {od46 an46 : Option Addr} {sl46 : Array (Option Value)} {oc46 kV46 dc46 pm46 cd46 ct46 : Value}
    (a46 : PySem.W.findIn K (.ref C.Party) "_ask_idle" = some (some (.ref f46))) (fn46 : PySem.W.isFn K (.ref f46) = true)
    (ai46_PledgedParty : PySem.W.findIn K (.ref C.PledgedParty) "_ask_idle" = some (some (.ref f46)))
    (l46 : K.lookup f46 = some ⟨oc46, od46, .func (PySem.W.fnOf "_ask_idle" "Party._ask_idle" (defArgs s_Party__ask_idle) (defBody s_Party__ask_idle) (defScope s_Party__ask_idle) .none kV46 dc46 pm46 an46 cd46 ct46), sl46⟩) (c46 : PySem.W.codeIn K cd46 "Party._ask_idle" = true) (k46 : PySem.W.keepIn K (.ref f46) = true)
    {f47 : Addr} {od47 an47 : Option Addr} {sl47 : Array (Option Value)} {oc47 kV47 dc47 pm47 cd47 ct47 : Value}
    (a47 : PySem.W.findIn K (.ref C.Party) "_ask_pledge" = some (some (.ref f47))) (fn47 : PySem.W.isFn K (.ref f47) = true)
    (l47 : K.lookup f47 = some ⟨oc47, od47, .func (PySem.W.fnOf "_ask_pledge" "Party._ask_pledge" (defArgs s_Party__ask_pledge) (defBody s_Party__ask_pledge) (defScope s_Party__ask_pledge) .none kV47 dc47 pm47 an47 cd47 ct47), sl47⟩) (c47 : PySem.W.codeIn K cd47 "Party._ask_pledge" = true) (k47 : PySem.W.keepIn K (.ref f47) = true)
    {f48 : Addr} {od48 an48 : Option Addr} {sl48 : Array (Option Value)} {oc48 kV48 dc48 pm48 cd48 ct48 : Value}
    (a48 : PySem.W.findIn K (.ref C.Pledge) "spare" = some (some (.ref f48))) (fn48 : PySem.W.isFn K (.ref f48) = true)
    (ai48_PledgedParty : PySem.W.findIn K (.ref C.PledgedParty) "spare" = some (some (.ref f48)))
    (l48 : K.lookup f48 = some ⟨oc48, od48, .func (PySem.W.fnOf "spare" "Pledge.spare" (defArgs s_Pledge_spare) (defBody s_Pledge_spare) (defScope s_Pledge_spare) .none kV48 dc48 pm48 an48 cd48 ct48), sl48⟩) (c48 : PySem.W.codeIn K cd48 "Pledge.spare" = true) (k48 : PySem.W.keepIn K (.ref f48) = true)
    {f49 : Addr} {od49 an49 : Option Addr} {sl49 : Array (Option Value)} {oc49 kV49 dc49 pm49 cd49 ct49 : Value}
    (a49 : PySem.W.findIn K (.ref C.PledgedParty) "_ask_pledge" = some (some (.ref f49))) (fn49 : PySem.W.isFn K (.ref f49) = true)
    (l49 : K.lookup f49 = some ⟨oc49, od49, .func (PySem.W.fnOf "_ask_pledge" "PledgedParty._ask_pledge" (defArgs s_PledgedParty__ask_pledge) (defBody s_PledgedParty__ask_pledge) (defScope s_PledgedParty__ask_pledge) .none kV49 dc49 pm49 an49 cd49 ct49), sl49⟩) (c49 : PySem.W.codeIn K cd49 "PledgedParty._ask_pledge" = true) (k49 : PySem.W.keepIn K (.ref f49) = true)
    {f50 : Addr} {od50 an50 : Option Addr} {sl50 : Array (Option Value)} {oc50 kV50 dc50 pm50 cd50 ct50 : Value}
    (a50 : PySem.W.findIn K (.ref C.Party) "_do" = some (some (.ref f50))) (fn50 : PySem.W.isFn K (.ref f50) = true)
    (ai50_PledgedParty : PySem.W.findIn K (.ref C.PledgedParty) "_do" = some (some (.ref f50)))
    (l50 : K.lookup f50 = some ⟨oc50, od50, .func (PySem.W.fnOf "_do" "Party._do" (defArgs s_Party__do) (defBody s_Party__do) (defScope s_Party__do) .none kV50 dc50 pm50 an50 cd50 ct50), sl50⟩) (c50 : PySem.W.codeIn K cd50 "Party._do" = true) (k50 : PySem.W.keepIn K (.ref f50) = true)
    {f51 : Addr} {od51 an51 : Option Addr} {sl51 : Array (Option Value)} {oc51 kV51 dc51 pm51 cd51 ct51 : Value}
    (a51 : PySem.W.findIn K (.ref C.Party) "_edit" = some (some (.ref f51))) (fn51 : PySem.W.isFn K (.ref f51) = true)
    (ai51_PledgedParty : PySem.W.findIn K (.ref C.PledgedParty) "_edit" = some (some (.ref f51)))
    (l51 : K.lookup f51 = some ⟨oc51, od51, .func (PySem.W.fnOf "_edit" "Party._edit" (defArgs s_Party__edit) (defBody s_Party__edit) (defScope s_Party__edit) .none kV51 dc51 pm51 an51 cd51 ct51), sl51⟩) (c51 : PySem.W.codeIn K cd51 "Party._edit" = true) (k51 : PySem.W.keepIn K (.ref f51) = true)
    {f52 : Addr} {od52 an52 : Option Addr} {sl52 : Array (Option Value)} {oc52 kV52 dc52 pm52 cd52 ct52 : Value}
    (a52 : PySem.W.findIn K (.ref C.Party) "take" = some (some (.ref f52))) (fn52 : PySem.W.isFn K (.ref f52) = true)
    (ai52_PledgedParty : PySem.W.findIn K (.ref C.PledgedParty) "take" = some (some (.ref f52)))
    (l52 : K.lookup f52 = some ⟨oc52, od52, .func (PySem.W.fnOf "take" "Party.take" (defArgs s_Party_take) (defBody s_Party_take) (defScope s_Party_take) .none kV52 dc52 pm52 an52 cd52 ct52), sl52⟩) (c52 : PySem.W.codeIn K cd52 "Party.take" = true) (k52 : PySem.W.keepIn K (.ref f52) = true)
    {f53 : Addr} {od53 an53 : Option Addr} {sl53 : Array (Option Value)} {oc53 kV53 dc53 pm53 cd53 ct53 : Value}
    (a53 : PySem.W.findIn K (.ref C.Party) "come" = some (some (.ref f53))) (fn53 : PySem.W.isFn K (.ref f53) = true)
    (ai53_PledgedParty : PySem.W.findIn K (.ref C.PledgedParty) "come" = some (some (.ref f53)))
    (l53 : K.lookup f53 = some ⟨oc53, od53, .func (PySem.W.fnOf "come" "Party.come" (defArgs s_Party_come) (defBody s_Party_come) (defScope s_Party_come) .none kV53 dc53 pm53 an53 cd53 ct53), sl53⟩) (c53 : PySem.W.codeIn K cd53 "Party.come" = true) (k53 : PySem.W.keepIn K (.ref f53) = true)
    {f54 : Addr} {od54 an54 : Option Addr} {sl54 : Array (Option Value)} {oc54 kV54 dc54 pm54 cd54 ct54 : Value}
    (a54 : PySem.W.findIn K (.ref C.Party) "leave" = some (some (.ref f54))) (fn54 : PySem.W.isFn K (.ref f54) = true)
    (ai54_PledgedParty : PySem.W.findIn K (.ref C.PledgedParty) "leave" = some (some (.ref f54)))
    (l54 : K.lookup f54 = some ⟨oc54, od54, .func (PySem.W.fnOf "leave" "Party.leave" (defArgs s_Party_leave) (defBody s_Party_leave) (defScope s_Party_leave) .none kV54 dc54 pm54 an54 cd54 ct54), sl54⟩) (c54 : PySem.W.codeIn K cd54 "Party.leave" = true) (k54 : PySem.W.keepIn K (.ref f54) = true)
    {f55 : Addr} {od55 an55 : Option Addr} {sl55 : Array (Option Value)} {oc55 kV55 dc55 pm55 cd55 ct55 : Value}
    (a55 : PySem.W.findIn K (.ref C.Party) "put" = some (some (.ref f55))) (fn55 : PySem.W.isFn K (.ref f55) = true)
    (ai55_PledgedParty : PySem.W.findIn K (.ref C.PledgedParty) "put" = some (some (.ref f55)))
    (l55 : K.lookup f55 = some ⟨oc55, od55, .func (PySem.W.fnOf "put" "Party.put" (defArgs s_Party_put) (defBody s_Party_put) (defScope s_Party_put) .none kV55 dc55 pm55 an55 cd55 ct55), sl55⟩) (c55 : PySem.W.codeIn K cd55 "Party.put" = true) (k55 : PySem.W.keepIn K (.ref f55) = true)
    {f56 : Addr} {od56 an56 : Option Addr} {sl56 : Array (Option Value)} {oc56 kV56 dc56 pm56 cd56 ct56 : Value}
    (a56 : PySem.W.findIn K (.ref C.Party) "undo" = some (some (.ref f56))) (fn56 : PySem.W.isFn K (.ref f56) = true)
    (ai56_PledgedParty : PySem.W.findIn K (.ref C.PledgedParty) "undo" = some (some (.ref f56)))
    (l56 : K.lookup f56 = some ⟨oc56, od56, .func (PySem.W.fnOf "undo" "Party.undo" (defArgs s_Party_undo) (defBody s_Party_undo) (defScope s_Party_undo) .none kV56 dc56 pm56 an56 cd56 ct56), sl56⟩) (c56 : PySem.W.codeIn K cd56 "Party.undo" = true) (k56 : PySem.W.keepIn K (.ref f56) = true)
    {f57 : Addr} {od57 an57 : Option Addr} {sl57 : Array (Option Value)} {oc57 kV57 dc57 pm57 cd57 ct57 : Value}
    (a57 : PySem.W.findIn K (.ref C.BadHall) "__init__" = some (some (.ref f57))) (tI57 : PySem.W.typeIn K (.ref f57) = some (.type "function"))
    (l57 : K.lookup f57 = some ⟨oc57, od57, .func (PySem.W.fnOf "__init__" "BadHall.__init__" (defArgs s_BadHall_init) (defBody s_BadHall_init) (defScope s_BadHall_init) .none kV57 dc57 pm57 an57 cd57 ct57), sl57⟩) (c57 : PySem.W.codeIn K cd57 "BadHall.__init__" = true) (k57 : PySem.W.keepIn K (.ref f57) = true)
    {f58 : Addr} {od58 an58 : Option Addr} {sl58 : Array (Option Value)} {oc58 kV58 dc58 pm58 cd58 ct58 : Value}
    (a58 : PySem.W.findIn K (.ref C.BadText) "__init__" = some (some (.ref f58))) (tI58 : PySem.W.typeIn K (.ref f58) = some (.type "function"))
    (l58 : K.lookup f58 = some ⟨oc58, od58, .func (PySem.W.fnOf "__init__" "BadText.__init__" (defArgs s_BadText_init) (defBody s_BadText_init) (defScope s_BadText_init) .none kV58 dc58 pm58 an58 cd58 ct58), sl58⟩) (c58 : PySem.W.codeIn K cd58 "BadText.__init__" = true) (k58 : PySem.W.keepIn K (.ref f58) = true)
    {f59 : Addr} {od59 an59 : Option Addr} {sl59 : Array (Option Value)} {oc59 kV59 dc59 pm59 cd59 ct59 : Value}
    (a59 : PySem.W.findIn K (.ref C.NoVersion) "__init__" = some (some (.ref f59))) (tI59 : PySem.W.typeIn K (.ref f59) = some (.type "function"))
    (l59 : K.lookup f59 = some ⟨oc59, od59, .func (PySem.W.fnOf "__init__" "NoVersion.__init__" (defArgs s_NoVersion_init) (defBody s_NoVersion_init) (defScope s_NoVersion_init) .none kV59 dc59 pm59 an59 cd59 ct59), sl59⟩) (c59 : PySem.W.codeIn K cd59 "NoVersion.__init__" = true) (k59 : PySem.W.keepIn K (.ref f59) = true)
    {f60 : Addr} {od60 an60 : Option Addr} {sl60 : Array (Option Value)} {oc60 kV60 dc60 pm60 cd60 ct60 : Value}
    (a60 : PySem.W.findIn K (.ref C.BadFoot) "__init__" = some (some (.ref f60))) (tI60 : PySem.W.typeIn K (.ref f60) = some (.type "function"))
    (l60 : K.lookup f60 = some ⟨oc60, od60, .func (PySem.W.fnOf "__init__" "BadFoot.__init__" (defArgs s_BadFoot_init) (defBody s_BadFoot_init) (defScope s_BadFoot_init) .none kV60 dc60 pm60 an60 cd60 ct60), sl60⟩) (c60 : PySem.W.codeIn K cd60 "BadFoot.__init__" = true) (k60 : PySem.W.keepIn K (.ref f60) = true)
    {f61 : Addr} {od61 an61 : Option Addr} {sl61 : Array (Option Value)} {oc61 kV61 dc61 pm61 cd61 ct61 : Value}
    (a61 : PySem.W.findIn K (.ref C.NoGuest) "__init__" = some (some (.ref f61))) (tI61 : PySem.W.typeIn K (.ref f61) = some (.type "function"))
    (l61 : K.lookup f61 = some ⟨oc61, od61, .func (PySem.W.fnOf "__init__" "NoGuest.__init__" (defArgs s_NoGuest_init) (defBody s_NoGuest_init) (defScope s_NoGuest_init) .none kV61 dc61 pm61 an61 cd61 ct61), sl61⟩) (c61 : PySem.W.codeIn K cd61 "NoGuest.__init__" = true) (k61 : PySem.W.keepIn K (.ref f61) = true)
    {f62 : Addr} {od62 an62 : Option Addr} {sl62 : Array (Option Value)} {oc62 kV62 dc62 pm62 cd62 ct62 : Value}
    (a62 : PySem.W.findIn K (.ref C.BadSize) "__init__" = some (some (.ref f62))) (tI62 : PySem.W.typeIn K (.ref f62) = some (.type "function"))
    (l62 : K.lookup f62 = some ⟨oc62, od62, .func (PySem.W.fnOf "__init__" "BadSize.__init__" (defArgs s_BadSize_init) (defBody s_BadSize_init) (defScope s_BadSize_init) .none kV62 dc62 pm62 an62 cd62 ct62), sl62⟩) (c62 : PySem.W.codeIn K cd62 "BadSize.__init__" = true) (k62 : PySem.W.keepIn K (.ref f62) = true)
    {f63 : Addr} {od63 an63 : Option Addr} {sl63 : Array (Option Value)} {oc63 kV63 dc63 pm63 cd63 ct63 : Value}
    (a63 : PySem.W.findIn K (.ref C.NoPair) "__init__" = some (some (.ref f63))) (tI63 : PySem.W.typeIn K (.ref f63) = some (.type "function"))
    (l63 : K.lookup f63 = some ⟨oc63, od63, .func (PySem.W.fnOf "__init__" "NoPair.__init__" (defArgs s_NoPair_init) (defBody s_NoPair_init) (defScope s_NoPair_init) .none kV63 dc63 pm63 an63 cd63 ct63), sl63⟩) (c63 : PySem.W.codeIn K cd63 "NoPair.__init__" = true) (k63 : PySem.W.keepIn K (.ref f63) = true)
    {f64 : Addr} {od64 an64 : Option Addr} {sl64 : Array (Option Value)} {oc64 kV64 dc64 pm64 cd64 ct64 : Value}
    (a64 : PySem.W.findIn K (.ref C.BadNumber) "__init__" = some (some (.ref f64))) (tI64 : PySem.W.typeIn K (.ref f64) = some (.type "function"))
    (l64 : K.lookup f64 = some ⟨oc64, od64, .func (PySem.W.fnOf "__init__" "BadNumber.__init__" (defArgs s_BadNumber_init) (defBody s_BadNumber_init) (defScope s_BadNumber_init) .none kV64 dc64 pm64 an64 cd64 ct64), sl64⟩) (c64 : PySem.W.codeIn K cd64 "BadNumber.__init__" = true) (k64 : PySem.W.keepIn K (.ref f64) = true)
    {f65 : Addr} {od65 an65 : Option Addr} {sl65 : Array (Option Value)} {oc65 kV65 dc65 pm65 cd65 ct65 : Value}
    (a65 : PySem.W.findIn K (.ref C.TooFewServed) "__init__" = some (some (.ref f65))) (tI65 : PySem.W.typeIn K (.ref f65) = some (.type "function"))
    (l65 : K.lookup f65 = some ⟨oc65, od65, .func (PySem.W.fnOf "__init__" "TooFewServed.__init__" (defArgs s_TooFewServed_init) (defBody s_TooFewServed_init) (defScope s_TooFewServed_init) .none kV65 dc65 pm65 an65 cd65 ct65), sl65⟩) (c65 : PySem.W.codeIn K cd65 "TooFewServed.__init__" = true) (k65 : PySem.W.keepIn K (.ref f65) = true)
    (z_LookupError : PySem.W.nsIn K mainGlobals "LookupError" = some none)
    (z_ValueError : PySem.W.nsIn K mainGlobals "ValueError" = some none)
    (z_abs : PySem.W.nsIn K mainGlobals "abs" = some none)
    (z_all : PySem.W.nsIn K mainGlobals "all" = some none)
    (z_bool : PySem.W.nsIn K mainGlobals "bool" = some none)
    (z_enumerate : PySem.W.nsIn K mainGlobals "enumerate" = some none)
    (z_int : PySem.W.nsIn K mainGlobals "int" = some none)
    (z_isinstance : PySem.W.nsIn K mainGlobals "isinstance" = some none)
    (z_len : PySem.W.nsIn K mainGlobals "len" = some none)
    (z_list : PySem.W.nsIn K mainGlobals "list" = some none)
    (z_max : PySem.W.nsIn K mainGlobals "max" = some none)
    (z_min : PySem.W.nsIn K mainGlobals "min" = some none)
    (z_range : PySem.W.nsIn K mainGlobals "range" = some none)
    (z_repr : PySem.W.nsIn K mainGlobals "repr" = some none)
    (z_set : PySem.W.nsIn K mainGlobals "set" = some none)
    (z_sorted : PySem.W.nsIn K mainGlobals "sorted" = some none)
    (z_str : PySem.W.nsIn K mainGlobals "str" = some none)
    (z_sum : PySem.W.nsIn K mainGlobals "sum" = some none)
    (z_tuple : PySem.W.nsIn K mainGlobals "tuple" = some none)
    (z_zip : PySem.W.nsIn K mainGlobals "zip" = some none)
    {t_LIMIT : Tok} (y_LIMIT : PySem.W.nsIn K mainGlobals "LIMIT" = some (some (.int (1000) t_LIMIT)))
    {t_MAX_SIZE : Tok} (y_MAX_SIZE : PySem.W.nsIn K mainGlobals "MAX_SIZE" = some (some (.int (1000000) t_MAX_SIZE)))
    {t_MAX_GUESTS : Tok} (y_MAX_GUESTS : PySem.W.nsIn K mainGlobals "MAX_GUESTS" = some (some (.int (20) t_MAX_GUESTS)))
    {t_MAX_PAIRS : Tok} (y_MAX_PAIRS : PySem.W.nsIn K mainGlobals "MAX_PAIRS" = some (some (.int (20) t_MAX_PAIRS)))
    {t_SLASH : Tok} (y_SLASH : PySem.W.nsIn K mainGlobals "SLASH" = some (some (.str "/" t_SLASH)))
    {t_NO_PAIRS : Tok} (y_NO_PAIRS : PySem.W.nsIn K mainGlobals "NO_PAIRS" = some (some (.str "-" t_NO_PAIRS)))
    {t_WORDS : Tok} (y_WORDS : PySem.W.nsIn K mainGlobals "WORDS" = some (some (.int (3) t_WORDS)))
    (h_cg : PySem.W.specialIn K (.builtin "object.__class__") "__get__" = some (some (.builtin "getset_descriptor.__get__")))
    (h_ct : PySem.W.takesIn K (.builtin "object.__class__") = some true)
    (h_a_PartyError : PySem.W.nsIn K mainGlobals "PartyError" = some (some (.ref C.PartyError)))
    (h_ty_PartyError : PySem.W.typeIn K (.ref C.PartyError) = some (.type "type"))
    (h_hd_PartyError : PySem.W.hasDictIn K C.PartyError = true)
    (h_a_TooLarge : PySem.W.nsIn K mainGlobals "TooLarge" = some (some (.ref C.TooLarge)))
    (h_cl_TooLarge : PySem.W.isClsIn K C.TooLarge = true)
    (h_ty_TooLarge : PySem.W.typeIn K (.ref C.TooLarge) = some (.type "type"))
    (h_s_TooLarge_TooLarge : PySem.W.subIn K (.ref C.TooLarge) (.ref C.TooLarge) = some true)
    (h_a_BadShelf : PySem.W.nsIn K mainGlobals "BadShelf" = some (some (.ref C.BadShelf)))
    (h_cl_BadShelf : PySem.W.isClsIn K C.BadShelf = true)
    (h_ty_BadShelf : PySem.W.typeIn K (.ref C.BadShelf) = some (.type "type"))
    (h_s_BadShelf_BadShelf : PySem.W.subIn K (.ref C.BadShelf) (.ref C.BadShelf) = some true)
    (h_a_TooManyPairs : PySem.W.nsIn K mainGlobals "TooManyPairs" = some (some (.ref C.TooManyPairs)))
    (h_ty_TooManyPairs : PySem.W.typeIn K (.ref C.TooManyPairs) = some (.type "type"))
    (h_k_TooManyPairs : PySem.W.keepIn K (.ref C.TooManyPairs) = true)
    (h_a_BadFoot : PySem.W.nsIn K mainGlobals "BadFoot" = some (some (.ref C.BadFoot)))
    (h_ty_BadFoot : PySem.W.typeIn K (.ref C.BadFoot) = some (.type "type"))
    (h_k_BadFoot : PySem.W.keepIn K (.ref C.BadFoot) = true)
    (h_sa_BadFoot : PySem.W.findIn K (.ref C.BadFoot) "__setattr__" = some (some (.builtin "object.__setattr__")))
    (h_a_BadHall : PySem.W.nsIn K mainGlobals "BadHall" = some (some (.ref C.BadHall)))
    (h_cl_BadHall : PySem.W.isClsIn K C.BadHall = true)
    (h_ty_BadHall : PySem.W.typeIn K (.ref C.BadHall) = some (.type "type"))
    (h_k_BadHall : PySem.W.keepIn K (.ref C.BadHall) = true)
    (h_sa_BadHall : PySem.W.findIn K (.ref C.BadHall) "__setattr__" = some (some (.builtin "object.__setattr__")))
    (h_s_BadHall_BadHall : PySem.W.subIn K (.ref C.BadHall) (.ref C.BadHall) = some true)
    (h_a_Busy : PySem.W.nsIn K mainGlobals "Busy" = some (some (.ref C.Busy)))
    (h_ty_Busy : PySem.W.typeIn K (.ref C.Busy) = some (.type "type"))
    (h_k_Busy : PySem.W.keepIn K (.ref C.Busy) = true)
    (h_a_TooManyEdits : PySem.W.nsIn K mainGlobals "TooManyEdits" = some (some (.ref C.TooManyEdits)))
    (h_ty_TooManyEdits : PySem.W.typeIn K (.ref C.TooManyEdits) = some (.type "type"))
    (h_k_TooManyEdits : PySem.W.keepIn K (.ref C.TooManyEdits) = true)
    (h_a_TooManyGuests : PySem.W.nsIn K mainGlobals "TooManyGuests" = some (some (.ref C.TooManyGuests)))
    (h_ty_TooManyGuests : PySem.W.typeIn K (.ref C.TooManyGuests) = some (.type "type"))
    (h_k_TooManyGuests : PySem.W.keepIn K (.ref C.TooManyGuests) = true)
    (h_a_LastGuest : PySem.W.nsIn K mainGlobals "LastGuest" = some (some (.ref C.LastGuest)))
    (h_ty_LastGuest : PySem.W.typeIn K (.ref C.LastGuest) = some (.type "type"))
    (h_k_LastGuest : PySem.W.keepIn K (.ref C.LastGuest) = true)
    (h_a_BadSize : PySem.W.nsIn K mainGlobals "BadSize" = some (some (.ref C.BadSize)))
    (h_ty_BadSize : PySem.W.typeIn K (.ref C.BadSize) = some (.type "type"))
    (h_k_BadSize : PySem.W.keepIn K (.ref C.BadSize) = true)
    (h_sa_BadSize : PySem.W.findIn K (.ref C.BadSize) "__setattr__" = some (some (.builtin "object.__setattr__")))
    (h_a_NothingToUndo : PySem.W.nsIn K mainGlobals "NothingToUndo" = some (some (.ref C.NothingToUndo)))
    (h_ty_NothingToUndo : PySem.W.typeIn K (.ref C.NothingToUndo) = some (.type "type"))
    (h_k_NothingToUndo : PySem.W.keepIn K (.ref C.NothingToUndo) = true)
    (h_hd_NothingToUndo : PySem.W.hasDictIn K C.NothingToUndo = true)
    (h_s_NothingToUndo_NothingToUndo : PySem.W.subIn K (.ref C.NothingToUndo) (.ref C.NothingToUndo) = some true)
    (h_a_BadNumber : PySem.W.nsIn K mainGlobals "BadNumber" = some (some (.ref C.BadNumber)))
    (h_ty_BadNumber : PySem.W.typeIn K (.ref C.BadNumber) = some (.type "type"))
    (h_k_BadNumber : PySem.W.keepIn K (.ref C.BadNumber) = true)
    (h_sa_BadNumber : PySem.W.findIn K (.ref C.BadNumber) "__setattr__" = some (some (.builtin "object.__setattr__")))
    (h_a_TooFewServed : PySem.W.nsIn K mainGlobals "TooFewServed" = some (some (.ref C.TooFewServed)))
    (h_ty_TooFewServed : PySem.W.typeIn K (.ref C.TooFewServed) = some (.type "type"))
    (h_k_TooFewServed : PySem.W.keepIn K (.ref C.TooFewServed) = true)
    (h_sa_TooFewServed : PySem.W.findIn K (.ref C.TooFewServed) "__setattr__" = some (some (.builtin "object.__setattr__")))
    (h_a_BadText : PySem.W.nsIn K mainGlobals "BadText" = some (some (.ref C.BadText)))
    (h_cl_BadText : PySem.W.isClsIn K C.BadText = true)
    (h_ty_BadText : PySem.W.typeIn K (.ref C.BadText) = some (.type "type"))
    (h_k_BadText : PySem.W.keepIn K (.ref C.BadText) = true)
    (h_hd_BadText : PySem.W.hasDictIn K C.BadText = true)
    (h_ca_BadText : PySem.W.findIn K (.ref C.BadText) "__class__" = some (some (.builtin "object.__class__")))
    (h_mo_BadText : PySem.W.mroIn K C.BadText (.type "object") = some true)
    (h_sa_BadText : PySem.W.findIn K (.ref C.BadText) "__setattr__" = some (some (.builtin "object.__setattr__")))
    (h_s_BadText_PartyError : PySem.W.subIn K (.ref C.BadText) (.ref C.PartyError) = some true)
    (h_s_BadText_TooLarge : PySem.W.subIn K (.ref C.BadText) (.ref C.TooLarge) = some false)
    (h_s_BadText_BadShelf : PySem.W.subIn K (.ref C.BadText) (.ref C.BadShelf) = some false)
    (h_s_BadText_BadHall : PySem.W.subIn K (.ref C.BadText) (.ref C.BadHall) = some false)
    (h_s_BadText_BadText : PySem.W.subIn K (.ref C.BadText) (.ref C.BadText) = some true)
    (h_s_BadText_ValueError : PySem.W.subIn K (.ref C.BadText) (.type "ValueError") = some true)
    (h_a_NoGuest : PySem.W.nsIn K mainGlobals "NoGuest" = some (some (.ref C.NoGuest)))
    (h_ty_NoGuest : PySem.W.typeIn K (.ref C.NoGuest) = some (.type "type"))
    (h_k_NoGuest : PySem.W.keepIn K (.ref C.NoGuest) = true)
    (h_sa_NoGuest : PySem.W.findIn K (.ref C.NoGuest) "__setattr__" = some (some (.builtin "object.__setattr__")))
    (h_a_NoPair : PySem.W.nsIn K mainGlobals "NoPair" = some (some (.ref C.NoPair)))
    (h_ty_NoPair : PySem.W.typeIn K (.ref C.NoPair) = some (.type "type"))
    (h_k_NoPair : PySem.W.keepIn K (.ref C.NoPair) = true)
    (h_sa_NoPair : PySem.W.findIn K (.ref C.NoPair) "__setattr__" = some (some (.builtin "object.__setattr__")))
    (h_a_NoVersion : PySem.W.nsIn K mainGlobals "NoVersion" = some (some (.ref C.NoVersion)))
    (h_ty_NoVersion : PySem.W.typeIn K (.ref C.NoVersion) = some (.type "type"))
    (h_k_NoVersion : PySem.W.keepIn K (.ref C.NoVersion) = true)
    (h_sa_NoVersion : PySem.W.findIn K (.ref C.NoVersion) "__setattr__" = some (some (.builtin "object.__setattr__")))
    (h_a_Pledge : PySem.W.nsIn K mainGlobals "Pledge" = some (some (.ref C.Pledge)))
    (h_hd_Pledge : PySem.W.hasDictIn K C.Pledge = true)
    (h_sa_Pledge : PySem.W.findIn K (.ref C.Pledge) "__setattr__" = some (some (.builtin "object.__setattr__")))
    (h_a_Party : PySem.W.nsIn K mainGlobals "Party" = some (some (.ref C.Party)))
    (h_cl_Party : PySem.W.isClsIn K C.Party = true)
    (h_ty_Party : PySem.W.typeIn K (.ref C.Party) = some (.type "type"))
    (h_k_Party : PySem.W.keepIn K (.ref C.Party) = true)
    (h_hd_Party : PySem.W.hasDictIn K C.Party = true)
    (h_ca_Party : PySem.W.findIn K (.ref C.Party) "__class__" = some (some (.builtin "object.__class__")))
    (h_mo_Party : PySem.W.mroIn K C.Party (.type "object") = some true)
    (h_sa_Party : PySem.W.findIn K (.ref C.Party) "__setattr__" = some (some (.builtin "object.__setattr__")))
    (h_s_Party_Party : PySem.W.subIn K (.ref C.Party) (.ref C.Party) = some true)
    (h_s_Party_PledgedParty : PySem.W.subIn K (.ref C.Party) (.ref C.PledgedParty) = some false)
    (h_s_Party_list : PySem.W.subIn K (.ref C.Party) (.type "list") = some false)
    (h_a_PledgedParty : PySem.W.nsIn K mainGlobals "PledgedParty" = some (some (.ref C.PledgedParty)))
    (h_cl_PledgedParty : PySem.W.isClsIn K C.PledgedParty = true)
    (h_ty_PledgedParty : PySem.W.typeIn K (.ref C.PledgedParty) = some (.type "type"))
    (h_hd_PledgedParty : PySem.W.hasDictIn K C.PledgedParty = true)
    (h_ca_PledgedParty : PySem.W.findIn K (.ref C.PledgedParty) "__class__" = some (some (.builtin "object.__class__")))
    (h_mo_PledgedParty : PySem.W.mroIn K C.PledgedParty (.type "object") = some true)
    (h_sa_PledgedParty : PySem.W.findIn K (.ref C.PledgedParty) "__setattr__" = some (some (.builtin "object.__setattr__")))
    (h_s_PledgedParty_Party : PySem.W.subIn K (.ref C.PledgedParty) (.ref C.Party) = some true)
    (h_s_PledgedParty_PledgedParty : PySem.W.subIn K (.ref C.PledgedParty) (.ref C.PledgedParty) = some true)
    (h_sb_PartyError : PySem.W.subIn K (.ref C.PartyError) (.type "BaseException") = some true)
    (h_sb_TooManyPairs : PySem.W.subIn K (.ref C.TooManyPairs) (.type "BaseException") = some true)
    (h_sb_BadFoot : PySem.W.subIn K (.ref C.BadFoot) (.type "BaseException") = some true)
    (h_n_BadFoot : PySem.W.findIn K (.ref C.BadFoot) "value" = some none)
    (h_sb_BadHall : PySem.W.subIn K (.ref C.BadHall) (.type "BaseException") = some true)
    (h_n_BadHall : PySem.W.findIn K (.ref C.BadHall) "error" = some none)
    (h_sb_Busy : PySem.W.subIn K (.ref C.Busy) (.type "BaseException") = some true)
    (h_sb_TooManyEdits : PySem.W.subIn K (.ref C.TooManyEdits) (.type "BaseException") = some true)
    (h_sb_TooManyGuests : PySem.W.subIn K (.ref C.TooManyGuests) (.type "BaseException") = some true)
    (h_sb_LastGuest : PySem.W.subIn K (.ref C.LastGuest) (.type "BaseException") = some true)
    (h_sb_BadSize : PySem.W.subIn K (.ref C.BadSize) (.type "BaseException") = some true)
    (h_n_BadSize : PySem.W.findIn K (.ref C.BadSize) "value" = some none)
    (h_sb_NothingToUndo : PySem.W.subIn K (.ref C.NothingToUndo) (.type "BaseException") = some true)
    (h_sb_BadNumber : PySem.W.subIn K (.ref C.BadNumber) (.type "BaseException") = some true)
    (h_n_BadNumber : PySem.W.findIn K (.ref C.BadNumber) "value" = some none)
    (h_sb_TooFewServed : PySem.W.subIn K (.ref C.TooFewServed) (.type "BaseException") = some true)
    (h_n_TooFewServed : PySem.W.findIn K (.ref C.TooFewServed) "number" = some none)
    (h_ga_BadText : PySem.W.findIn K (.ref C.BadText) "__getattribute__" = some (some (.builtin "BaseException.__getattribute__")))
    (h_gt_BadText : PySem.W.findIn K (.ref C.BadText) "__getattr__" = some none)
    (h_sb_BadText : PySem.W.subIn K (.ref C.BadText) (.type "BaseException") = some true)
    (h_n_BadText : PySem.W.findIn K (.ref C.BadText) "index" = some none)
    (h_sb_NoGuest : PySem.W.subIn K (.ref C.NoGuest) (.type "BaseException") = some true)
    (h_n_NoGuest : PySem.W.findIn K (.ref C.NoGuest) "value" = some none)
    (h_sb_NoPair : PySem.W.subIn K (.ref C.NoPair) (.type "BaseException") = some true)
    (h_n_NoPair : PySem.W.findIn K (.ref C.NoPair) "value" = some none)
    (h_sb_NoVersion : PySem.W.subIn K (.ref C.NoVersion) (.type "BaseException") = some true)
    (h_n_NoVersion : PySem.W.findIn K (.ref C.NoVersion) "value" = some none)
    {tv_cv_Party_MOST_EDITS : Tok} (h_cv_Party_MOST_EDITS : PySem.W.findIn K (.ref C.Party) "MOST_EDITS" = some (some (.int 60 tv_cv_Party_MOST_EDITS)))
    {tv_cv_PledgedParty_MOST_EDITS : Tok} (h_cv_PledgedParty_MOST_EDITS : PySem.W.findIn K (.ref C.PledgedParty) "MOST_EDITS" = some (some (.int 60 tv_cv_PledgedParty_MOST_EDITS)))
    (h_a_CHANGES : PySem.W.nsIn K mainGlobals "CHANGES" = some (some (.ref C.CHANGES)))
    (h_pg_Pledge : PySem.W.plainGet K C.Pledge Str.empty = true)
    (h_po_Pledge : PySem.W.plainOver K C.Pledge = true)
    (h_f_Pledge_pledge : PySem.W.findIn K (.ref C.Pledge) "pledge" = some none)
    (h_pg_Party : PySem.W.plainGet K C.Party Str.empty = true)
    (h_po_Party : PySem.W.plainOver K C.Party = true)
    (h_mk_Party : PySem.W.makesIn K C.Party = true)
    (h_f_Party__busy : PySem.W.findIn K (.ref C.Party) "_busy" = some none)
    (h_f_Party_hall : PySem.W.findIn K (.ref C.Party) "hall" = some none)
    (h_f_Party_most : PySem.W.findIn K (.ref C.Party) "most" = some none)
    (h_f_Party_fewest : PySem.W.findIn K (.ref C.Party) "fewest" = some none)
    (h_f_Party__halls : PySem.W.findIn K (.ref C.Party) "_halls" = some none)
    (h_f_Party__done : PySem.W.findIn K (.ref C.Party) "_done" = some none)
    (h_pg_PledgedParty : PySem.W.plainGet K C.PledgedParty Str.empty = true)
    (h_po_PledgedParty : PySem.W.plainOver K C.PledgedParty = true)
    (h_f_PledgedParty__busy : PySem.W.findIn K (.ref C.PledgedParty) "_busy" = some none)
    (h_f_PledgedParty_hall : PySem.W.findIn K (.ref C.PledgedParty) "hall" = some none)
    (h_f_PledgedParty_most : PySem.W.findIn K (.ref C.PledgedParty) "most" = some none)
    (h_f_PledgedParty_fewest : PySem.W.findIn K (.ref C.PledgedParty) "fewest" = some none)
    (h_f_PledgedParty__halls : PySem.W.findIn K (.ref C.PledgedParty) "_halls" = some none)
    (h_f_PledgedParty__done : PySem.W.findIn K (.ref C.PledgedParty) "_done" = some none)
    (h_f_PledgedParty_pledge : PySem.W.findIn K (.ref C.PledgedParty) "pledge" = some none)
    (hk_CHANGES_come : PySem.W.nsIn K C.CHANGES "come" = some (some (.ref f27)))
    (hk_CHANGES_leave : PySem.W.nsIn K C.CHANGES "leave" = some (some (.ref f28)))
    (hk_CHANGES_put : PySem.W.nsIn K C.CHANGES "put" = some (some (.ref f29)))
    (hk_CHANGES_take : PySem.W.nsIn K C.CHANGES "take" = some (some (.ref f30)))
    {es_CHANGES : Array DictEntry} {nd_CHANGES : Nat} (kd_CHANGES : K.lookup C.CHANGES = some ⟨.type "dict", none, .dict es_CHANGES nd_CHANGES, #[]⟩)
    (kl_CHANGES : PySem.W.KeysLit w.params es_CHANGES.toList) (ks_CHANGES : (C.CHANGES == sysModules) = false)
    {nm_BadHall q_BadHall : Str} {N_BadHall : Addr} {bs_BadHall bm_BadHall : List Value} {sn_BadHall : List Str} {sub_BadHall : List Value} {ab_BadHall : Bool} {col_BadHall : Option Bool} {dd_BadHall : Option Addr} {m0_BadHall m1_BadHall m2_BadHall m3_BadHall m5_BadHall : Option Value}
    (xL_BadHall : K.lookup C.BadHall = some (excClassObj nm_BadHall q_BadHall C.BadHall N_BadHall bs_BadHall bm_BadHall true sn_BadHall sub_BadHall ab_BadHall col_BadHall dd_BadHall m0_BadHall m1_BadHall m2_BadHall m3_BadHall m5_BadHall "ValueError.__new__")) (xr_BadHall : PySem.HandSPX.refsVE bm_BadHall = true)
    {nm_BadText q_BadText : Str} {N_BadText : Addr} {bs_BadText bm_BadText : List Value} {sn_BadText : List Str} {sub_BadText : List Value} {ab_BadText : Bool} {col_BadText : Option Bool} {dd_BadText : Option Addr} {m0_BadText m1_BadText m2_BadText m3_BadText m5_BadText : Option Value}
    (xL_BadText : K.lookup C.BadText = some (excClassObj nm_BadText q_BadText C.BadText N_BadText bs_BadText bm_BadText true sn_BadText sub_BadText ab_BadText col_BadText dd_BadText m0_BadText m1_BadText m2_BadText m3_BadText m5_BadText "ValueError.__new__")) (xr_BadText : PySem.HandSPX.refsVE bm_BadText = true)
    {nm_NoVersion q_NoVersion : Str} {N_NoVersion : Addr} {bs_NoVersion : List Value} {sn_NoVersion : List Str} {sub_NoVersion : List Value} {ab_NoVersion : Bool} {col_NoVersion : Option Bool} {dd_NoVersion : Option Addr} {m0_NoVersion m1_NoVersion m2_NoVersion m3_NoVersion m5_NoVersion : Option Value}
    (xL_NoVersion : K.lookup C.NoVersion = some (excClassObj nm_NoVersion q_NoVersion C.NoVersion N_NoVersion bs_NoVersion LkE.leT true sn_NoVersion sub_NoVersion ab_NoVersion col_NoVersion dd_NoVersion m0_NoVersion m1_NoVersion m2_NoVersion m3_NoVersion m5_NoVersion "LookupError.__new__"))
    {nm_BadFoot q_BadFoot : Str} {N_BadFoot : Addr} {bs_BadFoot bm_BadFoot : List Value} {sn_BadFoot : List Str} {sub_BadFoot : List Value} {ab_BadFoot : Bool} {col_BadFoot : Option Bool} {dd_BadFoot : Option Addr} {m0_BadFoot m1_BadFoot m2_BadFoot m3_BadFoot m5_BadFoot : Option Value}
    (xL_BadFoot : K.lookup C.BadFoot = some (excClassObj nm_BadFoot q_BadFoot C.BadFoot N_BadFoot bs_BadFoot bm_BadFoot true sn_BadFoot sub_BadFoot ab_BadFoot col_BadFoot dd_BadFoot m0_BadFoot m1_BadFoot m2_BadFoot m3_BadFoot m5_BadFoot "ValueError.__new__")) (xr_BadFoot : PySem.HandSPX.refsVE bm_BadFoot = true)
    {nm_NoGuest q_NoGuest : Str} {N_NoGuest : Addr} {bs_NoGuest : List Value} {sn_NoGuest : List Str} {sub_NoGuest : List Value} {ab_NoGuest : Bool} {col_NoGuest : Option Bool} {dd_NoGuest : Option Addr} {m0_NoGuest m1_NoGuest m2_NoGuest m3_NoGuest m5_NoGuest : Option Value}
    (xL_NoGuest : K.lookup C.NoGuest = some (excClassObj nm_NoGuest q_NoGuest C.NoGuest N_NoGuest bs_NoGuest LkE.leT true sn_NoGuest sub_NoGuest ab_NoGuest col_NoGuest dd_NoGuest m0_NoGuest m1_NoGuest m2_NoGuest m3_NoGuest m5_NoGuest "LookupError.__new__"))
    {nm_BadSize q_BadSize : Str} {N_BadSize : Addr} {bs_BadSize bm_BadSize : List Value} {sn_BadSize : List Str} {sub_BadSize : List Value} {ab_BadSize : Bool} {col_BadSize : Option Bool} {dd_BadSize : Option Addr} {m0_BadSize m1_BadSize m2_BadSize m3_BadSize m5_BadSize : Option Value}
    (xL_BadSize : K.lookup C.BadSize = some (excClassObj nm_BadSize q_BadSize C.BadSize N_BadSize bs_BadSize bm_BadSize true sn_BadSize sub_BadSize ab_BadSize col_BadSize dd_BadSize m0_BadSize m1_BadSize m2_BadSize m3_BadSize m5_BadSize "ValueError.__new__")) (xr_BadSize : PySem.HandSPX.refsVE bm_BadSize = true)
    {nm_NoPair q_NoPair : Str} {N_NoPair : Addr} {bs_NoPair : List Value} {sn_NoPair : List Str} {sub_NoPair : List Value} {ab_NoPair : Bool} {col_NoPair : Option Bool} {dd_NoPair : Option Addr} {m0_NoPair m1_NoPair m2_NoPair m3_NoPair m5_NoPair : Option Value}
    (xL_NoPair : K.lookup C.NoPair = some (excClassObj nm_NoPair q_NoPair C.NoPair N_NoPair bs_NoPair LkE.leT true sn_NoPair sub_NoPair ab_NoPair col_NoPair dd_NoPair m0_NoPair m1_NoPair m2_NoPair m3_NoPair m5_NoPair "LookupError.__new__"))
    {nm_BadNumber q_BadNumber : Str} {N_BadNumber : Addr} {bs_BadNumber bm_BadNumber : List Value} {sn_BadNumber : List Str} {sub_BadNumber : List Value} {ab_BadNumber : Bool} {col_BadNumber : Option Bool} {dd_BadNumber : Option Addr} {m0_BadNumber m1_BadNumber m2_BadNumber m3_BadNumber m5_BadNumber : Option Value}
    (xL_BadNumber : K.lookup C.BadNumber = some (excClassObj nm_BadNumber q_BadNumber C.BadNumber N_BadNumber bs_BadNumber bm_BadNumber true sn_BadNumber sub_BadNumber ab_BadNumber col_BadNumber dd_BadNumber m0_BadNumber m1_BadNumber m2_BadNumber m3_BadNumber m5_BadNumber "ValueError.__new__")) (xr_BadNumber : PySem.HandSPX.refsVE bm_BadNumber = true)
    {nm_TooFewServed q_TooFewServed : Str} {N_TooFewServed : Addr} {bs_TooFewServed bm_TooFewServed : List Value} {sn_TooFewServed : List Str} {sub_TooFewServed : List Value} {ab_TooFewServed : Bool} {col_TooFewServed : Option Bool} {dd_TooFewServed : Option Addr} {m0_TooFewServed m1_TooFewServed m2_TooFewServed m3_TooFewServed m5_TooFewServed : Option Value}
    (xL_TooFewServed : K.lookup C.TooFewServed = some (excClassObj nm_TooFewServed q_TooFewServed C.TooFewServed N_TooFewServed bs_TooFewServed bm_TooFewServed true sn_TooFewServed sub_TooFewServed ab_TooFewServed col_TooFewServed dd_TooFewServed m0_TooFewServed m1_TooFewServed m2_TooFewServed m3_TooFewServed m5_TooFewServed "ValueError.__new__")) (xr_TooFewServed : PySem.HandSPX.refsVE bm_TooFewServed = true)
    (e0_PartyError : PySem.W.excIn K C.PartyError [.type "ValueError", .type "Exception", .type "BaseException", .type "object"] "ValueError.__new__" = true)
    (e0_TooManyPairs : PySem.W.excIn K C.TooManyPairs [.type "ValueError", .type "Exception", .type "BaseException", .type "object"] "ValueError.__new__" = true)
    (e0_Busy : PySem.W.excIn K C.Busy [.type "ValueError", .type "Exception", .type "BaseException", .type "object"] "ValueError.__new__" = true)
    (e0_TooManyEdits : PySem.W.excIn K C.TooManyEdits [.type "ValueError", .type "Exception", .type "BaseException", .type "object"] "ValueError.__new__" = true)
    (e0_TooManyGuests : PySem.W.excIn K C.TooManyGuests [.type "ValueError", .type "Exception", .type "BaseException", .type "object"] "ValueError.__new__" = true)
    (e0_LastGuest : PySem.W.excIn K C.LastGuest [.type "ValueError", .type "Exception", .type "BaseException", .type "object"] "ValueError.__new__" = true)
    (e0_NothingToUndo : PySem.W.excIn K C.NothingToUndo [.type "ValueError", .type "Exception", .type "BaseException", .type "object"] "ValueError.__new__" = true)
    : ∃ fd : FuncData, (∀ (s : Shared) (v : Value), BindsTo s fd ⟨[v], []⟩ [("script", v)]) ∧ ∀ base : Heap, K.In base → base.Ns mainGlobals mg → FnG l.prog w K mg base 11 fa fd ["script"] (spLaw K) := by
  have e := hfa.symm.trans (PySem.W.mg_of X G a34)
  cases e
  have B : Bn K mg C := { LookupError := PySem.W.mg_none_of X G z_LookupError, ValueError := PySem.W.mg_none_of X G z_ValueError, abs := PySem.W.mg_none_of X G z_abs, all := PySem.W.mg_none_of X G z_all, bool := PySem.W.mg_none_of X G z_bool, enumerate := PySem.W.mg_none_of X G z_enumerate, int := PySem.W.mg_none_of X G z_int, isinstance := PySem.W.mg_none_of X G z_isinstance, len := PySem.W.mg_none_of X G z_len, list := PySem.W.mg_none_of X G z_list, max := PySem.W.mg_none_of X G z_max, min := PySem.W.mg_none_of X G z_min, range := PySem.W.mg_none_of X G z_range, repr := PySem.W.mg_none_of X G z_repr, set := PySem.W.mg_none_of X G z_set, sorted := PySem.W.mg_none_of X G z_sorted, str := PySem.W.mg_none_of X G z_str, sum := PySem.W.mg_none_of X G z_sum, tuple := PySem.W.mg_none_of X G z_tuple, zip := PySem.W.mg_none_of X G z_zip, LIMIT := ⟨_, PySem.W.mg_of X G y_LIMIT⟩, MAX_SIZE := ⟨_, PySem.W.mg_of X G y_MAX_SIZE⟩, MAX_GUESTS := ⟨_, PySem.W.mg_of X G y_MAX_GUESTS⟩, MAX_PAIRS := ⟨_, PySem.W.mg_of X G y_MAX_PAIRS⟩, SLASH := ⟨_, PySem.W.mg_of X G y_SLASH⟩, NO_PAIRS := ⟨_, PySem.W.mg_of X G y_NO_PAIRS⟩, WORDS := ⟨_, PySem.W.mg_of X G y_WORDS⟩, g_PartyError := PySem.W.mg_of X G h_a_PartyError, g_TooLarge := PySem.W.mg_of X G h_a_TooLarge, g_BadShelf := PySem.W.mg_of X G h_a_BadShelf, g_TooManyPairs := PySem.W.mg_of X G h_a_TooManyPairs, g_BadFoot := PySem.W.mg_of X G h_a_BadFoot, g_BadHall := PySem.W.mg_of X G h_a_BadHall, g_Busy := PySem.W.mg_of X G h_a_Busy, g_TooManyEdits := PySem.W.mg_of X G h_a_TooManyEdits, g_TooManyGuests := PySem.W.mg_of X G h_a_TooManyGuests, g_LastGuest := PySem.W.mg_of X G h_a_LastGuest, g_BadSize := PySem.W.mg_of X G h_a_BadSize, g_NothingToUndo := PySem.W.mg_of X G h_a_NothingToUndo, g_BadNumber := PySem.W.mg_of X G h_a_BadNumber, g_TooFewServed := PySem.W.mg_of X G h_a_TooFewServed, g_BadText := PySem.W.mg_of X G h_a_BadText, g_NoGuest := PySem.W.mg_of X G h_a_NoGuest, g_NoPair := PySem.W.mg_of X G h_a_NoPair, g_NoVersion := PySem.W.mg_of X G h_a_NoVersion, g_Pledge := PySem.W.mg_of X G h_a_Pledge, g_Party := PySem.W.mg_of X G h_a_Party, g_PledgedParty := PySem.W.mg_of X G h_a_PledgedParty, g_CHANGES := PySem.W.mg_of X G h_a_CHANGES, cg := h_cg, ct := h_ct, ty_PartyError := h_ty_PartyError, hd_PartyError := h_hd_PartyError, cl_TooLarge := h_cl_TooLarge, ty_TooLarge := h_ty_TooLarge, s_TooLarge_TooLarge := h_s_TooLarge_TooLarge, cl_BadShelf := h_cl_BadShelf, ty_BadShelf := h_ty_BadShelf, s_BadShelf_BadShelf := h_s_BadShelf_BadShelf, ty_TooManyPairs := h_ty_TooManyPairs, k_TooManyPairs := h_k_TooManyPairs, ty_BadFoot := h_ty_BadFoot, k_BadFoot := h_k_BadFoot, sa_BadFoot := h_sa_BadFoot, cl_BadHall := h_cl_BadHall, ty_BadHall := h_ty_BadHall, k_BadHall := h_k_BadHall, sa_BadHall := h_sa_BadHall, s_BadHall_BadHall := h_s_BadHall_BadHall, ty_Busy := h_ty_Busy, k_Busy := h_k_Busy, ty_TooManyEdits := h_ty_TooManyEdits, k_TooManyEdits := h_k_TooManyEdits, ty_TooManyGuests := h_ty_TooManyGuests, k_TooManyGuests := h_k_TooManyGuests, ty_LastGuest := h_ty_LastGuest, k_LastGuest := h_k_LastGuest, ty_BadSize := h_ty_BadSize, k_BadSize := h_k_BadSize, sa_BadSize := h_sa_BadSize, ty_NothingToUndo := h_ty_NothingToUndo, k_NothingToUndo := h_k_NothingToUndo, hd_NothingToUndo := h_hd_NothingToUndo, s_NothingToUndo_NothingToUndo := h_s_NothingToUndo_NothingToUndo, ty_BadNumber := h_ty_BadNumber, k_BadNumber := h_k_BadNumber, sa_BadNumber := h_sa_BadNumber, ty_TooFewServed := h_ty_TooFewServed, k_TooFewServed := h_k_TooFewServed, sa_TooFewServed := h_sa_TooFewServed, cl_BadText := h_cl_BadText, ty_BadText := h_ty_BadText, k_BadText := h_k_BadText, hd_BadText := h_hd_BadText, ca_BadText := h_ca_BadText, mo_BadText := h_mo_BadText, sa_BadText := h_sa_BadText, s_BadText_PartyError := h_s_BadText_PartyError, s_BadText_TooLarge := h_s_BadText_TooLarge, s_BadText_BadShelf := h_s_BadText_BadShelf, s_BadText_BadHall := h_s_BadText_BadHall, s_BadText_BadText := h_s_BadText_BadText, s_BadText_ValueError := h_s_BadText_ValueError, ty_NoGuest := h_ty_NoGuest, k_NoGuest := h_k_NoGuest, sa_NoGuest := h_sa_NoGuest, ty_NoPair := h_ty_NoPair, k_NoPair := h_k_NoPair, sa_NoPair := h_sa_NoPair, ty_NoVersion := h_ty_NoVersion, k_NoVersion := h_k_NoVersion, sa_NoVersion := h_sa_NoVersion, hd_Pledge := h_hd_Pledge, sa_Pledge := h_sa_Pledge, cl_Party := h_cl_Party, ty_Party := h_ty_Party, k_Party := h_k_Party, hd_Party := h_hd_Party, ca_Party := h_ca_Party, mo_Party := h_mo_Party, sa_Party := h_sa_Party, s_Party_Party := h_s_Party_Party, s_Party_PledgedParty := h_s_Party_PledgedParty, s_Party_list := h_s_Party_list, cl_PledgedParty := h_cl_PledgedParty, ty_PledgedParty := h_ty_PledgedParty, hd_PledgedParty := h_hd_PledgedParty, ca_PledgedParty := h_ca_PledgedParty, mo_PledgedParty := h_mo_PledgedParty, sa_PledgedParty := h_sa_PledgedParty, s_PledgedParty_Party := h_s_PledgedParty_Party, s_PledgedParty_PledgedParty := h_s_PledgedParty_PledgedParty, sb_PartyError := h_sb_PartyError, sb_TooManyPairs := h_sb_TooManyPairs, sb_BadFoot := h_sb_BadFoot, n_BadFoot := h_n_BadFoot, sb_BadHall := h_sb_BadHall, n_BadHall := h_n_BadHall, sb_Busy := h_sb_Busy, sb_TooManyEdits := h_sb_TooManyEdits, sb_TooManyGuests := h_sb_TooManyGuests, sb_LastGuest := h_sb_LastGuest, sb_BadSize := h_sb_BadSize, n_BadSize := h_n_BadSize, sb_NothingToUndo := h_sb_NothingToUndo, sb_BadNumber := h_sb_BadNumber, n_BadNumber := h_n_BadNumber, sb_TooFewServed := h_sb_TooFewServed, n_TooFewServed := h_n_TooFewServed, ga_BadText := h_ga_BadText, gt_BadText := h_gt_BadText, sb_BadText := h_sb_BadText, n_BadText := h_n_BadText, sb_NoGuest := h_sb_NoGuest, n_NoGuest := h_n_NoGuest, sb_NoPair := h_sb_NoPair, n_NoPair := h_n_NoPair, sb_NoVersion := h_sb_NoVersion, n_NoVersion := h_n_NoVersion, cv_Party_MOST_EDITS := ⟨_, h_cv_Party_MOST_EDITS⟩, cv_PledgedParty_MOST_EDITS := ⟨_, h_cv_PledgedParty_MOST_EDITS⟩, pg_Pledge := h_pg_Pledge, po_Pledge := h_po_Pledge, f_Pledge_pledge := h_f_Pledge_pledge, pg_Party := h_pg_Party, po_Party := h_po_Party, mk_Party := h_mk_Party, f_Party__busy := h_f_Party__busy, f_Party_hall := h_f_Party_hall, f_Party_most := h_f_Party_most, f_Party_fewest := h_f_Party_fewest, f_Party__halls := h_f_Party__halls, f_Party__done := h_f_Party__done, pg_PledgedParty := h_pg_PledgedParty, po_PledgedParty := h_po_PledgedParty, f_PledgedParty__busy := h_f_PledgedParty__busy, f_PledgedParty_hall := h_f_PledgedParty_hall, f_PledgedParty_most := h_f_PledgedParty_most, f_PledgedParty_fewest := h_f_PledgedParty_fewest, f_PledgedParty__halls := h_f_PledgedParty__halls, f_PledgedParty__done := h_f_PledgedParty__done, f_PledgedParty_pledge := h_f_PledgedParty_pledge, fk_CHANGES_come := ⟨_, hk_CHANGES_come, PySem.W.mg_of X G a27⟩, fk_CHANGES_leave := ⟨_, hk_CHANGES_leave, PySem.W.mg_of X G a28⟩, fk_CHANGES_put := ⟨_, hk_CHANGES_put, PySem.W.mg_of X G a29⟩, fk_CHANGES_take := ⟨_, hk_CHANGES_take, PySem.W.mg_of X G a30⟩, e0_PartyError := e0_PartyError, e0_TooManyPairs := e0_TooManyPairs, e0_Busy := e0_Busy, e0_TooManyEdits := e0_TooManyEdits, e0_TooManyGuests := e0_TooManyGuests, e0_LastGuest := e0_LastGuest, e0_NothingToUndo := e0_NothingToUndo }
  have F0 := fun_mk (st := s__law_deck) l0 c0 k0
  have b0 := F0.binds (ps := ["script"]) fun _ _ _ _ _ _ us hl => match us, hl with | [_], _ => rfl
  have F1 := fun_mk (st := s__law_draw) l1 c1 k1
  have b1 := F1.binds (ps := ["deck", "many"]) fun _ _ _ _ _ _ us hl => match us, hl with | [_, _], _ => rfl
  have F2 := fun_mk (st := s__law_sizes) l2 c2 k2
  have b2 := F2.binds (ps := ["deck", "many", "way"]) fun _ _ _ _ _ _ us hl => match us, hl with | [_, _, _], _ => rfl
  have F3 := fun_mk (st := s__law_hall) l3 c3 k3
  have b3 := F3.binds (ps := ["deck", "most"]) fun _ _ _ _ _ _ us hl => match us, hl with | [_, _], _ => rfl
  have F4 := fun_mk (st := s__law_text) l4 c4 k4
  have b4 := F4.binds (ps := ["feet", "pairs"]) fun _ _ _ _ _ _ us hl => match us, hl with | [_, _], _ => rfl
  have F5 := fun_mk (st := s__law_number) l5 c5 k5
  have b5 := F5.binds (ps := ["word"]) fun _ _ _ _ _ _ us hl => match us, hl with | [_], _ => rfl
  have F6 := fun_mk (st := s__law_sizes_of) l6 c6 k6
  have b6 := F6.binds (ps := ["word"]) fun _ _ _ _ _ _ us hl => match us, hl with | [_], _ => rfl
  have F7 := fun_mk (st := s__law_due) l7 c7 k7
  have b7 := F7.binds (ps := ["value"]) fun _ _ _ _ _ _ us hl => match us, hl with | [_], _ => rfl
  have F8 := fun_mk (st := s_is_number) l8 c8 k8
  have b8 := F8.binds (ps := ["value"]) fun _ _ _ _ _ _ us hl => match us, hl with | [_], _ => rfl
  have F9 := fun_mk (st := s_is_number_from) l9 c9 k9
  have b9 := F9.binds (ps := ["value", "low", "high"]) fun _ _ _ _ _ _ us hl => match us, hl with | [_, _, _], _ => rfl
  have F10 := fun_mk (st := s_is_size) l10 c10 k10
  have b10 := F10.binds (ps := ["value"]) fun _ _ _ _ _ _ us hl => match us, hl with | [_], _ => rfl
  have F11 := fun_mk (st := s__first_wrong) l11 c11 k11
  have b11 := F11.binds (ps := ["values"]) fun _ _ _ _ _ _ us hl => match us, hl with | [_], _ => rfl
  have F12 := fun_mk (st := s_is_tuple) l12 c12 k12
  have b12 := F12.binds (ps := ["value", "least", "most"]) fun _ _ _ _ _ _ us hl => match us, hl with | [_, _, _], _ => rfl
  have F13 := fun_mk (st := s_hall_error) l13 c13 k13
  have b13 := F13.binds (ps := ["value"]) fun _ _ _ _ _ _ us hl => match us, hl with | [_], _ => rfl
  have F14 := fun_mk (st := s_counts_at) l14 c14 k14
  have b14 := F14.binds (ps := ["hall", "size"]) fun _ _ _ _ _ _ us hl => match us, hl with | [_, _], _ => rfl
  have F15 := fun_mk (st := s__foot_sizes) l15 c15 k15
  have b15 := F15.binds (ps := ["hall"]) fun _ _ _ _ _ _ us hl => match us, hl with | [_], _ => rfl
  have F16 := fun_mk (st := s__deciding_sizes) l16 c16 k16
  have b16 := F16.binds (ps := ["hall"]) fun _ _ _ _ _ _ us hl => match us, hl with | [_], _ => rfl
  have F17 := fun_mk (st := s_most_served) l17 c17 k17
  have b17 := F17.binds (ps := ["hall"]) fun _ _ _ _ _ _ us hl => match us, hl with | [_], _ => rfl
  have F18 := fun_mk (st := s_fewest_served) l18 c18 k18
  have b18 := F18.binds (ps := ["hall"]) fun _ _ _ _ _ _ us hl => match us, hl with | [_], _ => rfl
  have F19 := fun_mk (st := s_number_in) l19 c19 k19
  have b19 := F19.binds (ps := ["word", "digits"]) fun _ _ _ _ _ _ us hl => match us, hl with | [_, _], _ => rfl
  have F20 := fun_mk (st := s__sizes_in) l20 c20 k20
  have b20 := F20.binds (ps := ["word", "most"]) fun _ _ _ _ _ _ us hl => match us, hl with | [_, _], _ => rfl
  have F21 := fun_mk (st := s__part_in) l21 c21 k21
  have b21 := F21.binds (ps := ["word", "index"]) fun _ _ _ _ _ _ us hl => match us, hl with | [_, _], _ => rfl
  have F22 := fun_mk (st := s_parse_hall) l22 c22 k22
  have b22 := F22.binds (ps := ["value"]) fun _ _ _ _ _ _ us hl => match us, hl with | [_], _ => rfl
  have F23 := fun_mk (st := s__law_read) l23 c23 k23
  have b23 := F23.binds (ps := ["value"]) fun _ _ _ _ _ _ us hl => match us, hl with | [_], _ => rfl
  have F24 := fun_mk (st := s__law_ends) l24 c24 k24
  have b24 := F24.binds (ps := ["hall"]) fun _ _ _ _ _ _ us hl => match us, hl with | [_], _ => rfl
  have F25 := fun_mk (st := s__law_right) l25 c25 k25
  have b25 := F25.binds (ps := ["table", "hall", "edits"]) fun _ _ _ _ _ _ us hl => match us, hl with | [_, _, _], _ => rfl
  have F26 := fun_mk (st := s__sorted_sizes) l26 c26 k26
  have b26 := F26.binds (ps := ["hall"]) fun _ _ _ _ _ _ us hl => match us, hl with | [_], _ => rfl
  have F27 := fun_mk (st := s__with_guest) l27 c27 k27
  have b27 := F27.binds (ps := ["hall", "foot"]) fun _ _ _ _ _ _ us hl => match us, hl with | [_, _], _ => rfl
  have F28 := fun_mk (st := s__without_guest) l28 c28 k28
  have b28 := F28.binds (ps := ["hall", "guest"]) fun _ _ _ _ _ _ us hl => match us, hl with | [_, _], _ => rfl
  have F29 := fun_mk (st := s__with_pair) l29 c29 k29
  have b29 := F29.binds (ps := ["hall", "size"]) fun _ _ _ _ _ _ us hl => match us, hl with | [_, _], _ => rfl
  have F30 := fun_mk (st := s__without_pair) l30 c30 k30
  have b30 := F30.binds (ps := ["hall", "pair"]) fun _ _ _ _ _ _ us hl => match us, hl with | [_, _], _ => rfl
  have F31 := fun_mk (st := s_hall_after) l31 c31 k31
  have b31 := F31.binds (ps := ["hall", "name", "value"]) fun _ _ _ _ _ _ us hl => match us, hl with | [_, _, _], _ => rfl
  have F32 := fun_mk (st := s__law_do) l32 c32 k32
  have b32 := F32.binds (ps := ["table", "edit"]) fun _ _ _ _ _ _ us hl => match us, hl with | [_, _], _ => rfl
  have F33 := fun_mk (st := s__law_edits_right) l33 c33 k33
  have b33 := F33.binds (ps := ["table", "hall"]) fun _ _ _ _ _ _ us hl => match us, hl with | [_, _], _ => rfl
  have F35 := fun_mk (st := s_Party__stand) l35 c35 k35
  have b35 := F35.binds (ps := ["self", "halls", "done"]) fun _ _ _ _ _ _ us hl => match us, hl with | [_, _, _], _ => rfl
  have F36 := fun_mk (st := s_Party___init__) l36 c36 k36
  have b36 := F36.binds (ps := ["self", "hall"]) fun _ _ _ _ _ _ us hl => match us, hl with | [_, _], _ => rfl
  have F37 := fun_mk (st := s_Party_read) l37 c37 k37
  have b37 := F37.binds (ps := ["cls", "text"]) fun _ _ _ _ _ _ us hl => match us, hl with | [_, _], _ => rfl
  have F38 := fun_mk (st := s_Party__hall_at) l38 c38 k38
  have b38 := F38.binds (ps := ["self", "version"]) fun _ _ _ _ _ _ us hl => match us, hl with | [_, _], _ => rfl
  have F39 := fun_mk (st := s_Party_state) l39 c39 k39
  have FD39 := funD_mk (st := s_Party_state) l39 c39 k39 kd39
  obtain ⟨ds39, vd39, bd39⟩ := bindsD_mk (P := l.prog) (ps := ["self", "version"]) FD39 1 rfl (fun D doc pm an cdv ct us ks l1 l2 => match us, ks, l1, l2 with | [_], [_], _, _ => ⟨_, _, _, _, _, _, rfl, rfl, rfl⟩)
  have bk39 := kbn_mk (ps := ["self", "version"]) FD39 1 (fun D doc pm an cdv ct us ws l1 l2 => match us, ws, l1, l2 with | [_], [_], _, _ => rfl)
  have F40 := fun_mk (st := s_Party_edits) l40 c40 k40
  have b40 := F40.binds (ps := ["self"]) fun _ _ _ _ _ _ us hl => match us, hl with | [_], _ => rfl
  have F41 := fun_mk (st := s_Party___len__) l41 c41 k41
  have b41 := F41.binds (ps := ["self"]) fun _ _ _ _ _ _ us hl => match us, hl with | [_], _ => rfl
  have F42 := fun_mk (st := s_Party___str__) l42 c42 k42
  have b42 := F42.binds (ps := ["self"]) fun _ _ _ _ _ _ us hl => match us, hl with | [_], _ => rfl
  have F43 := fun_mk (st := s_Party__promised) l43 c43 k43
  have b43 := F43.binds (ps := ["self"]) fun _ _ _ _ _ _ us hl => match us, hl with | [_], _ => rfl
  have F44 := fun_mk (st := s_PledgedParty__promised) l44 c44 k44
  have b44 := F44.binds (ps := ["self"]) fun _ _ _ _ _ _ us hl => match us, hl with | [_], _ => rfl
  have F45 := fun_mk (st := s_Party___eq__) l45 c45 k45
  have b45 := F45.binds (ps := ["self", "other"]) fun _ _ _ _ _ _ us hl => match us, hl with | [_, _], _ => rfl
  have F46 := fun_mk (st := s_Party__ask_idle) l46 c46 k46
  have b46 := F46.binds (ps := ["self"]) fun _ _ _ _ _ _ us hl => match us, hl with | [_], _ => rfl
  have F47 := fun_mk (st := s_Party__ask_pledge) l47 c47 k47
  have b47 := F47.binds (ps := ["self", "fewest"]) fun _ _ _ _ _ _ us hl => match us, hl with | [_, _], _ => rfl
  have F48 := fun_mk (st := s_Pledge_spare) l48 c48 k48
  have b48 := F48.binds (ps := ["self", "number"]) fun _ _ _ _ _ _ us hl => match us, hl with | [_, _], _ => rfl
  have F49 := fun_mk (st := s_PledgedParty__ask_pledge) l49 c49 k49
  have b49 := F49.binds (ps := ["self", "fewest"]) fun _ _ _ _ _ _ us hl => match us, hl with | [_, _], _ => rfl
  have F50 := fun_mk (st := s_Party__do) l50 c50 k50
  have b50 := F50.binds (ps := ["self", "name", "value"]) fun _ _ _ _ _ _ us hl => match us, hl with | [_, _, _], _ => rfl
  have F51 := fun_mk (st := s_Party__edit) l51 c51 k51
  have b51 := F51.binds (ps := ["self", "name", "value"]) fun _ _ _ _ _ _ us hl => match us, hl with | [_, _, _], _ => rfl
  have F52 := fun_mk (st := s_Party_take) l52 c52 k52
  have b52 := F52.binds (ps := ["self", "pair"]) fun _ _ _ _ _ _ us hl => match us, hl with | [_, _], _ => rfl
  have F53 := fun_mk (st := s_Party_come) l53 c53 k53
  have b53 := F53.binds (ps := ["self", "foot"]) fun _ _ _ _ _ _ us hl => match us, hl with | [_, _], _ => rfl
  have F54 := fun_mk (st := s_Party_leave) l54 c54 k54
  have b54 := F54.binds (ps := ["self", "guest"]) fun _ _ _ _ _ _ us hl => match us, hl with | [_, _], _ => rfl
  have F55 := fun_mk (st := s_Party_put) l55 c55 k55
  have b55 := F55.binds (ps := ["self", "size"]) fun _ _ _ _ _ _ us hl => match us, hl with | [_, _], _ => rfl
  have F56 := fun_mk (st := s_Party_undo) l56 c56 k56
  have b56 := F56.binds (ps := ["self"]) fun _ _ _ _ _ _ us hl => match us, hl with | [_], _ => rfl
  have F57 := fun_mk (st := s_BadHall_init) l57 c57 k57
  have b57 := F57.binds (ps := ["self", "error"]) fun _ _ _ _ _ _ us hl => match us, hl with | [_, _], _ => rfl
  have F58 := fun_mk (st := s_BadText_init) l58 c58 k58
  have b58 := F58.binds (ps := ["self", "index"]) fun _ _ _ _ _ _ us hl => match us, hl with | [_, _], _ => rfl
  have F59 := fun_mk (st := s_NoVersion_init) l59 c59 k59
  have b59 := F59.binds (ps := ["self", "value"]) fun _ _ _ _ _ _ us hl => match us, hl with | [_, _], _ => rfl
  have F60 := fun_mk (st := s_BadFoot_init) l60 c60 k60
  have b60 := F60.binds (ps := ["self", "value"]) fun _ _ _ _ _ _ us hl => match us, hl with | [_, _], _ => rfl
  have F61 := fun_mk (st := s_NoGuest_init) l61 c61 k61
  have b61 := F61.binds (ps := ["self", "value"]) fun _ _ _ _ _ _ us hl => match us, hl with | [_, _], _ => rfl
  have F62 := fun_mk (st := s_BadSize_init) l62 c62 k62
  have b62 := F62.binds (ps := ["self", "value"]) fun _ _ _ _ _ _ us hl => match us, hl with | [_, _], _ => rfl
  have F63 := fun_mk (st := s_NoPair_init) l63 c63 k63
  have b63 := F63.binds (ps := ["self", "value"]) fun _ _ _ _ _ _ us hl => match us, hl with | [_, _], _ => rfl
  have F64 := fun_mk (st := s_BadNumber_init) l64 c64 k64
  have b64 := F64.binds (ps := ["self", "value"]) fun _ _ _ _ _ _ us hl => match us, hl with | [_, _], _ => rfl
  have F65 := fun_mk (st := s_TooFewServed_init) l65 c65 k65
  have b65 := F65.binds (ps := ["self", "number"]) fun _ _ _ _ _ _ us hl => match us, hl with | [_, _], _ => rfl
  refine ⟨PySem.W.fnOf "law" "law" (defArgs s_law) (defBody s_law) (defScope s_law) .none kV34 dc34 pm34 an34 cd34 ct34, fun s v => .of_eq rfl, fun base _ _ => ?_⟩
  have T_BadHall : OexC K C.BadHall := ⟨⟨_, _, _, _, _, _, _, _, _, _, _, _, _, _, _, xL_BadHall, xr_BadHall⟩, h_sa_BadHall, h_sb_BadHall, h_ty_BadHall, h_k_BadHall⟩
  have H_BadHall : ErrC l.prog w K mg base "BadHall" C.BadHall "error" := ⟨B.g_BadHall, T_BadHall, f57, _, _, a57, tI57, ok_BadHall_init F57 T_BadHall B, b57⟩
  have T_BadText : OexC K C.BadText := ⟨⟨_, _, _, _, _, _, _, _, _, _, _, _, _, _, _, xL_BadText, xr_BadText⟩, h_sa_BadText, h_sb_BadText, h_ty_BadText, h_k_BadText⟩
  have H_BadText : ErrC l.prog w K mg base "BadText" C.BadText "index" := ⟨B.g_BadText, T_BadText, f58, _, _, a58, tI58, ok_BadText_init F58 T_BadText B, b58⟩
  have T_NoVersion : OexL K C.NoVersion := ⟨⟨_, _, _, _, _, _, _, _, _, _, _, _, _, _, xL_NoVersion⟩, h_sa_NoVersion, h_sb_NoVersion, h_ty_NoVersion, h_k_NoVersion⟩
  have H_NoVersion : ErrL l.prog w K mg base "NoVersion" C.NoVersion "value" := ⟨B.g_NoVersion, T_NoVersion, f59, _, _, a59, tI59, ok_NoVersion_init F59 T_NoVersion B, b59⟩
  have T_BadFoot : OexC K C.BadFoot := ⟨⟨_, _, _, _, _, _, _, _, _, _, _, _, _, _, _, xL_BadFoot, xr_BadFoot⟩, h_sa_BadFoot, h_sb_BadFoot, h_ty_BadFoot, h_k_BadFoot⟩
  have H_BadFoot : ErrC l.prog w K mg base "BadFoot" C.BadFoot "value" := ⟨B.g_BadFoot, T_BadFoot, f60, _, _, a60, tI60, ok_BadFoot_init F60 T_BadFoot B, b60⟩
  have T_NoGuest : OexL K C.NoGuest := ⟨⟨_, _, _, _, _, _, _, _, _, _, _, _, _, _, xL_NoGuest⟩, h_sa_NoGuest, h_sb_NoGuest, h_ty_NoGuest, h_k_NoGuest⟩
  have H_NoGuest : ErrL l.prog w K mg base "NoGuest" C.NoGuest "value" := ⟨B.g_NoGuest, T_NoGuest, f61, _, _, a61, tI61, ok_NoGuest_init F61 T_NoGuest B, b61⟩
  have T_BadSize : OexC K C.BadSize := ⟨⟨_, _, _, _, _, _, _, _, _, _, _, _, _, _, _, xL_BadSize, xr_BadSize⟩, h_sa_BadSize, h_sb_BadSize, h_ty_BadSize, h_k_BadSize⟩
  have H_BadSize : ErrC l.prog w K mg base "BadSize" C.BadSize "value" := ⟨B.g_BadSize, T_BadSize, f62, _, _, a62, tI62, ok_BadSize_init F62 T_BadSize B, b62⟩
  have T_NoPair : OexL K C.NoPair := ⟨⟨_, _, _, _, _, _, _, _, _, _, _, _, _, _, xL_NoPair⟩, h_sa_NoPair, h_sb_NoPair, h_ty_NoPair, h_k_NoPair⟩
  have H_NoPair : ErrL l.prog w K mg base "NoPair" C.NoPair "value" := ⟨B.g_NoPair, T_NoPair, f63, _, _, a63, tI63, ok_NoPair_init F63 T_NoPair B, b63⟩
  have T_BadNumber : OexC K C.BadNumber := ⟨⟨_, _, _, _, _, _, _, _, _, _, _, _, _, _, _, xL_BadNumber, xr_BadNumber⟩, h_sa_BadNumber, h_sb_BadNumber, h_ty_BadNumber, h_k_BadNumber⟩
  have H_BadNumber : ErrC l.prog w K mg base "BadNumber" C.BadNumber "value" := ⟨B.g_BadNumber, T_BadNumber, f64, _, _, a64, tI64, ok_BadNumber_init F64 T_BadNumber B, b64⟩
  have T_TooFewServed : OexC K C.TooFewServed := ⟨⟨_, _, _, _, _, _, _, _, _, _, _, _, _, _, _, xL_TooFewServed, xr_TooFewServed⟩, h_sa_TooFewServed, h_sb_TooFewServed, h_ty_TooFewServed, h_k_TooFewServed⟩
  have H_TooFewServed : ErrC l.prog w K mg base "TooFewServed" C.TooFewServed "number" := ⟨B.g_TooFewServed, T_TooFewServed, f65, _, _, a65, tI65, ok_TooFewServed_init F65 T_TooFewServed B, b65⟩
  have KD_CHANGES : ∃ es n, KDict K w C.CHANGES es n := ⟨_, _, kd_CHANGES, kl_CHANGES, ks_CHANGES⟩
  have H__law_deck : HasS l.prog w K mg base "_law_deck" 1 ["script"] (spDeckA K) := ⟨f0, _, PySem.W.mg_of X G a0, k0, b0, ok_deck F0 B.abs⟩
  have H__law_draw : Has l.prog w K mg base "_law_draw" 1 ["deck", "many"] c__law_draw := ⟨f1, _, PySem.W.mg_of X G a1, k1, b1, ok_draw F1 B.len⟩
  have H__law_sizes : Has l.prog w K mg base "_law_sizes" 2 ["deck", "many", "way"] c__law_sizes := ⟨f2, _, PySem.W.mg_of X G a2, k2, b2, fn__law_sizes F2 B H__law_draw⟩
  have H__law_hall : Has l.prog w K mg base "_law_hall" 3 ["deck", "most"] c__law_hall := ⟨f3, _, PySem.W.mg_of X G a3, k3, b3, fn__law_hall F3 B H__law_draw H__law_sizes⟩
  have H__law_text : Has l.prog w K mg base "_law_text" 1 ["feet", "pairs"] c__law_text := ⟨f4, _, PySem.W.mg_of X G a4, k4, b4, fn__law_text F4 B⟩
  have H__law_number : Has l.prog w K mg base "_law_number" 1 ["word"] c__law_number := ⟨f5, _, PySem.W.mg_of X G a5, k5, b5, fn__law_number F5 B⟩
  have H__law_sizes_of : Has l.prog w K mg base "_law_sizes_of" 2 ["word"] c__law_sizes_of := ⟨f6, _, PySem.W.mg_of X G a6, k6, b6, fn__law_sizes_of F6 B H__law_number⟩
  have H__law_due : Has l.prog w K mg base "_law_due" 3 ["value"] c__law_due := ⟨f7, _, PySem.W.mg_of X G a7, k7, b7, fn__law_due F7 B H__law_sizes_of⟩
  have H_is_number : Has l.prog w K mg base "is_number" 1 ["value"] c_is_number := ⟨f8, _, PySem.W.mg_of X G a8, k8, b8, fn_is_number F8 B⟩
  have H_is_number_from : Has l.prog w K mg base "is_number_from" 2 ["value", "low", "high"] c_is_number_from := ⟨f9, _, PySem.W.mg_of X G a9, k9, b9, fn_is_number_from F9 B H_is_number⟩
  have H_is_size : Has l.prog w K mg base "is_size" 3 ["value"] c_is_size := ⟨f10, _, PySem.W.mg_of X G a10, k10, b10, fn_is_size F10 B H_is_number_from⟩
  have H__first_wrong : Has l.prog w K mg base "_first_wrong" 4 ["values"] c__first_wrong := ⟨f11, _, PySem.W.mg_of X G a11, k11, b11, fn__first_wrong F11 B H_is_size⟩
  have H_is_tuple : Has l.prog w K mg base "is_tuple" 1 ["value", "least", "most"] c_is_tuple := ⟨f12, _, PySem.W.mg_of X G a12, k12, b12, fn_is_tuple F12 B⟩
  have H_hall_error : Has l.prog w K mg base "hall_error" 5 ["value"] c_hall_error := ⟨f13, _, PySem.W.mg_of X G a13, k13, b13, fn_hall_error F13 B H__first_wrong H_is_tuple⟩
  have H_counts_at : Has l.prog w K mg base "counts_at" 1 ["hall", "size"] c_counts_at := ⟨f14, _, PySem.W.mg_of X G a14, k14, b14, fn_counts_at F14 B⟩
  have H__foot_sizes : Has l.prog w K mg base "_foot_sizes" 1 ["hall"] c__foot_sizes := ⟨f15, _, PySem.W.mg_of X G a15, k15, b15, fn__foot_sizes F15 B⟩
  have H__deciding_sizes : Has l.prog w K mg base "_deciding_sizes" 2 ["hall"] c__deciding_sizes := ⟨f16, _, PySem.W.mg_of X G a16, k16, b16, fn__deciding_sizes F16 B H__foot_sizes⟩
  have H_most_served : Has l.prog w K mg base "most_served" 3 ["hall"] c_most_served := ⟨f17, _, PySem.W.mg_of X G a17, k17, b17, fn_most_served F17 B H_counts_at H__deciding_sizes⟩
  have H_fewest_served : Has l.prog w K mg base "fewest_served" 3 ["hall"] c_fewest_served := ⟨f18, _, PySem.W.mg_of X G a18, k18, b18, fn_fewest_served F18 B H_counts_at H__deciding_sizes⟩
  have G_Party__stand : FnGX l.prog w K mg base 4 f35 _ ["self", "halls", "done"] (spDX K 3 (c_Party__stand C)) := fn_Party__stand F35 B H_most_served H_fewest_served
  have HM__stand : HasM l.prog w K mg base (fun D => D = C.Party ∨ D = C.PledgedParty) "_stand" 4 ["self", "halls", "done"] (fun _ => c_Party__stand C) := fun D hD => by
    rcases hD with rfl | rfl
    · exact ⟨B.c_Party, f35, _, ⟨a35, fn35, k35⟩, b35, G_Party__stand⟩
    · exact ⟨B.c_PledgedParty, f35, _, ⟨ai35_PledgedParty, fn35, k35⟩, b35, G_Party__stand⟩
  have H_Party___init__ : HasC l.prog w K mg base "Party" C.Party 6 ["self", "hall"] (c_Party___init__ C) := ⟨B.g_Party, len_Party___init__, f36, _, ⟨B.mk_Party, a36, fn36, B.k_Party⟩, b36, fn_Party___init__ F36 B H_hall_error HM__stand H_BadHall⟩
  have H_number_in : Has l.prog w K mg base "number_in" 1 ["word", "digits"] c_number_in := ⟨f19, _, PySem.W.mg_of X G a19, k19, b19, fn_number_in F19 B⟩
  have H__sizes_in : Has l.prog w K mg base "_sizes_in" 4 ["word", "most"] c__sizes_in := ⟨f20, _, PySem.W.mg_of X G a20, k20, b20, fn__sizes_in F20 B H_number_in H_is_size⟩
  have H__part_in : Has l.prog w K mg base "_part_in" 5 ["word", "index"] c__part_in := ⟨f21, _, PySem.W.mg_of X G a21, k21, b21, fn__part_in F21 B H__sizes_in⟩
  have H_parse_hall : HasX l.prog w K mg base "parse_hall" 6 ["value"] (c_parse_hall C) := ⟨f22, _, PySem.W.mg_of X G a22, k22, b22, fn_parse_hall F22 B H__part_in H_BadText⟩
  have HKM_Party_read : HasKM l.prog w K mg base "Party" C.Party "read" 8 ["cls", "text"] (c_Party_read C) := ⟨B.g_Party, .type "type", pc37, f37, _, ⟨rd37, sg37⟩, ⟨a37, ⟨_, rc37⟩, fi37⟩, b37, fn_Party_read F37 B H_Party___init__ H_parse_hall⟩
  have H__law_read : Has l.prog w K mg base "_law_read" 9 ["value"] (c__law_read C) := ⟨f23, _, PySem.W.mg_of X G a23, k23, b23, fn__law_read F23 B HKM_Party_read⟩
  have H__law_ends : Has l.prog w K mg base "_law_ends" 1 ["hall"] c__law_ends := ⟨f24, _, PySem.W.mg_of X G a24, k24, b24, fn__law_ends F24 B⟩
  have G_Party__hall_at : FnGX l.prog w K mg base 3 f38 _ ["self", "version"] (spDX K 2 (c_Party__hall_at C)) := fn_Party__hall_at F38 B H_is_number_from H_NoVersion
  have HM__hall_at : HasM l.prog w K mg base (fun D => D = C.Party ∨ D = C.PledgedParty) "_hall_at" 3 ["self", "version"] (fun _ => c_Party__hall_at C) := fun D hD => by
    rcases hD with rfl | rfl
    · exact ⟨B.c_Party, f38, _, ⟨a38, fn38, k38⟩, b38, G_Party__hall_at⟩
    · exact ⟨B.c_PledgedParty, f38, _, ⟨ai38_PledgedParty, fn38, k38⟩, b38, G_Party__hall_at⟩
  have G_Party_state : FnGX l.prog w K mg base 4 f39 _ ["self", "version"] (spDX K 2 (c_Party_state C)) := fn_Party_state F39 B HM__hall_at
  have HMD_state : HasMD l.prog w K mg base (fun D => D = C.Party ∨ D = C.PledgedParty) "state" 4 ["self", "version"] (fun _ => c_Party_state C) := fun D hD => by
    rcases hD with rfl | rfl
    · exact ⟨B.c_Party, f39, _, ds39, ⟨a39, fn39, k39⟩, vd39, bd39, G_Party_state⟩
    · exact ⟨B.c_PledgedParty, f39, _, ds39, ⟨ai39_PledgedParty, fn39, k39⟩, vd39, bd39, G_Party_state⟩
  have HMK_state : HasMK l.prog w K mg base (fun D => D = C.Party ∨ D = C.PledgedParty) "state" "version" 4 ["self", "version"] (fun _ => c_Party_state C) := fun D hD => by
    rcases hD with rfl | rfl
    · exact ⟨B.c_Party, f39, _, ⟨a39, fn39, k39⟩, bk39, G_Party_state⟩
    · exact ⟨B.c_PledgedParty, f39, _, ⟨ai39_PledgedParty, fn39, k39⟩, bk39, G_Party_state⟩
  have G_Party_edits : FnGX l.prog w K mg base 1 f40 _ ["self"] (spDX K 1 (c_Party_edits C)) := fn_Party_edits F40 B
  have HM_edits : HasM l.prog w K mg base (fun D => D = C.Party ∨ D = C.PledgedParty) "edits" 1 ["self"] (fun _ => c_Party_edits C) := fun D hD => by
    rcases hD with rfl | rfl
    · exact ⟨B.c_Party, f40, _, ⟨a40, fn40, k40⟩, b40, G_Party_edits⟩
    · exact ⟨B.c_PledgedParty, f40, _, ⟨ai40_PledgedParty, fn40, k40⟩, b40, G_Party_edits⟩
  have G_Party___len__ : FnGX l.prog w K mg base 1 f41 _ ["self"] (spDX K 1 (c_Party___len__ C)) := fn_Party___len__ F41 B
  have HM___len__ : HasM l.prog w K mg base (fun D => D = C.Party ∨ D = C.PledgedParty) "__len__" 1 ["self"] (fun _ => c_Party___len__ C) := fun D hD => by
    rcases hD with rfl | rfl
    · exact ⟨B.c_Party, f41, _, ⟨a41, fn41, k41⟩, b41, G_Party___len__⟩
    · exact ⟨B.c_PledgedParty, f41, _, ⟨ai41_PledgedParty, fn41, k41⟩, b41, G_Party___len__⟩
  have G_Party___str__ : FnGX l.prog w K mg base 1 f42 _ ["self"] (spDX K 1 (c_Party___str__ C)) := fn_Party___str__ F42 B
  have HM___str__ : HasM l.prog w K mg base (fun D => D = C.Party ∨ D = C.PledgedParty) "__str__" 1 ["self"] (fun _ => c_Party___str__ C) := fun D hD => by
    rcases hD with rfl | rfl
    · exact ⟨B.c_Party, f42, _, ⟨a42, fn42, k42⟩, b42, G_Party___str__⟩
    · exact ⟨B.c_PledgedParty, f42, _, ⟨ai42_PledgedParty, fn42, k42⟩, b42, G_Party___str__⟩
  have H__law_right : Has l.prog w K mg base "_law_right" 5 ["table", "hall", "edits"] (c__law_right C) := ⟨f25, _, PySem.W.mg_of X G a25, k25, b25, fn__law_right F25 B H__law_ends HMD_state HM_edits HM___len__ HM___str__⟩
  have G_Party__promised : FnGX l.prog w K mg base 1 f43 _ ["self"] (spDX K 1 (c_Party__promised C)) := fn_Party__promised F43 B
  have G_PledgedParty__promised : FnGX l.prog w K mg base 1 f44 _ ["self"] (spDX K 1 (c_PledgedParty__promised C)) := fn_PledgedParty__promised F44 B
  have HM__promised : HasM l.prog w K mg base (fun D => D = C.Party ∨ D = C.PledgedParty) "_promised" 1 ["self"] (cm__promised C) := fun D hD => by
    rcases hD with rfl | rfl
    · exact ⟨B.c_Party, f43, _, ⟨a43, fn43, k43⟩, b43, ((cmG_Party__promised B G_Party__promised).mono (by decide))⟩
    · exact ⟨B.c_PledgedParty, f44, _, ⟨a44, fn44, k44⟩, b44, ((cmG_PledgedParty__promised B G_PledgedParty__promised).mono (by decide))⟩
  have H__sorted_sizes : Has l.prog w K mg base "_sorted_sizes" 1 ["hall"] c__sorted_sizes := ⟨f26, _, PySem.W.mg_of X G a26, k26, b26, fn__sorted_sizes F26 B⟩
  have G_Party___eq__ : FnGX l.prog w K mg base 2 f45 _ ["self", "other"] (spDX K 2 (c_Party___eq__ C)) := fn_Party___eq__ F45 B HM__promised H__sorted_sizes
  have HM___eq__ : HasM l.prog w K mg base (fun D => D = C.Party ∨ D = C.PledgedParty) "__eq__" 2 ["self", "other"] (fun _ => c_Party___eq__ C) := fun D hD => by
    rcases hD with rfl | rfl
    · exact ⟨B.c_Party, f45, _, ⟨a45, fn45, k45⟩, b45, G_Party___eq__⟩
    · exact ⟨B.c_PledgedParty, f45, _, ⟨ai45_PledgedParty, fn45, k45⟩, b45, G_Party___eq__⟩
  have G_Party__ask_idle : FnGX l.prog w K mg base 3 f46 _ ["self"] (spDX K 1 (c_Party__ask_idle C)) := fn_Party__ask_idle F46 B
  have HM__ask_idle : HasM l.prog w K mg base (fun D => D = C.Party ∨ D = C.PledgedParty) "_ask_idle" 3 ["self"] (fun _ => c_Party__ask_idle C) := fun D hD => by
    rcases hD with rfl | rfl
    · exact ⟨B.c_Party, f46, _, ⟨a46, fn46, k46⟩, b46, G_Party__ask_idle⟩
    · exact ⟨B.c_PledgedParty, f46, _, ⟨ai46_PledgedParty, fn46, k46⟩, b46, G_Party__ask_idle⟩
  have H__with_guest : HasX l.prog w K mg base "_with_guest" 4 ["hall", "foot"] (c__with_guest C) := ⟨f27, _, PySem.W.mg_of X G a27, k27, b27, fn__with_guest F27 B H_is_size H_BadFoot⟩
  have H__without_guest : HasX l.prog w K mg base "_without_guest" 3 ["hall", "guest"] (c__without_guest C) := ⟨f28, _, PySem.W.mg_of X G a28, k28, b28, fn__without_guest F28 B H_is_number_from H_NoGuest⟩
  have H__with_pair : HasX l.prog w K mg base "_with_pair" 4 ["hall", "size"] (c__with_pair C) := ⟨f29, _, PySem.W.mg_of X G a29, k29, b29, fn__with_pair F29 B H_is_size H_BadSize⟩
  have H__without_pair : HasX l.prog w K mg base "_without_pair" 3 ["hall", "pair"] (c__without_pair C) := ⟨f30, _, PySem.W.mg_of X G a30, k30, b30, fn__without_pair F30 B H_is_number_from H_NoPair⟩
  have HS_change : ∀ g c, S_hall_after_change mg C g c → PySem.W.keepIn K (.ref g) = true ∧ ∃ fd ps, Binds K fd ps [] ∧ FnGX l.prog w K mg base 4 g fd ps (spDX K 2 c) := by
    intro g c h
    rcases h with ⟨h, rfl⟩ | ⟨h, rfl⟩ | ⟨h, rfl⟩ | ⟨h, rfl⟩
    · exact hs_of h H__with_guest (by decide)
    · exact hs_of h H__without_guest (by decide)
    · exact hs_of h H__with_pair (by decide)
    · exact hs_of h H__without_pair (by decide)
  have H_hall_after : HasX l.prog w K mg base "hall_after" 5 ["hall", "name", "value"] (c_hall_after C) := ⟨f31, _, PySem.W.mg_of X G a31, k31, b31, fn_hall_after F31 B HS_change KD_CHANGES⟩
  have G_Party__ask_pledge : FnGX l.prog w K mg base 1 f47 _ ["self", "fewest"] (spDX K 2 (c_Party__ask_pledge C)) := fn_Party__ask_pledge F47 B
  have G_Pledge_spare : FnGX l.prog w K mg base 3 f48 _ ["self", "number"] (spDX K 2 (c_Pledge_spare C)) := fn_Pledge_spare F48 B H_is_number_from H_BadNumber H_TooFewServed
  have HM_spare : HasM l.prog w K mg base (fun D => D = C.Pledge ∨ D = C.PledgedParty) "spare" 3 ["self", "number"] (fun _ => c_Pledge_spare C) := fun D hD => by
    rcases hD with rfl | rfl
    · exact ⟨B.c_Pledge, f48, _, ⟨a48, fn48, k48⟩, b48, G_Pledge_spare⟩
    · exact ⟨B.c_PledgedParty, f48, _, ⟨ai48_PledgedParty, fn48, k48⟩, b48, G_Pledge_spare⟩
  have G_PledgedParty__ask_pledge : FnGX l.prog w K mg base 4 f49 _ ["self", "fewest"] (spDX K 2 (c_PledgedParty__ask_pledge C)) := fn_PledgedParty__ask_pledge F49 B HM_spare
  have HM__ask_pledge : HasM l.prog w K mg base (fun D => D = C.Party ∨ D = C.PledgedParty) "_ask_pledge" 4 ["self", "fewest"] (cm__ask_pledge C) := fun D hD => by
    rcases hD with rfl | rfl
    · exact ⟨B.c_Party, f47, _, ⟨a47, fn47, k47⟩, b47, ((cmG_Party__ask_pledge B G_Party__ask_pledge).mono (by decide))⟩
    · exact ⟨B.c_PledgedParty, f49, _, ⟨a49, fn49, k49⟩, b49, ((cmG_PledgedParty__ask_pledge B G_PledgedParty__ask_pledge).mono (by decide))⟩
  have G_Party__do : FnGX l.prog w K mg base 6 f50 _ ["self", "name", "value"] (spDX K 3 (c_Party__do C)) := fn_Party__do F50 B H_hall_after HM__ask_pledge HM__stand H_fewest_served
  have HM__do : HasM l.prog w K mg base (fun D => D = C.Party ∨ D = C.PledgedParty) "_do" 6 ["self", "name", "value"] (fun _ => c_Party__do C) := fun D hD => by
    rcases hD with rfl | rfl
    · exact ⟨B.c_Party, f50, _, ⟨a50, fn50, k50⟩, b50, G_Party__do⟩
    · exact ⟨B.c_PledgedParty, f50, _, ⟨ai50_PledgedParty, fn50, k50⟩, b50, G_Party__do⟩
  have G_Party__edit : FnGX l.prog w K mg base 7 f51 _ ["self", "name", "value"] (spDX K 3 (c_Party__edit C)) := fn_Party__edit F51 B HM__ask_idle HM__do
  have HM__edit : HasM l.prog w K mg base (fun D => D = C.Party ∨ D = C.PledgedParty) "_edit" 7 ["self", "name", "value"] (fun _ => c_Party__edit C) := fun D hD => by
    rcases hD with rfl | rfl
    · exact ⟨B.c_Party, f51, _, ⟨a51, fn51, k51⟩, b51, G_Party__edit⟩
    · exact ⟨B.c_PledgedParty, f51, _, ⟨ai51_PledgedParty, fn51, k51⟩, b51, G_Party__edit⟩
  have G_Party_take : FnGX l.prog w K mg base 8 f52 _ ["self", "pair"] (spDX K 2 (c_Party_take C)) := fn_Party_take F52 B HM__edit
  have HM_take : HasM l.prog w K mg base (fun D => D = C.Party ∨ D = C.PledgedParty) "take" 8 ["self", "pair"] (fun _ => c_Party_take C) := fun D hD => by
    rcases hD with rfl | rfl
    · exact ⟨B.c_Party, f52, _, ⟨a52, fn52, k52⟩, b52, G_Party_take⟩
    · exact ⟨B.c_PledgedParty, f52, _, ⟨ai52_PledgedParty, fn52, k52⟩, b52, G_Party_take⟩
  have G_Party_come : FnGX l.prog w K mg base 8 f53 _ ["self", "foot"] (spDX K 2 (c_Party_come C)) := fn_Party_come F53 B HM__edit
  have HM_come : HasM l.prog w K mg base (fun D => D = C.Party ∨ D = C.PledgedParty) "come" 8 ["self", "foot"] (fun _ => c_Party_come C) := fun D hD => by
    rcases hD with rfl | rfl
    · exact ⟨B.c_Party, f53, _, ⟨a53, fn53, k53⟩, b53, G_Party_come⟩
    · exact ⟨B.c_PledgedParty, f53, _, ⟨ai53_PledgedParty, fn53, k53⟩, b53, G_Party_come⟩
  have G_Party_leave : FnGX l.prog w K mg base 8 f54 _ ["self", "guest"] (spDX K 2 (c_Party_leave C)) := fn_Party_leave F54 B HM__edit
  have HM_leave : HasM l.prog w K mg base (fun D => D = C.Party ∨ D = C.PledgedParty) "leave" 8 ["self", "guest"] (fun _ => c_Party_leave C) := fun D hD => by
    rcases hD with rfl | rfl
    · exact ⟨B.c_Party, f54, _, ⟨a54, fn54, k54⟩, b54, G_Party_leave⟩
    · exact ⟨B.c_PledgedParty, f54, _, ⟨ai54_PledgedParty, fn54, k54⟩, b54, G_Party_leave⟩
  have G_Party_put : FnGX l.prog w K mg base 8 f55 _ ["self", "size"] (spDX K 2 (c_Party_put C)) := fn_Party_put F55 B HM__edit
  have HM_put : HasM l.prog w K mg base (fun D => D = C.Party ∨ D = C.PledgedParty) "put" 8 ["self", "size"] (fun _ => c_Party_put C) := fun D hD => by
    rcases hD with rfl | rfl
    · exact ⟨B.c_Party, f55, _, ⟨a55, fn55, k55⟩, b55, G_Party_put⟩
    · exact ⟨B.c_PledgedParty, f55, _, ⟨ai55_PledgedParty, fn55, k55⟩, b55, G_Party_put⟩
  have H__law_do : Has l.prog w K mg base "_law_do" 9 ["table", "edit"] (c__law_do C) := ⟨f32, _, PySem.W.mg_of X G a32, k32, b32, fn__law_do F32 B HM_take HM_come HM_leave HM_put⟩
  have G_Party_undo : FnGX l.prog w K mg base 5 f56 _ ["self"] (spDX K 1 (c_Party_undo C)) := fn_Party_undo F56 B HM__ask_idle HM__stand
  have HM_undo : HasM l.prog w K mg base (fun D => D = C.Party ∨ D = C.PledgedParty) "undo" 5 ["self"] (fun _ => c_Party_undo C) := fun D hD => by
    rcases hD with rfl | rfl
    · exact ⟨B.c_Party, f56, _, ⟨a56, fn56, k56⟩, b56, G_Party_undo⟩
    · exact ⟨B.c_PledgedParty, f56, _, ⟨ai56_PledgedParty, fn56, k56⟩, b56, G_Party_undo⟩
  have H__law_edits_right : Has l.prog w K mg base "_law_edits_right" 10 ["table", "hall"] (c__law_edits_right C) := ⟨f33, _, PySem.W.mg_of X G a33, k33, b33, fn__law_edits_right F33 B H__law_do HMK_state HM_undo⟩
  exact fn_law (fun_mk (st := s_law) l34 c34 k34) B H__law_deck H__law_hall H__law_draw H__law_text H__law_due H__law_read H__law_right HM___eq__ H_Party___init__ H__law_edits_right
theorem all_mk2 {l : PySem.W.OpenLaw} {w : World} {K : PySem.W.Frag} {h : Heap} {mg : Str → Option Value} {fa : Addr} {C_PartyError C_TooLarge C_BadShelf C_TooManyPairs C_BadFoot C_BadHall C_Busy C_TooManyEdits C_TooManyGuests C_LastGuest C_BadSize C_NothingToUndo C_BadNumber C_TooFewServed C_BadText C_NoGuest C_NoPair C_NoVersion C_Pledge C_Party C_PledgedParty C_CHANGES : Addr} (X : K.In h) (G : h.Ns mainGlobals mg) (hfa : mg "law" = some (.ref fa))
    {f0 : Addr} {od0 an0 : Option Addr} {sl0 : Array (Option Value)} {oc0 kV0 dc0 pm0 cd0 ct0 : Value}
    (a0 : PySem.W.nsIn K mainGlobals "_law_deck" = some (some (.ref f0)))
    (l0 : K.lookup f0 = some ⟨oc0, od0, .func (PySem.W.fnOf "_law_deck" "_law_deck" (defArgs s__law_deck) (defBody s__law_deck) (defScope s__law_deck) .none kV0 dc0 pm0 an0 cd0 ct0), sl0⟩) (c0 : PySem.W.codeIn K cd0 "_law_deck" = true) (k0 : PySem.W.keepIn K (.ref f0) = true)
    {f1 : Addr} {od1 an1 : Option Addr} {sl1 : Array (Option Value)} {oc1 kV1 dc1 pm1 cd1 ct1 : Value}
    (a1 : PySem.W.nsIn K mainGlobals "_law_draw" = some (some (.ref f1)))
    (l1 : K.lookup f1 = some ⟨oc1, od1, .func (PySem.W.fnOf "_law_draw" "_law_draw" (defArgs s__law_draw) (defBody s__law_draw) (defScope s__law_draw) .none kV1 dc1 pm1 an1 cd1 ct1), sl1⟩) (c1 : PySem.W.codeIn K cd1 "_law_draw" = true) (k1 : PySem.W.keepIn K (.ref f1) = true)
    {f2 : Addr} {od2 an2 : Option Addr} {sl2 : Array (Option Value)} {oc2 kV2 dc2 pm2 cd2 ct2 : Value}
    (a2 : PySem.W.nsIn K mainGlobals "_law_sizes" = some (some (.ref f2)))
    (l2 : K.lookup f2 = some ⟨oc2, od2, .func (PySem.W.fnOf "_law_sizes" "_law_sizes" (defArgs s__law_sizes) (defBody s__law_sizes) (defScope s__law_sizes) .none kV2 dc2 pm2 an2 cd2 ct2), sl2⟩) (c2 : PySem.W.codeIn K cd2 "_law_sizes" = true) (k2 : PySem.W.keepIn K (.ref f2) = true)
    {f3 : Addr} {od3 an3 : Option Addr} {sl3 : Array (Option Value)} {oc3 kV3 dc3 pm3 cd3 ct3 : Value}
    (a3 : PySem.W.nsIn K mainGlobals "_law_hall" = some (some (.ref f3)))
    (l3 : K.lookup f3 = some ⟨oc3, od3, .func (PySem.W.fnOf "_law_hall" "_law_hall" (defArgs s__law_hall) (defBody s__law_hall) (defScope s__law_hall) .none kV3 dc3 pm3 an3 cd3 ct3), sl3⟩) (c3 : PySem.W.codeIn K cd3 "_law_hall" = true) (k3 : PySem.W.keepIn K (.ref f3) = true)
    {f4 : Addr} {od4 an4 : Option Addr} {sl4 : Array (Option Value)} {oc4 kV4 dc4 pm4 cd4 ct4 : Value}
    (a4 : PySem.W.nsIn K mainGlobals "_law_text" = some (some (.ref f4)))
    (l4 : K.lookup f4 = some ⟨oc4, od4, .func (PySem.W.fnOf "_law_text" "_law_text" (defArgs s__law_text) (defBody s__law_text) (defScope s__law_text) .none kV4 dc4 pm4 an4 cd4 ct4), sl4⟩) (c4 : PySem.W.codeIn K cd4 "_law_text" = true) (k4 : PySem.W.keepIn K (.ref f4) = true)
    {f5 : Addr} {od5 an5 : Option Addr} {sl5 : Array (Option Value)} {oc5 kV5 dc5 pm5 cd5 ct5 : Value}
    (a5 : PySem.W.nsIn K mainGlobals "_law_number" = some (some (.ref f5)))
    (l5 : K.lookup f5 = some ⟨oc5, od5, .func (PySem.W.fnOf "_law_number" "_law_number" (defArgs s__law_number) (defBody s__law_number) (defScope s__law_number) .none kV5 dc5 pm5 an5 cd5 ct5), sl5⟩) (c5 : PySem.W.codeIn K cd5 "_law_number" = true) (k5 : PySem.W.keepIn K (.ref f5) = true)
    {f6 : Addr} {od6 an6 : Option Addr} {sl6 : Array (Option Value)} {oc6 kV6 dc6 pm6 cd6 ct6 : Value}
    (a6 : PySem.W.nsIn K mainGlobals "_law_sizes_of" = some (some (.ref f6)))
    (l6 : K.lookup f6 = some ⟨oc6, od6, .func (PySem.W.fnOf "_law_sizes_of" "_law_sizes_of" (defArgs s__law_sizes_of) (defBody s__law_sizes_of) (defScope s__law_sizes_of) .none kV6 dc6 pm6 an6 cd6 ct6), sl6⟩) (c6 : PySem.W.codeIn K cd6 "_law_sizes_of" = true) (k6 : PySem.W.keepIn K (.ref f6) = true)
    {f7 : Addr} {od7 an7 : Option Addr} {sl7 : Array (Option Value)} {oc7 kV7 dc7 pm7 cd7 ct7 : Value}
    (a7 : PySem.W.nsIn K mainGlobals "_law_due" = some (some (.ref f7)))
    (l7 : K.lookup f7 = some ⟨oc7, od7, .func (PySem.W.fnOf "_law_due" "_law_due" (defArgs s__law_due) (defBody s__law_due) (defScope s__law_due) .none kV7 dc7 pm7 an7 cd7 ct7), sl7⟩) (c7 : PySem.W.codeIn K cd7 "_law_due" = true) (k7 : PySem.W.keepIn K (.ref f7) = true)
    {f8 : Addr} {od8 an8 : Option Addr} {sl8 : Array (Option Value)} {oc8 kV8 dc8 pm8 cd8 ct8 : Value}
    (a8 : PySem.W.nsIn K mainGlobals "is_number" = some (some (.ref f8)))
    (l8 : K.lookup f8 = some ⟨oc8, od8, .func (PySem.W.fnOf "is_number" "is_number" (defArgs s_is_number) (defBody s_is_number) (defScope s_is_number) .none kV8 dc8 pm8 an8 cd8 ct8), sl8⟩) (c8 : PySem.W.codeIn K cd8 "is_number" = true) (k8 : PySem.W.keepIn K (.ref f8) = true)
    {f9 : Addr} {od9 an9 : Option Addr} {sl9 : Array (Option Value)} {oc9 kV9 dc9 pm9 cd9 ct9 : Value}
    (a9 : PySem.W.nsIn K mainGlobals "is_number_from" = some (some (.ref f9)))
    (l9 : K.lookup f9 = some ⟨oc9, od9, .func (PySem.W.fnOf "is_number_from" "is_number_from" (defArgs s_is_number_from) (defBody s_is_number_from) (defScope s_is_number_from) .none kV9 dc9 pm9 an9 cd9 ct9), sl9⟩) (c9 : PySem.W.codeIn K cd9 "is_number_from" = true) (k9 : PySem.W.keepIn K (.ref f9) = true)
    {f10 : Addr} {od10 an10 : Option Addr} {sl10 : Array (Option Value)} {oc10 kV10 dc10 pm10 cd10 ct10 : Value}
    (a10 : PySem.W.nsIn K mainGlobals "is_size" = some (some (.ref f10)))
    (l10 : K.lookup f10 = some ⟨oc10, od10, .func (PySem.W.fnOf "is_size" "is_size" (defArgs s_is_size) (defBody s_is_size) (defScope s_is_size) .none kV10 dc10 pm10 an10 cd10 ct10), sl10⟩) (c10 : PySem.W.codeIn K cd10 "is_size" = true) (k10 : PySem.W.keepIn K (.ref f10) = true)
    {f11 : Addr} {od11 an11 : Option Addr} {sl11 : Array (Option Value)} {oc11 kV11 dc11 pm11 cd11 ct11 : Value}
    (a11 : PySem.W.nsIn K mainGlobals "_first_wrong" = some (some (.ref f11)))
    (l11 : K.lookup f11 = some ⟨oc11, od11, .func (PySem.W.fnOf "_first_wrong" "_first_wrong" (defArgs s__first_wrong) (defBody s__first_wrong) (defScope s__first_wrong) .none kV11 dc11 pm11 an11 cd11 ct11), sl11⟩) (c11 : PySem.W.codeIn K cd11 "_first_wrong" = true) (k11 : PySem.W.keepIn K (.ref f11) = true)
    {f12 : Addr} {od12 an12 : Option Addr} {sl12 : Array (Option Value)} {oc12 kV12 dc12 pm12 cd12 ct12 : Value}
    (a12 : PySem.W.nsIn K mainGlobals "is_tuple" = some (some (.ref f12)))
    (l12 : K.lookup f12 = some ⟨oc12, od12, .func (PySem.W.fnOf "is_tuple" "is_tuple" (defArgs s_is_tuple) (defBody s_is_tuple) (defScope s_is_tuple) .none kV12 dc12 pm12 an12 cd12 ct12), sl12⟩) (c12 : PySem.W.codeIn K cd12 "is_tuple" = true) (k12 : PySem.W.keepIn K (.ref f12) = true)
    {f13 : Addr} {od13 an13 : Option Addr} {sl13 : Array (Option Value)} {oc13 kV13 dc13 pm13 cd13 ct13 : Value}
    (a13 : PySem.W.nsIn K mainGlobals "hall_error" = some (some (.ref f13)))
    (l13 : K.lookup f13 = some ⟨oc13, od13, .func (PySem.W.fnOf "hall_error" "hall_error" (defArgs s_hall_error) (defBody s_hall_error) (defScope s_hall_error) .none kV13 dc13 pm13 an13 cd13 ct13), sl13⟩) (c13 : PySem.W.codeIn K cd13 "hall_error" = true) (k13 : PySem.W.keepIn K (.ref f13) = true)
    {f14 : Addr} {od14 an14 : Option Addr} {sl14 : Array (Option Value)} {oc14 kV14 dc14 pm14 cd14 ct14 : Value}
    (a14 : PySem.W.nsIn K mainGlobals "counts_at" = some (some (.ref f14)))
    (l14 : K.lookup f14 = some ⟨oc14, od14, .func (PySem.W.fnOf "counts_at" "counts_at" (defArgs s_counts_at) (defBody s_counts_at) (defScope s_counts_at) .none kV14 dc14 pm14 an14 cd14 ct14), sl14⟩) (c14 : PySem.W.codeIn K cd14 "counts_at" = true) (k14 : PySem.W.keepIn K (.ref f14) = true)
    {f15 : Addr} {od15 an15 : Option Addr} {sl15 : Array (Option Value)} {oc15 kV15 dc15 pm15 cd15 ct15 : Value}
    (a15 : PySem.W.nsIn K mainGlobals "_foot_sizes" = some (some (.ref f15)))
    (l15 : K.lookup f15 = some ⟨oc15, od15, .func (PySem.W.fnOf "_foot_sizes" "_foot_sizes" (defArgs s__foot_sizes) (defBody s__foot_sizes) (defScope s__foot_sizes) .none kV15 dc15 pm15 an15 cd15 ct15), sl15⟩) (c15 : PySem.W.codeIn K cd15 "_foot_sizes" = true) (k15 : PySem.W.keepIn K (.ref f15) = true)
    {f16 : Addr} {od16 an16 : Option Addr} {sl16 : Array (Option Value)} {oc16 kV16 dc16 pm16 cd16 ct16 : Value}
    (a16 : PySem.W.nsIn K mainGlobals "_deciding_sizes" = some (some (.ref f16)))
    (l16 : K.lookup f16 = some ⟨oc16, od16, .func (PySem.W.fnOf "_deciding_sizes" "_deciding_sizes" (defArgs s__deciding_sizes) (defBody s__deciding_sizes) (defScope s__deciding_sizes) .none kV16 dc16 pm16 an16 cd16 ct16), sl16⟩) (c16 : PySem.W.codeIn K cd16 "_deciding_sizes" = true) (k16 : PySem.W.keepIn K (.ref f16) = true)
    {f17 : Addr} {od17 an17 : Option Addr} {sl17 : Array (Option Value)} {oc17 kV17 dc17 pm17 cd17 ct17 : Value}
    (a17 : PySem.W.nsIn K mainGlobals "most_served" = some (some (.ref f17)))
    (l17 : K.lookup f17 = some ⟨oc17, od17, .func (PySem.W.fnOf "most_served" "most_served" (defArgs s_most_served) (defBody s_most_served) (defScope s_most_served) .none kV17 dc17 pm17 an17 cd17 ct17), sl17⟩) (c17 : PySem.W.codeIn K cd17 "most_served" = true) (k17 : PySem.W.keepIn K (.ref f17) = true)
    {f18 : Addr} {od18 an18 : Option Addr} {sl18 : Array (Option Value)} {oc18 kV18 dc18 pm18 cd18 ct18 : Value}
    (a18 : PySem.W.nsIn K mainGlobals "fewest_served" = some (some (.ref f18)))
    (l18 : K.lookup f18 = some ⟨oc18, od18, .func (PySem.W.fnOf "fewest_served" "fewest_served" (defArgs s_fewest_served) (defBody s_fewest_served) (defScope s_fewest_served) .none kV18 dc18 pm18 an18 cd18 ct18), sl18⟩) (c18 : PySem.W.codeIn K cd18 "fewest_served" = true) (k18 : PySem.W.keepIn K (.ref f18) = true)
    {f19 : Addr} {od19 an19 : Option Addr} {sl19 : Array (Option Value)} {oc19 kV19 dc19 pm19 cd19 ct19 : Value}
    (a19 : PySem.W.nsIn K mainGlobals "number_in" = some (some (.ref f19)))
    (l19 : K.lookup f19 = some ⟨oc19, od19, .func (PySem.W.fnOf "number_in" "number_in" (defArgs s_number_in) (defBody s_number_in) (defScope s_number_in) .none kV19 dc19 pm19 an19 cd19 ct19), sl19⟩) (c19 : PySem.W.codeIn K cd19 "number_in" = true) (k19 : PySem.W.keepIn K (.ref f19) = true)
    {f20 : Addr} {od20 an20 : Option Addr} {sl20 : Array (Option Value)} {oc20 kV20 dc20 pm20 cd20 ct20 : Value}
    (a20 : PySem.W.nsIn K mainGlobals "_sizes_in" = some (some (.ref f20)))
    (l20 : K.lookup f20 = some ⟨oc20, od20, .func (PySem.W.fnOf "_sizes_in" "_sizes_in" (defArgs s__sizes_in) (defBody s__sizes_in) (defScope s__sizes_in) .none kV20 dc20 pm20 an20 cd20 ct20), sl20⟩) (c20 : PySem.W.codeIn K cd20 "_sizes_in" = true) (k20 : PySem.W.keepIn K (.ref f20) = true)
    {f21 : Addr} {od21 an21 : Option Addr} {sl21 : Array (Option Value)} {oc21 kV21 dc21 pm21 cd21 ct21 : Value}
    (a21 : PySem.W.nsIn K mainGlobals "_part_in" = some (some (.ref f21)))
    (l21 : K.lookup f21 = some ⟨oc21, od21, .func (PySem.W.fnOf "_part_in" "_part_in" (defArgs s__part_in) (defBody s__part_in) (defScope s__part_in) .none kV21 dc21 pm21 an21 cd21 ct21), sl21⟩) (c21 : PySem.W.codeIn K cd21 "_part_in" = true) (k21 : PySem.W.keepIn K (.ref f21) = true)
    {f22 : Addr} {od22 an22 : Option Addr} {sl22 : Array (Option Value)} {oc22 kV22 dc22 pm22 cd22 ct22 : Value}
    (a22 : PySem.W.nsIn K mainGlobals "parse_hall" = some (some (.ref f22)))
    (l22 : K.lookup f22 = some ⟨oc22, od22, .func (PySem.W.fnOf "parse_hall" "parse_hall" (defArgs s_parse_hall) (defBody s_parse_hall) (defScope s_parse_hall) .none kV22 dc22 pm22 an22 cd22 ct22), sl22⟩) (c22 : PySem.W.codeIn K cd22 "parse_hall" = true) (k22 : PySem.W.keepIn K (.ref f22) = true)
    {f23 : Addr} {od23 an23 : Option Addr} {sl23 : Array (Option Value)} {oc23 kV23 dc23 pm23 cd23 ct23 : Value}
    (a23 : PySem.W.nsIn K mainGlobals "_law_read" = some (some (.ref f23)))
    (l23 : K.lookup f23 = some ⟨oc23, od23, .func (PySem.W.fnOf "_law_read" "_law_read" (defArgs s__law_read) (defBody s__law_read) (defScope s__law_read) .none kV23 dc23 pm23 an23 cd23 ct23), sl23⟩) (c23 : PySem.W.codeIn K cd23 "_law_read" = true) (k23 : PySem.W.keepIn K (.ref f23) = true)
    {f24 : Addr} {od24 an24 : Option Addr} {sl24 : Array (Option Value)} {oc24 kV24 dc24 pm24 cd24 ct24 : Value}
    (a24 : PySem.W.nsIn K mainGlobals "_law_ends" = some (some (.ref f24)))
    (l24 : K.lookup f24 = some ⟨oc24, od24, .func (PySem.W.fnOf "_law_ends" "_law_ends" (defArgs s__law_ends) (defBody s__law_ends) (defScope s__law_ends) .none kV24 dc24 pm24 an24 cd24 ct24), sl24⟩) (c24 : PySem.W.codeIn K cd24 "_law_ends" = true) (k24 : PySem.W.keepIn K (.ref f24) = true)
    {f25 : Addr} {od25 an25 : Option Addr} {sl25 : Array (Option Value)} {oc25 kV25 dc25 pm25 cd25 ct25 : Value}
    (a25 : PySem.W.nsIn K mainGlobals "_law_right" = some (some (.ref f25)))
    (l25 : K.lookup f25 = some ⟨oc25, od25, .func (PySem.W.fnOf "_law_right" "_law_right" (defArgs s__law_right) (defBody s__law_right) (defScope s__law_right) .none kV25 dc25 pm25 an25 cd25 ct25), sl25⟩) (c25 : PySem.W.codeIn K cd25 "_law_right" = true) (k25 : PySem.W.keepIn K (.ref f25) = true)
    {f26 : Addr} {od26 an26 : Option Addr} {sl26 : Array (Option Value)} {oc26 kV26 dc26 pm26 cd26 ct26 : Value}
    (a26 : PySem.W.nsIn K mainGlobals "_sorted_sizes" = some (some (.ref f26)))
    (l26 : K.lookup f26 = some ⟨oc26, od26, .func (PySem.W.fnOf "_sorted_sizes" "_sorted_sizes" (defArgs s__sorted_sizes) (defBody s__sorted_sizes) (defScope s__sorted_sizes) .none kV26 dc26 pm26 an26 cd26 ct26), sl26⟩) (c26 : PySem.W.codeIn K cd26 "_sorted_sizes" = true) (k26 : PySem.W.keepIn K (.ref f26) = true)
    {f27 : Addr} {od27 an27 : Option Addr} {sl27 : Array (Option Value)} {oc27 kV27 dc27 pm27 cd27 ct27 : Value}
    (a27 : PySem.W.nsIn K mainGlobals "_with_guest" = some (some (.ref f27)))
    (l27 : K.lookup f27 = some ⟨oc27, od27, .func (PySem.W.fnOf "_with_guest" "_with_guest" (defArgs s__with_guest) (defBody s__with_guest) (defScope s__with_guest) .none kV27 dc27 pm27 an27 cd27 ct27), sl27⟩) (c27 : PySem.W.codeIn K cd27 "_with_guest" = true) (k27 : PySem.W.keepIn K (.ref f27) = true)
    {f28 : Addr} {od28 an28 : Option Addr} {sl28 : Array (Option Value)} {oc28 kV28 dc28 pm28 cd28 ct28 : Value}
    (a28 : PySem.W.nsIn K mainGlobals "_without_guest" = some (some (.ref f28)))
    (l28 : K.lookup f28 = some ⟨oc28, od28, .func (PySem.W.fnOf "_without_guest" "_without_guest" (defArgs s__without_guest) (defBody s__without_guest) (defScope s__without_guest) .none kV28 dc28 pm28 an28 cd28 ct28), sl28⟩) (c28 : PySem.W.codeIn K cd28 "_without_guest" = true) (k28 : PySem.W.keepIn K (.ref f28) = true)
    {f29 : Addr} {od29 an29 : Option Addr} {sl29 : Array (Option Value)} {oc29 kV29 dc29 pm29 cd29 ct29 : Value}
    (a29 : PySem.W.nsIn K mainGlobals "_with_pair" = some (some (.ref f29)))
    (l29 : K.lookup f29 = some ⟨oc29, od29, .func (PySem.W.fnOf "_with_pair" "_with_pair" (defArgs s__with_pair) (defBody s__with_pair) (defScope s__with_pair) .none kV29 dc29 pm29 an29 cd29 ct29), sl29⟩) (c29 : PySem.W.codeIn K cd29 "_with_pair" = true) (k29 : PySem.W.keepIn K (.ref f29) = true)
    {f30 : Addr} {od30 an30 : Option Addr} {sl30 : Array (Option Value)} {oc30 kV30 dc30 pm30 cd30 ct30 : Value}
    (a30 : PySem.W.nsIn K mainGlobals "_without_pair" = some (some (.ref f30)))
    (l30 : K.lookup f30 = some ⟨oc30, od30, .func (PySem.W.fnOf "_without_pair" "_without_pair" (defArgs s__without_pair) (defBody s__without_pair) (defScope s__without_pair) .none kV30 dc30 pm30 an30 cd30 ct30), sl30⟩) (c30 : PySem.W.codeIn K cd30 "_without_pair" = true) (k30 : PySem.W.keepIn K (.ref f30) = true)
    {f31 : Addr} {od31 an31 : Option Addr} {sl31 : Array (Option Value)} {oc31 kV31 dc31 pm31 cd31 ct31 : Value}
    (a31 : PySem.W.nsIn K mainGlobals "hall_after" = some (some (.ref f31)))
    (l31 : K.lookup f31 = some ⟨oc31, od31, .func (PySem.W.fnOf "hall_after" "hall_after" (defArgs s_hall_after) (defBody s_hall_after) (defScope s_hall_after) .none kV31 dc31 pm31 an31 cd31 ct31), sl31⟩) (c31 : PySem.W.codeIn K cd31 "hall_after" = true) (k31 : PySem.W.keepIn K (.ref f31) = true)
    {f32 : Addr} {od32 an32 : Option Addr} {sl32 : Array (Option Value)} {oc32 kV32 dc32 pm32 cd32 ct32 : Value}
    (a32 : PySem.W.nsIn K mainGlobals "_law_do" = some (some (.ref f32)))
    (l32 : K.lookup f32 = some ⟨oc32, od32, .func (PySem.W.fnOf "_law_do" "_law_do" (defArgs s__law_do) (defBody s__law_do) (defScope s__law_do) .none kV32 dc32 pm32 an32 cd32 ct32), sl32⟩) (c32 : PySem.W.codeIn K cd32 "_law_do" = true) (k32 : PySem.W.keepIn K (.ref f32) = true)
    {f33 : Addr} {od33 an33 : Option Addr} {sl33 : Array (Option Value)} {oc33 kV33 dc33 pm33 cd33 ct33 : Value}
    (a33 : PySem.W.nsIn K mainGlobals "_law_edits_right" = some (some (.ref f33)))
    (l33 : K.lookup f33 = some ⟨oc33, od33, .func (PySem.W.fnOf "_law_edits_right" "_law_edits_right" (defArgs s__law_edits_right) (defBody s__law_edits_right) (defScope s__law_edits_right) .none kV33 dc33 pm33 an33 cd33 ct33), sl33⟩) (c33 : PySem.W.codeIn K cd33 "_law_edits_right" = true) (k33 : PySem.W.keepIn K (.ref f33) = true)
    {f34 : Addr} {od34 an34 : Option Addr} {sl34 : Array (Option Value)} {oc34 kV34 dc34 pm34 cd34 ct34 : Value}
    (a34 : PySem.W.nsIn K mainGlobals "law" = some (some (.ref f34)))
    (l34 : K.lookup f34 = some ⟨oc34, od34, .func (PySem.W.fnOf "law" "law" (defArgs s_law) (defBody s_law) (defScope s_law) .none kV34 dc34 pm34 an34 cd34 ct34), sl34⟩) (c34 : PySem.W.codeIn K cd34 "law" = true) (k34 : PySem.W.keepIn K (.ref f34) = true)
    {f35 : Addr} {od35 an35 : Option Addr} {sl35 : Array (Option Value)} {oc35 kV35 dc35 pm35 cd35 ct35 : Value}
    (a35 : PySem.W.findIn K (.ref C_Party) "_stand" = some (some (.ref f35))) (fn35 : PySem.W.isFn K (.ref f35) = true)
    (ai35_PledgedParty : PySem.W.findIn K (.ref C_PledgedParty) "_stand" = some (some (.ref f35)))
    (l35 : K.lookup f35 = some ⟨oc35, od35, .func (PySem.W.fnOf "_stand" "Party._stand" (defArgs s_Party__stand) (defBody s_Party__stand) (defScope s_Party__stand) .none kV35 dc35 pm35 an35 cd35 ct35), sl35⟩) (c35 : PySem.W.codeIn K cd35 "Party._stand" = true) (k35 : PySem.W.keepIn K (.ref f35) = true)
    {f36 : Addr} {od36 an36 : Option Addr} {sl36 : Array (Option Value)} {oc36 kV36 dc36 pm36 cd36 ct36 : Value}
    (a36 : PySem.W.findIn K (.ref C_Party) "__init__" = some (some (.ref f36))) (fn36 : PySem.W.isFn K (.ref f36) = true)
    (l36 : K.lookup f36 = some ⟨oc36, od36, .func (PySem.W.fnOf "__init__" "Party.__init__" (defArgs s_Party___init__) (defBody s_Party___init__) (defScope s_Party___init__) .none kV36 dc36 pm36 an36 cd36 ct36), sl36⟩) (c36 : PySem.W.codeIn K cd36 "Party.__init__" = true) (k36 : PySem.W.keepIn K (.ref f36) = true)
    {f37 : Addr} {od37 an37 : Option Addr} {sl37 : Array (Option Value)} {oc37 kV37 dc37 pm37 cd37 ct37 : Value}
    {pc37 : Addr} {rs37 : List Value} (a37 : PySem.W.findCls K (.ref C_Party) (.type "type") "read" = some (.get (.builtin "classmethod.__get__") (.ref pc37) .none (.ref C_Party)))
    (rc37 : PySem.W.recIn K pc37 "classmethod" = some (.ref f37 :: rs37)) (fi37 : PySem.W.fnIn K f37 = true) (sg37 : PySem.W.specialIn K (.ref C_Party) "__getattribute__" = some (some (.builtin "type.__getattribute__"))) (rd37 : PySem.W.readsIn K C_Party (.type "type") = true)
    (l37 : K.lookup f37 = some ⟨oc37, od37, .func (PySem.W.fnOf "read" "Party.read" (defArgs s_Party_read) (defBody s_Party_read) (defScope s_Party_read) .none kV37 dc37 pm37 an37 cd37 ct37), sl37⟩) (c37 : PySem.W.codeIn K cd37 "Party.read" = true) (k37 : PySem.W.keepIn K (.ref f37) = true)
    {f38 : Addr} {od38 an38 : Option Addr} {sl38 : Array (Option Value)} {oc38 kV38 dc38 pm38 cd38 ct38 : Value}
    (a38 : PySem.W.findIn K (.ref C_Party) "_hall_at" = some (some (.ref f38))) (fn38 : PySem.W.isFn K (.ref f38) = true)
    (ai38_PledgedParty : PySem.W.findIn K (.ref C_PledgedParty) "_hall_at" = some (some (.ref f38)))
    (l38 : K.lookup f38 = some ⟨oc38, od38, .func (PySem.W.fnOf "_hall_at" "Party._hall_at" (defArgs s_Party__hall_at) (defBody s_Party__hall_at) (defScope s_Party__hall_at) .none kV38 dc38 pm38 an38 cd38 ct38), sl38⟩) (c38 : PySem.W.codeIn K cd38 "Party._hall_at" = true) (k38 : PySem.W.keepIn K (.ref f38) = true)
    {f39 : Addr} {od39 an39 : Option Addr} {sl39 : Array (Option Value)} {oc39 dc39 pm39 cd39 ct39 : Value}
    (a39 : PySem.W.findIn K (.ref C_Party) "state" = some (some (.ref f39))) (fn39 : PySem.W.isFn K (.ref f39) = true)
    (ai39_PledgedParty : PySem.W.findIn K (.ref C_PledgedParty) "state" = some (some (.ref f39)))
    {D39 : Addr}
    (l39 : K.lookup f39 = some ⟨oc39, od39, .func (PySem.W.fnOf "state" "Party.state" (defArgs s_Party_state) (defBody s_Party_state) (defScope s_Party_state) .none (.ref D39) dc39 pm39 an39 cd39 ct39), sl39⟩) (c39 : PySem.W.codeIn K cd39 "Party.state" = true) (k39 : PySem.W.keepIn K (.ref f39) = true)
    (kd39 : PySem.W.nsIn K D39 "version" = some (some .none))
    {f40 : Addr} {od40 an40 : Option Addr} {sl40 : Array (Option Value)} {oc40 kV40 dc40 pm40 cd40 ct40 : Value}
    (a40 : PySem.W.findIn K (.ref C_Party) "edits" = some (some (.ref f40))) (fn40 : PySem.W.isFn K (.ref f40) = true)
    (ai40_PledgedParty : PySem.W.findIn K (.ref C_PledgedParty) "edits" = some (some (.ref f40)))
    (l40 : K.lookup f40 = some ⟨oc40, od40, .func (PySem.W.fnOf "edits" "Party.edits" (defArgs s_Party_edits) (defBody s_Party_edits) (defScope s_Party_edits) .none kV40 dc40 pm40 an40 cd40 ct40), sl40⟩) (c40 : PySem.W.codeIn K cd40 "Party.edits" = true) (k40 : PySem.W.keepIn K (.ref f40) = true)
    {f41 : Addr} {od41 an41 : Option Addr} {sl41 : Array (Option Value)} {oc41 kV41 dc41 pm41 cd41 ct41 : Value}
    (a41 : PySem.W.findIn K (.ref C_Party) "__len__" = some (some (.ref f41))) (fn41 : PySem.W.isFn K (.ref f41) = true)
    (ai41_PledgedParty : PySem.W.findIn K (.ref C_PledgedParty) "__len__" = some (some (.ref f41)))
    (l41 : K.lookup f41 = some ⟨oc41, od41, .func (PySem.W.fnOf "__len__" "Party.__len__" (defArgs s_Party___len__) (defBody s_Party___len__) (defScope s_Party___len__) .none kV41 dc41 pm41 an41 cd41 ct41), sl41⟩) (c41 : PySem.W.codeIn K cd41 "Party.__len__" = true) (k41 : PySem.W.keepIn K (.ref f41) = true)
    {f42 : Addr} {od42 an42 : Option Addr} {sl42 : Array (Option Value)} {oc42 kV42 dc42 pm42 cd42 ct42 : Value}
    (a42 : PySem.W.findIn K (.ref C_Party) "__str__" = some (some (.ref f42))) (fn42 : PySem.W.isFn K (.ref f42) = true)
    (ai42_PledgedParty : PySem.W.findIn K (.ref C_PledgedParty) "__str__" = some (some (.ref f42)))
    (l42 : K.lookup f42 = some ⟨oc42, od42, .func (PySem.W.fnOf "__str__" "Party.__str__" (defArgs s_Party___str__) (defBody s_Party___str__) (defScope s_Party___str__) .none kV42 dc42 pm42 an42 cd42 ct42), sl42⟩) (c42 : PySem.W.codeIn K cd42 "Party.__str__" = true) (k42 : PySem.W.keepIn K (.ref f42) = true)
    {f43 : Addr} {od43 an43 : Option Addr} {sl43 : Array (Option Value)} {oc43 kV43 dc43 pm43 cd43 ct43 : Value}
    (a43 : PySem.W.findIn K (.ref C_Party) "_promised" = some (some (.ref f43))) (fn43 : PySem.W.isFn K (.ref f43) = true)
    (l43 : K.lookup f43 = some ⟨oc43, od43, .func (PySem.W.fnOf "_promised" "Party._promised" (defArgs s_Party__promised) (defBody s_Party__promised) (defScope s_Party__promised) .none kV43 dc43 pm43 an43 cd43 ct43), sl43⟩) (c43 : PySem.W.codeIn K cd43 "Party._promised" = true) (k43 : PySem.W.keepIn K (.ref f43) = true)
    {f44 : Addr} {od44 an44 : Option Addr} {sl44 : Array (Option Value)} {oc44 kV44 dc44 pm44 cd44 ct44 : Value}
    (a44 : PySem.W.findIn K (.ref C_PledgedParty) "_promised" = some (some (.ref f44))) (fn44 : PySem.W.isFn K (.ref f44) = true)
    (l44 : K.lookup f44 = some ⟨oc44, od44, .func (PySem.W.fnOf "_promised" "PledgedParty._promised" (defArgs s_PledgedParty__promised) (defBody s_PledgedParty__promised) (defScope s_PledgedParty__promised) .none kV44 dc44 pm44 an44 cd44 ct44), sl44⟩) (c44 : PySem.W.codeIn K cd44 "PledgedParty._promised" = true) (k44 : PySem.W.keepIn K (.ref f44) = true)
    {f45 : Addr} {od45 an45 : Option Addr} {sl45 : Array (Option Value)} {oc45 kV45 dc45 pm45 cd45 ct45 : Value}
    (a45 : PySem.W.findIn K (.ref C_Party) "__eq__" = some (some (.ref f45))) (fn45 : PySem.W.isFn K (.ref f45) = true)
    (ai45_PledgedParty : PySem.W.findIn K (.ref C_PledgedParty) "__eq__" = some (some (.ref f45)))
    (l45 : K.lookup f45 = some ⟨oc45, od45, .func (PySem.W.fnOf "__eq__" "Party.__eq__" (defArgs s_Party___eq__) (defBody s_Party___eq__) (defScope s_Party___eq__) .none kV45 dc45 pm45 an45 cd45 ct45), sl45⟩) (c45 : PySem.W.codeIn K cd45 "Party.__eq__" = true) (k45 : PySem.W.keepIn K (.ref f45) = true)
    {f46 : Addr} {od46 an46 : Option Addr} {sl46 : Array (Option Value)} {oc46 kV46 dc46 pm46 cd46 ct46 : Value}
    (a46 : PySem.W.findIn K (.ref C_Party) "_ask_idle" = some (some (.ref f46))) (fn46 : PySem.W.isFn K (.ref f46) = true)
    (ai46_PledgedParty : PySem.W.findIn K (.ref C_PledgedParty) "_ask_idle" = some (some (.ref f46)))
    (l46 : K.lookup f46 = some ⟨oc46, od46, .func (PySem.W.fnOf "_ask_idle" "Party._ask_idle" (defArgs s_Party__ask_idle) (defBody s_Party__ask_idle) (defScope s_Party__ask_idle) .none kV46 dc46 pm46 an46 cd46 ct46), sl46⟩) (c46 : PySem.W.codeIn K cd46 "Party._ask_idle" = true) (k46 : PySem.W.keepIn K (.ref f46) = true)
    {f47 : Addr} {od47 an47 : Option Addr} {sl47 : Array (Option Value)} {oc47 kV47 dc47 pm47 cd47 ct47 : Value}
    (a47 : PySem.W.findIn K (.ref C_Party) "_ask_pledge" = some (some (.ref f47))) (fn47 : PySem.W.isFn K (.ref f47) = true)
    (l47 : K.lookup f47 = some ⟨oc47, od47, .func (PySem.W.fnOf "_ask_pledge" "Party._ask_pledge" (defArgs s_Party__ask_pledge) (defBody s_Party__ask_pledge) (defScope s_Party__ask_pledge) .none kV47 dc47 pm47 an47 cd47 ct47), sl47⟩) (c47 : PySem.W.codeIn K cd47 "Party._ask_pledge" = true) (k47 : PySem.W.keepIn K (.ref f47) = true)
    {f48 : Addr} {od48 an48 : Option Addr} {sl48 : Array (Option Value)} {oc48 kV48 dc48 pm48 cd48 ct48 : Value}
    (a48 : PySem.W.findIn K (.ref C_Pledge) "spare" = some (some (.ref f48))) (fn48 : PySem.W.isFn K (.ref f48) = true)
    (ai48_PledgedParty : PySem.W.findIn K (.ref C_PledgedParty) "spare" = some (some (.ref f48)))
    (l48 : K.lookup f48 = some ⟨oc48, od48, .func (PySem.W.fnOf "spare" "Pledge.spare" (defArgs s_Pledge_spare) (defBody s_Pledge_spare) (defScope s_Pledge_spare) .none kV48 dc48 pm48 an48 cd48 ct48), sl48⟩) (c48 : PySem.W.codeIn K cd48 "Pledge.spare" = true) (k48 : PySem.W.keepIn K (.ref f48) = true)
    {f49 : Addr} {od49 an49 : Option Addr} {sl49 : Array (Option Value)} {oc49 kV49 dc49 pm49 cd49 ct49 : Value}
    (a49 : PySem.W.findIn K (.ref C_PledgedParty) "_ask_pledge" = some (some (.ref f49))) (fn49 : PySem.W.isFn K (.ref f49) = true)
    (l49 : K.lookup f49 = some ⟨oc49, od49, .func (PySem.W.fnOf "_ask_pledge" "PledgedParty._ask_pledge" (defArgs s_PledgedParty__ask_pledge) (defBody s_PledgedParty__ask_pledge) (defScope s_PledgedParty__ask_pledge) .none kV49 dc49 pm49 an49 cd49 ct49), sl49⟩) (c49 : PySem.W.codeIn K cd49 "PledgedParty._ask_pledge" = true) (k49 : PySem.W.keepIn K (.ref f49) = true)
    {f50 : Addr} {od50 an50 : Option Addr} {sl50 : Array (Option Value)} {oc50 kV50 dc50 pm50 cd50 ct50 : Value}
    (a50 : PySem.W.findIn K (.ref C_Party) "_do" = some (some (.ref f50))) (fn50 : PySem.W.isFn K (.ref f50) = true)
    (ai50_PledgedParty : PySem.W.findIn K (.ref C_PledgedParty) "_do" = some (some (.ref f50)))
    (l50 : K.lookup f50 = some ⟨oc50, od50, .func (PySem.W.fnOf "_do" "Party._do" (defArgs s_Party__do) (defBody s_Party__do) (defScope s_Party__do) .none kV50 dc50 pm50 an50 cd50 ct50), sl50⟩) (c50 : PySem.W.codeIn K cd50 "Party._do" = true) (k50 : PySem.W.keepIn K (.ref f50) = true)
    {f51 : Addr} {od51 an51 : Option Addr} {sl51 : Array (Option Value)} {oc51 kV51 dc51 pm51 cd51 ct51 : Value}
    (a51 : PySem.W.findIn K (.ref C_Party) "_edit" = some (some (.ref f51))) (fn51 : PySem.W.isFn K (.ref f51) = true)
    (ai51_PledgedParty : PySem.W.findIn K (.ref C_PledgedParty) "_edit" = some (some (.ref f51)))
    (l51 : K.lookup f51 = some ⟨oc51, od51, .func (PySem.W.fnOf "_edit" "Party._edit" (defArgs s_Party__edit) (defBody s_Party__edit) (defScope s_Party__edit) .none kV51 dc51 pm51 an51 cd51 ct51), sl51⟩) (c51 : PySem.W.codeIn K cd51 "Party._edit" = true) (k51 : PySem.W.keepIn K (.ref f51) = true)
    {f52 : Addr} {od52 an52 : Option Addr} {sl52 : Array (Option Value)} {oc52 kV52 dc52 pm52 cd52 ct52 : Value}
    (a52 : PySem.W.findIn K (.ref C_Party) "take" = some (some (.ref f52))) (fn52 : PySem.W.isFn K (.ref f52) = true)
    (ai52_PledgedParty : PySem.W.findIn K (.ref C_PledgedParty) "take" = some (some (.ref f52)))
    (l52 : K.lookup f52 = some ⟨oc52, od52, .func (PySem.W.fnOf "take" "Party.take" (defArgs s_Party_take) (defBody s_Party_take) (defScope s_Party_take) .none kV52 dc52 pm52 an52 cd52 ct52), sl52⟩) (c52 : PySem.W.codeIn K cd52 "Party.take" = true) (k52 : PySem.W.keepIn K (.ref f52) = true)
    {f53 : Addr} {od53 an53 : Option Addr} {sl53 : Array (Option Value)} {oc53 kV53 dc53 pm53 cd53 ct53 : Value}
    (a53 : PySem.W.findIn K (.ref C_Party) "come" = some (some (.ref f53))) (fn53 : PySem.W.isFn K (.ref f53) = true)
    (ai53_PledgedParty : PySem.W.findIn K (.ref C_PledgedParty) "come" = some (some (.ref f53)))
    (l53 : K.lookup f53 = some ⟨oc53, od53, .func (PySem.W.fnOf "come" "Party.come" (defArgs s_Party_come) (defBody s_Party_come) (defScope s_Party_come) .none kV53 dc53 pm53 an53 cd53 ct53), sl53⟩) (c53 : PySem.W.codeIn K cd53 "Party.come" = true) (k53 : PySem.W.keepIn K (.ref f53) = true)
    {f54 : Addr} {od54 an54 : Option Addr} {sl54 : Array (Option Value)} {oc54 kV54 dc54 pm54 cd54 ct54 : Value}
    (a54 : PySem.W.findIn K (.ref C_Party) "leave" = some (some (.ref f54))) (fn54 : PySem.W.isFn K (.ref f54) = true)
    (ai54_PledgedParty : PySem.W.findIn K (.ref C_PledgedParty) "leave" = some (some (.ref f54)))
    (l54 : K.lookup f54 = some ⟨oc54, od54, .func (PySem.W.fnOf "leave" "Party.leave" (defArgs s_Party_leave) (defBody s_Party_leave) (defScope s_Party_leave) .none kV54 dc54 pm54 an54 cd54 ct54), sl54⟩) (c54 : PySem.W.codeIn K cd54 "Party.leave" = true) (k54 : PySem.W.keepIn K (.ref f54) = true)
    {f55 : Addr} {od55 an55 : Option Addr} {sl55 : Array (Option Value)} {oc55 kV55 dc55 pm55 cd55 ct55 : Value}
    (a55 : PySem.W.findIn K (.ref C_Party) "put" = some (some (.ref f55))) (fn55 : PySem.W.isFn K (.ref f55) = true)
    (ai55_PledgedParty : PySem.W.findIn K (.ref C_PledgedParty) "put" = some (some (.ref f55)))
    (l55 : K.lookup f55 = some ⟨oc55, od55, .func (PySem.W.fnOf "put" "Party.put" (defArgs s_Party_put) (defBody s_Party_put) (defScope s_Party_put) .none kV55 dc55 pm55 an55 cd55 ct55), sl55⟩) (c55 : PySem.W.codeIn K cd55 "Party.put" = true) (k55 : PySem.W.keepIn K (.ref f55) = true)
    {f56 : Addr} {od56 an56 : Option Addr} {sl56 : Array (Option Value)} {oc56 kV56 dc56 pm56 cd56 ct56 : Value}
    (a56 : PySem.W.findIn K (.ref C_Party) "undo" = some (some (.ref f56))) (fn56 : PySem.W.isFn K (.ref f56) = true)
    (ai56_PledgedParty : PySem.W.findIn K (.ref C_PledgedParty) "undo" = some (some (.ref f56)))
    (l56 : K.lookup f56 = some ⟨oc56, od56, .func (PySem.W.fnOf "undo" "Party.undo" (defArgs s_Party_undo) (defBody s_Party_undo) (defScope s_Party_undo) .none kV56 dc56 pm56 an56 cd56 ct56), sl56⟩) (c56 : PySem.W.codeIn K cd56 "Party.undo" = true) (k56 : PySem.W.keepIn K (.ref f56) = true)
    {f57 : Addr} {od57 an57 : Option Addr} {sl57 : Array (Option Value)} {oc57 kV57 dc57 pm57 cd57 ct57 : Value}
    (a57 : PySem.W.findIn K (.ref C_BadHall) "__init__" = some (some (.ref f57))) (tI57 : PySem.W.typeIn K (.ref f57) = some (.type "function"))
    (l57 : K.lookup f57 = some ⟨oc57, od57, .func (PySem.W.fnOf "__init__" "BadHall.__init__" (defArgs s_BadHall_init) (defBody s_BadHall_init) (defScope s_BadHall_init) .none kV57 dc57 pm57 an57 cd57 ct57), sl57⟩) (c57 : PySem.W.codeIn K cd57 "BadHall.__init__" = true) (k57 : PySem.W.keepIn K (.ref f57) = true)
    {f58 : Addr} {od58 an58 : Option Addr} {sl58 : Array (Option Value)} {oc58 kV58 dc58 pm58 cd58 ct58 : Value}
    (a58 : PySem.W.findIn K (.ref C_BadText) "__init__" = some (some (.ref f58))) (tI58 : PySem.W.typeIn K (.ref f58) = some (.type "function"))
    (l58 : K.lookup f58 = some ⟨oc58, od58, .func (PySem.W.fnOf "__init__" "BadText.__init__" (defArgs s_BadText_init) (defBody s_BadText_init) (defScope s_BadText_init) .none kV58 dc58 pm58 an58 cd58 ct58), sl58⟩) (c58 : PySem.W.codeIn K cd58 "BadText.__init__" = true) (k58 : PySem.W.keepIn K (.ref f58) = true)
    {f59 : Addr} {od59 an59 : Option Addr} {sl59 : Array (Option Value)} {oc59 kV59 dc59 pm59 cd59 ct59 : Value}
    (a59 : PySem.W.findIn K (.ref C_NoVersion) "__init__" = some (some (.ref f59))) (tI59 : PySem.W.typeIn K (.ref f59) = some (.type "function"))
    (l59 : K.lookup f59 = some ⟨oc59, od59, .func (PySem.W.fnOf "__init__" "NoVersion.__init__" (defArgs s_NoVersion_init) (defBody s_NoVersion_init) (defScope s_NoVersion_init) .none kV59 dc59 pm59 an59 cd59 ct59), sl59⟩) (c59 : PySem.W.codeIn K cd59 "NoVersion.__init__" = true) (k59 : PySem.W.keepIn K (.ref f59) = true)
    {f60 : Addr} {od60 an60 : Option Addr} {sl60 : Array (Option Value)} {oc60 kV60 dc60 pm60 cd60 ct60 : Value}
    (a60 : PySem.W.findIn K (.ref C_BadFoot) "__init__" = some (some (.ref f60))) (tI60 : PySem.W.typeIn K (.ref f60) = some (.type "function"))
    (l60 : K.lookup f60 = some ⟨oc60, od60, .func (PySem.W.fnOf "__init__" "BadFoot.__init__" (defArgs s_BadFoot_init) (defBody s_BadFoot_init) (defScope s_BadFoot_init) .none kV60 dc60 pm60 an60 cd60 ct60), sl60⟩) (c60 : PySem.W.codeIn K cd60 "BadFoot.__init__" = true) (k60 : PySem.W.keepIn K (.ref f60) = true)
    {f61 : Addr} {od61 an61 : Option Addr} {sl61 : Array (Option Value)} {oc61 kV61 dc61 pm61 cd61 ct61 : Value}
    (a61 : PySem.W.findIn K (.ref C_NoGuest) "__init__" = some (some (.ref f61))) (tI61 : PySem.W.typeIn K (.ref f61) = some (.type "function"))
    (l61 : K.lookup f61 = some ⟨oc61, od61, .func (PySem.W.fnOf "__init__" "NoGuest.__init__" (defArgs s_NoGuest_init) (defBody s_NoGuest_init) (defScope s_NoGuest_init) .none kV61 dc61 pm61 an61 cd61 ct61), sl61⟩) (c61 : PySem.W.codeIn K cd61 "NoGuest.__init__" = true) (k61 : PySem.W.keepIn K (.ref f61) = true)
    {f62 : Addr} {od62 an62 : Option Addr} {sl62 : Array (Option Value)} {oc62 kV62 dc62 pm62 cd62 ct62 : Value}
    (a62 : PySem.W.findIn K (.ref C_BadSize) "__init__" = some (some (.ref f62))) (tI62 : PySem.W.typeIn K (.ref f62) = some (.type "function"))
    (l62 : K.lookup f62 = some ⟨oc62, od62, .func (PySem.W.fnOf "__init__" "BadSize.__init__" (defArgs s_BadSize_init) (defBody s_BadSize_init) (defScope s_BadSize_init) .none kV62 dc62 pm62 an62 cd62 ct62), sl62⟩) (c62 : PySem.W.codeIn K cd62 "BadSize.__init__" = true) (k62 : PySem.W.keepIn K (.ref f62) = true)
    {f63 : Addr} {od63 an63 : Option Addr} {sl63 : Array (Option Value)} {oc63 kV63 dc63 pm63 cd63 ct63 : Value}
    (a63 : PySem.W.findIn K (.ref C_NoPair) "__init__" = some (some (.ref f63))) (tI63 : PySem.W.typeIn K (.ref f63) = some (.type "function"))
    (l63 : K.lookup f63 = some ⟨oc63, od63, .func (PySem.W.fnOf "__init__" "NoPair.__init__" (defArgs s_NoPair_init) (defBody s_NoPair_init) (defScope s_NoPair_init) .none kV63 dc63 pm63 an63 cd63 ct63), sl63⟩) (c63 : PySem.W.codeIn K cd63 "NoPair.__init__" = true) (k63 : PySem.W.keepIn K (.ref f63) = true)
    {f64 : Addr} {od64 an64 : Option Addr} {sl64 : Array (Option Value)} {oc64 kV64 dc64 pm64 cd64 ct64 : Value}
    (a64 : PySem.W.findIn K (.ref C_BadNumber) "__init__" = some (some (.ref f64))) (tI64 : PySem.W.typeIn K (.ref f64) = some (.type "function"))
    (l64 : K.lookup f64 = some ⟨oc64, od64, .func (PySem.W.fnOf "__init__" "BadNumber.__init__" (defArgs s_BadNumber_init) (defBody s_BadNumber_init) (defScope s_BadNumber_init) .none kV64 dc64 pm64 an64 cd64 ct64), sl64⟩) (c64 : PySem.W.codeIn K cd64 "BadNumber.__init__" = true) (k64 : PySem.W.keepIn K (.ref f64) = true)
    {f65 : Addr} {od65 an65 : Option Addr} {sl65 : Array (Option Value)} {oc65 kV65 dc65 pm65 cd65 ct65 : Value}
    (a65 : PySem.W.findIn K (.ref C_TooFewServed) "__init__" = some (some (.ref f65))) (tI65 : PySem.W.typeIn K (.ref f65) = some (.type "function"))
    (l65 : K.lookup f65 = some ⟨oc65, od65, .func (PySem.W.fnOf "__init__" "TooFewServed.__init__" (defArgs s_TooFewServed_init) (defBody s_TooFewServed_init) (defScope s_TooFewServed_init) .none kV65 dc65 pm65 an65 cd65 ct65), sl65⟩) (c65 : PySem.W.codeIn K cd65 "TooFewServed.__init__" = true) (k65 : PySem.W.keepIn K (.ref f65) = true)
    (z_LookupError : PySem.W.nsIn K mainGlobals "LookupError" = some none)
    (z_ValueError : PySem.W.nsIn K mainGlobals "ValueError" = some none)
    (z_abs : PySem.W.nsIn K mainGlobals "abs" = some none)
    (z_all : PySem.W.nsIn K mainGlobals "all" = some none)
    (z_bool : PySem.W.nsIn K mainGlobals "bool" = some none)
    (z_enumerate : PySem.W.nsIn K mainGlobals "enumerate" = some none)
    (z_int : PySem.W.nsIn K mainGlobals "int" = some none)
    (z_isinstance : PySem.W.nsIn K mainGlobals "isinstance" = some none)
    (z_len : PySem.W.nsIn K mainGlobals "len" = some none)
    (z_list : PySem.W.nsIn K mainGlobals "list" = some none)
    (z_max : PySem.W.nsIn K mainGlobals "max" = some none)
    (z_min : PySem.W.nsIn K mainGlobals "min" = some none)
    (z_range : PySem.W.nsIn K mainGlobals "range" = some none)
    (z_repr : PySem.W.nsIn K mainGlobals "repr" = some none)
    (z_set : PySem.W.nsIn K mainGlobals "set" = some none)
    (z_sorted : PySem.W.nsIn K mainGlobals "sorted" = some none)
    (z_str : PySem.W.nsIn K mainGlobals "str" = some none)
    (z_sum : PySem.W.nsIn K mainGlobals "sum" = some none)
    (z_tuple : PySem.W.nsIn K mainGlobals "tuple" = some none)
    (z_zip : PySem.W.nsIn K mainGlobals "zip" = some none)
    {t_LIMIT : Tok} (y_LIMIT : PySem.W.nsIn K mainGlobals "LIMIT" = some (some (.int (1000) t_LIMIT)))
    {t_MAX_SIZE : Tok} (y_MAX_SIZE : PySem.W.nsIn K mainGlobals "MAX_SIZE" = some (some (.int (1000000) t_MAX_SIZE)))
    {t_MAX_GUESTS : Tok} (y_MAX_GUESTS : PySem.W.nsIn K mainGlobals "MAX_GUESTS" = some (some (.int (20) t_MAX_GUESTS)))
    {t_MAX_PAIRS : Tok} (y_MAX_PAIRS : PySem.W.nsIn K mainGlobals "MAX_PAIRS" = some (some (.int (20) t_MAX_PAIRS)))
    {t_SLASH : Tok} (y_SLASH : PySem.W.nsIn K mainGlobals "SLASH" = some (some (.str "/" t_SLASH)))
    {t_NO_PAIRS : Tok} (y_NO_PAIRS : PySem.W.nsIn K mainGlobals "NO_PAIRS" = some (some (.str "-" t_NO_PAIRS)))
    {t_WORDS : Tok} (y_WORDS : PySem.W.nsIn K mainGlobals "WORDS" = some (some (.int (3) t_WORDS)))
    (h_cg : PySem.W.specialIn K (.builtin "object.__class__") "__get__" = some (some (.builtin "getset_descriptor.__get__")))
    (h_ct : PySem.W.takesIn K (.builtin "object.__class__") = some true)
    (h_a_PartyError : PySem.W.nsIn K mainGlobals "PartyError" = some (some (.ref C_PartyError)))
    (h_ty_PartyError : PySem.W.typeIn K (.ref C_PartyError) = some (.type "type"))
    (h_hd_PartyError : PySem.W.hasDictIn K C_PartyError = true)
    (h_a_TooLarge : PySem.W.nsIn K mainGlobals "TooLarge" = some (some (.ref C_TooLarge)))
    (h_cl_TooLarge : PySem.W.isClsIn K C_TooLarge = true)
    (h_ty_TooLarge : PySem.W.typeIn K (.ref C_TooLarge) = some (.type "type"))
    (h_s_TooLarge_TooLarge : PySem.W.subIn K (.ref C_TooLarge) (.ref C_TooLarge) = some true)
    (h_a_BadShelf : PySem.W.nsIn K mainGlobals "BadShelf" = some (some (.ref C_BadShelf)))
    (h_cl_BadShelf : PySem.W.isClsIn K C_BadShelf = true)
    (h_ty_BadShelf : PySem.W.typeIn K (.ref C_BadShelf) = some (.type "type"))
    (h_s_BadShelf_BadShelf : PySem.W.subIn K (.ref C_BadShelf) (.ref C_BadShelf) = some true)
    (h_a_TooManyPairs : PySem.W.nsIn K mainGlobals "TooManyPairs" = some (some (.ref C_TooManyPairs)))
    (h_ty_TooManyPairs : PySem.W.typeIn K (.ref C_TooManyPairs) = some (.type "type"))
    (h_k_TooManyPairs : PySem.W.keepIn K (.ref C_TooManyPairs) = true)
    (h_a_BadFoot : PySem.W.nsIn K mainGlobals "BadFoot" = some (some (.ref C_BadFoot)))
    (h_ty_BadFoot : PySem.W.typeIn K (.ref C_BadFoot) = some (.type "type"))
    (h_k_BadFoot : PySem.W.keepIn K (.ref C_BadFoot) = true)
    (h_sa_BadFoot : PySem.W.findIn K (.ref C_BadFoot) "__setattr__" = some (some (.builtin "object.__setattr__")))
    (h_a_BadHall : PySem.W.nsIn K mainGlobals "BadHall" = some (some (.ref C_BadHall)))
    (h_cl_BadHall : PySem.W.isClsIn K C_BadHall = true)
    (h_ty_BadHall : PySem.W.typeIn K (.ref C_BadHall) = some (.type "type"))
    (h_k_BadHall : PySem.W.keepIn K (.ref C_BadHall) = true)
    (h_sa_BadHall : PySem.W.findIn K (.ref C_BadHall) "__setattr__" = some (some (.builtin "object.__setattr__")))
    (h_s_BadHall_BadHall : PySem.W.subIn K (.ref C_BadHall) (.ref C_BadHall) = some true)
    (h_a_Busy : PySem.W.nsIn K mainGlobals "Busy" = some (some (.ref C_Busy)))
    (h_ty_Busy : PySem.W.typeIn K (.ref C_Busy) = some (.type "type"))
    (h_k_Busy : PySem.W.keepIn K (.ref C_Busy) = true)
    (h_a_TooManyEdits : PySem.W.nsIn K mainGlobals "TooManyEdits" = some (some (.ref C_TooManyEdits)))
    (h_ty_TooManyEdits : PySem.W.typeIn K (.ref C_TooManyEdits) = some (.type "type"))
    (h_k_TooManyEdits : PySem.W.keepIn K (.ref C_TooManyEdits) = true)
    (h_a_TooManyGuests : PySem.W.nsIn K mainGlobals "TooManyGuests" = some (some (.ref C_TooManyGuests)))
    (h_ty_TooManyGuests : PySem.W.typeIn K (.ref C_TooManyGuests) = some (.type "type"))
    (h_k_TooManyGuests : PySem.W.keepIn K (.ref C_TooManyGuests) = true)
    (h_a_LastGuest : PySem.W.nsIn K mainGlobals "LastGuest" = some (some (.ref C_LastGuest)))
    (h_ty_LastGuest : PySem.W.typeIn K (.ref C_LastGuest) = some (.type "type"))
    (h_k_LastGuest : PySem.W.keepIn K (.ref C_LastGuest) = true)
    (h_a_BadSize : PySem.W.nsIn K mainGlobals "BadSize" = some (some (.ref C_BadSize)))
    (h_ty_BadSize : PySem.W.typeIn K (.ref C_BadSize) = some (.type "type"))
    (h_k_BadSize : PySem.W.keepIn K (.ref C_BadSize) = true)
    (h_sa_BadSize : PySem.W.findIn K (.ref C_BadSize) "__setattr__" = some (some (.builtin "object.__setattr__")))
    (h_a_NothingToUndo : PySem.W.nsIn K mainGlobals "NothingToUndo" = some (some (.ref C_NothingToUndo)))
    (h_ty_NothingToUndo : PySem.W.typeIn K (.ref C_NothingToUndo) = some (.type "type"))
    (h_k_NothingToUndo : PySem.W.keepIn K (.ref C_NothingToUndo) = true)
    (h_hd_NothingToUndo : PySem.W.hasDictIn K C_NothingToUndo = true)
    (h_s_NothingToUndo_NothingToUndo : PySem.W.subIn K (.ref C_NothingToUndo) (.ref C_NothingToUndo) = some true)
    (h_a_BadNumber : PySem.W.nsIn K mainGlobals "BadNumber" = some (some (.ref C_BadNumber)))
    (h_ty_BadNumber : PySem.W.typeIn K (.ref C_BadNumber) = some (.type "type"))
    (h_k_BadNumber : PySem.W.keepIn K (.ref C_BadNumber) = true)
    (h_sa_BadNumber : PySem.W.findIn K (.ref C_BadNumber) "__setattr__" = some (some (.builtin "object.__setattr__")))
    (h_a_TooFewServed : PySem.W.nsIn K mainGlobals "TooFewServed" = some (some (.ref C_TooFewServed)))
    (h_ty_TooFewServed : PySem.W.typeIn K (.ref C_TooFewServed) = some (.type "type"))
    (h_k_TooFewServed : PySem.W.keepIn K (.ref C_TooFewServed) = true)
    (h_sa_TooFewServed : PySem.W.findIn K (.ref C_TooFewServed) "__setattr__" = some (some (.builtin "object.__setattr__")))
    (h_a_BadText : PySem.W.nsIn K mainGlobals "BadText" = some (some (.ref C_BadText)))
    (h_cl_BadText : PySem.W.isClsIn K C_BadText = true)
    (h_ty_BadText : PySem.W.typeIn K (.ref C_BadText) = some (.type "type"))
    (h_k_BadText : PySem.W.keepIn K (.ref C_BadText) = true)
    (h_hd_BadText : PySem.W.hasDictIn K C_BadText = true)
    (h_ca_BadText : PySem.W.findIn K (.ref C_BadText) "__class__" = some (some (.builtin "object.__class__")))
    (h_mo_BadText : PySem.W.mroIn K C_BadText (.type "object") = some true)
    (h_sa_BadText : PySem.W.findIn K (.ref C_BadText) "__setattr__" = some (some (.builtin "object.__setattr__")))
    (h_s_BadText_PartyError : PySem.W.subIn K (.ref C_BadText) (.ref C_PartyError) = some true)
    (h_s_BadText_TooLarge : PySem.W.subIn K (.ref C_BadText) (.ref C_TooLarge) = some false)
    (h_s_BadText_BadShelf : PySem.W.subIn K (.ref C_BadText) (.ref C_BadShelf) = some false)
    (h_s_BadText_BadHall : PySem.W.subIn K (.ref C_BadText) (.ref C_BadHall) = some false)
    (h_s_BadText_BadText : PySem.W.subIn K (.ref C_BadText) (.ref C_BadText) = some true)
    (h_s_BadText_ValueError : PySem.W.subIn K (.ref C_BadText) (.type "ValueError") = some true)
    (h_a_NoGuest : PySem.W.nsIn K mainGlobals "NoGuest" = some (some (.ref C_NoGuest)))
    (h_ty_NoGuest : PySem.W.typeIn K (.ref C_NoGuest) = some (.type "type"))
    (h_k_NoGuest : PySem.W.keepIn K (.ref C_NoGuest) = true)
    (h_sa_NoGuest : PySem.W.findIn K (.ref C_NoGuest) "__setattr__" = some (some (.builtin "object.__setattr__")))
    (h_a_NoPair : PySem.W.nsIn K mainGlobals "NoPair" = some (some (.ref C_NoPair)))
    (h_ty_NoPair : PySem.W.typeIn K (.ref C_NoPair) = some (.type "type"))
    (h_k_NoPair : PySem.W.keepIn K (.ref C_NoPair) = true)
    (h_sa_NoPair : PySem.W.findIn K (.ref C_NoPair) "__setattr__" = some (some (.builtin "object.__setattr__")))
    (h_a_NoVersion : PySem.W.nsIn K mainGlobals "NoVersion" = some (some (.ref C_NoVersion)))
    (h_ty_NoVersion : PySem.W.typeIn K (.ref C_NoVersion) = some (.type "type"))
    (h_k_NoVersion : PySem.W.keepIn K (.ref C_NoVersion) = true)
    (h_sa_NoVersion : PySem.W.findIn K (.ref C_NoVersion) "__setattr__" = some (some (.builtin "object.__setattr__")))
    (h_a_Pledge : PySem.W.nsIn K mainGlobals "Pledge" = some (some (.ref C_Pledge)))
    (h_hd_Pledge : PySem.W.hasDictIn K C_Pledge = true)
    (h_sa_Pledge : PySem.W.findIn K (.ref C_Pledge) "__setattr__" = some (some (.builtin "object.__setattr__")))
    (h_a_Party : PySem.W.nsIn K mainGlobals "Party" = some (some (.ref C_Party)))
    (h_cl_Party : PySem.W.isClsIn K C_Party = true)
    (h_ty_Party : PySem.W.typeIn K (.ref C_Party) = some (.type "type"))
    (h_k_Party : PySem.W.keepIn K (.ref C_Party) = true)
    (h_hd_Party : PySem.W.hasDictIn K C_Party = true)
    (h_ca_Party : PySem.W.findIn K (.ref C_Party) "__class__" = some (some (.builtin "object.__class__")))
    (h_mo_Party : PySem.W.mroIn K C_Party (.type "object") = some true)
    (h_sa_Party : PySem.W.findIn K (.ref C_Party) "__setattr__" = some (some (.builtin "object.__setattr__")))
    (h_s_Party_Party : PySem.W.subIn K (.ref C_Party) (.ref C_Party) = some true)
    (h_s_Party_PledgedParty : PySem.W.subIn K (.ref C_Party) (.ref C_PledgedParty) = some false)
    (h_s_Party_list : PySem.W.subIn K (.ref C_Party) (.type "list") = some false)
    (h_a_PledgedParty : PySem.W.nsIn K mainGlobals "PledgedParty" = some (some (.ref C_PledgedParty)))
    (h_cl_PledgedParty : PySem.W.isClsIn K C_PledgedParty = true)
    (h_ty_PledgedParty : PySem.W.typeIn K (.ref C_PledgedParty) = some (.type "type"))
    (h_hd_PledgedParty : PySem.W.hasDictIn K C_PledgedParty = true)
    (h_ca_PledgedParty : PySem.W.findIn K (.ref C_PledgedParty) "__class__" = some (some (.builtin "object.__class__")))
    (h_mo_PledgedParty : PySem.W.mroIn K C_PledgedParty (.type "object") = some true)
    (h_sa_PledgedParty : PySem.W.findIn K (.ref C_PledgedParty) "__setattr__" = some (some (.builtin "object.__setattr__")))
    (h_s_PledgedParty_Party : PySem.W.subIn K (.ref C_PledgedParty) (.ref C_Party) = some true)
    (h_s_PledgedParty_PledgedParty : PySem.W.subIn K (.ref C_PledgedParty) (.ref C_PledgedParty) = some true)
    (h_sb_PartyError : PySem.W.subIn K (.ref C_PartyError) (.type "BaseException") = some true)
    (h_sb_TooManyPairs : PySem.W.subIn K (.ref C_TooManyPairs) (.type "BaseException") = some true)
    (h_sb_BadFoot : PySem.W.subIn K (.ref C_BadFoot) (.type "BaseException") = some true)
    (h_n_BadFoot : PySem.W.findIn K (.ref C_BadFoot) "value" = some none)
    (h_sb_BadHall : PySem.W.subIn K (.ref C_BadHall) (.type "BaseException") = some true)
    (h_n_BadHall : PySem.W.findIn K (.ref C_BadHall) "error" = some none)
    (h_sb_Busy : PySem.W.subIn K (.ref C_Busy) (.type "BaseException") = some true)
    (h_sb_TooManyEdits : PySem.W.subIn K (.ref C_TooManyEdits) (.type "BaseException") = some true)
    (h_sb_TooManyGuests : PySem.W.subIn K (.ref C_TooManyGuests) (.type "BaseException") = some true)
    (h_sb_LastGuest : PySem.W.subIn K (.ref C_LastGuest) (.type "BaseException") = some true)
    (h_sb_BadSize : PySem.W.subIn K (.ref C_BadSize) (.type "BaseException") = some true)
    (h_n_BadSize : PySem.W.findIn K (.ref C_BadSize) "value" = some none)
    (h_sb_NothingToUndo : PySem.W.subIn K (.ref C_NothingToUndo) (.type "BaseException") = some true)
    (h_sb_BadNumber : PySem.W.subIn K (.ref C_BadNumber) (.type "BaseException") = some true)
    (h_n_BadNumber : PySem.W.findIn K (.ref C_BadNumber) "value" = some none)
    (h_sb_TooFewServed : PySem.W.subIn K (.ref C_TooFewServed) (.type "BaseException") = some true)
    (h_n_TooFewServed : PySem.W.findIn K (.ref C_TooFewServed) "number" = some none)
    (h_ga_BadText : PySem.W.findIn K (.ref C_BadText) "__getattribute__" = some (some (.builtin "BaseException.__getattribute__")))
    (h_gt_BadText : PySem.W.findIn K (.ref C_BadText) "__getattr__" = some none)
    (h_sb_BadText : PySem.W.subIn K (.ref C_BadText) (.type "BaseException") = some true)
    (h_n_BadText : PySem.W.findIn K (.ref C_BadText) "index" = some none)
    (h_sb_NoGuest : PySem.W.subIn K (.ref C_NoGuest) (.type "BaseException") = some true)
    (h_n_NoGuest : PySem.W.findIn K (.ref C_NoGuest) "value" = some none)
    (h_sb_NoPair : PySem.W.subIn K (.ref C_NoPair) (.type "BaseException") = some true)
    (h_n_NoPair : PySem.W.findIn K (.ref C_NoPair) "value" = some none)
    (h_sb_NoVersion : PySem.W.subIn K (.ref C_NoVersion) (.type "BaseException") = some true)
    (h_n_NoVersion : PySem.W.findIn K (.ref C_NoVersion) "value" = some none)
    {tv_cv_Party_MOST_EDITS : Tok} (h_cv_Party_MOST_EDITS : PySem.W.findIn K (.ref C_Party) "MOST_EDITS" = some (some (.int 60 tv_cv_Party_MOST_EDITS)))
    {tv_cv_PledgedParty_MOST_EDITS : Tok} (h_cv_PledgedParty_MOST_EDITS : PySem.W.findIn K (.ref C_PledgedParty) "MOST_EDITS" = some (some (.int 60 tv_cv_PledgedParty_MOST_EDITS)))
    (h_a_CHANGES : PySem.W.nsIn K mainGlobals "CHANGES" = some (some (.ref C_CHANGES)))
    (h_pg_Pledge : PySem.W.plainGet K C_Pledge Str.empty = true)
    (h_po_Pledge : PySem.W.plainOver K C_Pledge = true)
    (h_f_Pledge_pledge : PySem.W.findIn K (.ref C_Pledge) "pledge" = some none)
    (h_pg_Party : PySem.W.plainGet K C_Party Str.empty = true)
    (h_po_Party : PySem.W.plainOver K C_Party = true)
    (h_mk_Party : PySem.W.makesIn K C_Party = true)
    (h_f_Party__busy : PySem.W.findIn K (.ref C_Party) "_busy" = some none)
    (h_f_Party_hall : PySem.W.findIn K (.ref C_Party) "hall" = some none)
    (h_f_Party_most : PySem.W.findIn K (.ref C_Party) "most" = some none)
    (h_f_Party_fewest : PySem.W.findIn K (.ref C_Party) "fewest" = some none)
    (h_f_Party__halls : PySem.W.findIn K (.ref C_Party) "_halls" = some none)
    (h_f_Party__done : PySem.W.findIn K (.ref C_Party) "_done" = some none)
    (h_pg_PledgedParty : PySem.W.plainGet K C_PledgedParty Str.empty = true)
    (h_po_PledgedParty : PySem.W.plainOver K C_PledgedParty = true)
    (h_f_PledgedParty__busy : PySem.W.findIn K (.ref C_PledgedParty) "_busy" = some none)
    (h_f_PledgedParty_hall : PySem.W.findIn K (.ref C_PledgedParty) "hall" = some none)
    (h_f_PledgedParty_most : PySem.W.findIn K (.ref C_PledgedParty) "most" = some none)
    (h_f_PledgedParty_fewest : PySem.W.findIn K (.ref C_PledgedParty) "fewest" = some none)
    (h_f_PledgedParty__halls : PySem.W.findIn K (.ref C_PledgedParty) "_halls" = some none)
    (h_f_PledgedParty__done : PySem.W.findIn K (.ref C_PledgedParty) "_done" = some none)
    (h_f_PledgedParty_pledge : PySem.W.findIn K (.ref C_PledgedParty) "pledge" = some none)
    (hk_CHANGES_come : PySem.W.nsIn K C_CHANGES "come" = some (some (.ref f27)))
    (hk_CHANGES_leave : PySem.W.nsIn K C_CHANGES "leave" = some (some (.ref f28)))
    (hk_CHANGES_put : PySem.W.nsIn K C_CHANGES "put" = some (some (.ref f29)))
    (hk_CHANGES_take : PySem.W.nsIn K C_CHANGES "take" = some (some (.ref f30)))
    {es_CHANGES : Array DictEntry} {nd_CHANGES : Nat} (kd_CHANGES : K.lookup C_CHANGES = some ⟨.type "dict", none, .dict es_CHANGES nd_CHANGES, #[]⟩)
    (kl_CHANGES : PySem.W.KeysLit w.params es_CHANGES.toList) (ks_CHANGES : (C_CHANGES == sysModules) = false)
    {nm_BadHall q_BadHall : Str} {N_BadHall : Addr} {bs_BadHall bm_BadHall : List Value} {sn_BadHall : List Str} {sub_BadHall : List Value} {ab_BadHall : Bool} {col_BadHall : Option Bool} {dd_BadHall : Option Addr} {m0_BadHall m1_BadHall m2_BadHall m3_BadHall m5_BadHall : Option Value}
    (xL_BadHall : K.lookup C_BadHall = some (excClassObj nm_BadHall q_BadHall C_BadHall N_BadHall bs_BadHall bm_BadHall true sn_BadHall sub_BadHall ab_BadHall col_BadHall dd_BadHall m0_BadHall m1_BadHall m2_BadHall m3_BadHall m5_BadHall "ValueError.__new__")) (xr_BadHall : PySem.HandSPX.refsVE bm_BadHall = true)
    {nm_BadText q_BadText : Str} {N_BadText : Addr} {bs_BadText bm_BadText : List Value} {sn_BadText : List Str} {sub_BadText : List Value} {ab_BadText : Bool} {col_BadText : Option Bool} {dd_BadText : Option Addr} {m0_BadText m1_BadText m2_BadText m3_BadText m5_BadText : Option Value}
    (xL_BadText : K.lookup C_BadText = some (excClassObj nm_BadText q_BadText C_BadText N_BadText bs_BadText bm_BadText true sn_BadText sub_BadText ab_BadText col_BadText dd_BadText m0_BadText m1_BadText m2_BadText m3_BadText m5_BadText "ValueError.__new__")) (xr_BadText : PySem.HandSPX.refsVE bm_BadText = true)
    {nm_NoVersion q_NoVersion : Str} {N_NoVersion : Addr} {bs_NoVersion : List Value} {sn_NoVersion : List Str} {sub_NoVersion : List Value} {ab_NoVersion : Bool} {col_NoVersion : Option Bool} {dd_NoVersion : Option Addr} {m0_NoVersion m1_NoVersion m2_NoVersion m3_NoVersion m5_NoVersion : Option Value}
    (xL_NoVersion : K.lookup C_NoVersion = some (excClassObj nm_NoVersion q_NoVersion C_NoVersion N_NoVersion bs_NoVersion LkE.leT true sn_NoVersion sub_NoVersion ab_NoVersion col_NoVersion dd_NoVersion m0_NoVersion m1_NoVersion m2_NoVersion m3_NoVersion m5_NoVersion "LookupError.__new__"))
    {nm_BadFoot q_BadFoot : Str} {N_BadFoot : Addr} {bs_BadFoot bm_BadFoot : List Value} {sn_BadFoot : List Str} {sub_BadFoot : List Value} {ab_BadFoot : Bool} {col_BadFoot : Option Bool} {dd_BadFoot : Option Addr} {m0_BadFoot m1_BadFoot m2_BadFoot m3_BadFoot m5_BadFoot : Option Value}
    (xL_BadFoot : K.lookup C_BadFoot = some (excClassObj nm_BadFoot q_BadFoot C_BadFoot N_BadFoot bs_BadFoot bm_BadFoot true sn_BadFoot sub_BadFoot ab_BadFoot col_BadFoot dd_BadFoot m0_BadFoot m1_BadFoot m2_BadFoot m3_BadFoot m5_BadFoot "ValueError.__new__")) (xr_BadFoot : PySem.HandSPX.refsVE bm_BadFoot = true)
    {nm_NoGuest q_NoGuest : Str} {N_NoGuest : Addr} {bs_NoGuest : List Value} {sn_NoGuest : List Str} {sub_NoGuest : List Value} {ab_NoGuest : Bool} {col_NoGuest : Option Bool} {dd_NoGuest : Option Addr} {m0_NoGuest m1_NoGuest m2_NoGuest m3_NoGuest m5_NoGuest : Option Value}
    (xL_NoGuest : K.lookup C_NoGuest = some (excClassObj nm_NoGuest q_NoGuest C_NoGuest N_NoGuest bs_NoGuest LkE.leT true sn_NoGuest sub_NoGuest ab_NoGuest col_NoGuest dd_NoGuest m0_NoGuest m1_NoGuest m2_NoGuest m3_NoGuest m5_NoGuest "LookupError.__new__"))
    {nm_BadSize q_BadSize : Str} {N_BadSize : Addr} {bs_BadSize bm_BadSize : List Value} {sn_BadSize : List Str} {sub_BadSize : List Value} {ab_BadSize : Bool} {col_BadSize : Option Bool} {dd_BadSize : Option Addr} {m0_BadSize m1_BadSize m2_BadSize m3_BadSize m5_BadSize : Option Value}
    (xL_BadSize : K.lookup C_BadSize = some (excClassObj nm_BadSize q_BadSize C_BadSize N_BadSize bs_BadSize bm_BadSize true sn_BadSize sub_BadSize ab_BadSize col_BadSize dd_BadSize m0_BadSize m1_BadSize m2_BadSize m3_BadSize m5_BadSize "ValueError.__new__")) (xr_BadSize : PySem.HandSPX.refsVE bm_BadSize = true)
    {nm_NoPair q_NoPair : Str} {N_NoPair : Addr} {bs_NoPair : List Value} {sn_NoPair : List Str} {sub_NoPair : List Value} {ab_NoPair : Bool} {col_NoPair : Option Bool} {dd_NoPair : Option Addr} {m0_NoPair m1_NoPair m2_NoPair m3_NoPair m5_NoPair : Option Value}
    (xL_NoPair : K.lookup C_NoPair = some (excClassObj nm_NoPair q_NoPair C_NoPair N_NoPair bs_NoPair LkE.leT true sn_NoPair sub_NoPair ab_NoPair col_NoPair dd_NoPair m0_NoPair m1_NoPair m2_NoPair m3_NoPair m5_NoPair "LookupError.__new__"))
    {nm_BadNumber q_BadNumber : Str} {N_BadNumber : Addr} {bs_BadNumber bm_BadNumber : List Value} {sn_BadNumber : List Str} {sub_BadNumber : List Value} {ab_BadNumber : Bool} {col_BadNumber : Option Bool} {dd_BadNumber : Option Addr} {m0_BadNumber m1_BadNumber m2_BadNumber m3_BadNumber m5_BadNumber : Option Value}
    (xL_BadNumber : K.lookup C_BadNumber = some (excClassObj nm_BadNumber q_BadNumber C_BadNumber N_BadNumber bs_BadNumber bm_BadNumber true sn_BadNumber sub_BadNumber ab_BadNumber col_BadNumber dd_BadNumber m0_BadNumber m1_BadNumber m2_BadNumber m3_BadNumber m5_BadNumber "ValueError.__new__")) (xr_BadNumber : PySem.HandSPX.refsVE bm_BadNumber = true)
    {nm_TooFewServed q_TooFewServed : Str} {N_TooFewServed : Addr} {bs_TooFewServed bm_TooFewServed : List Value} {sn_TooFewServed : List Str} {sub_TooFewServed : List Value} {ab_TooFewServed : Bool} {col_TooFewServed : Option Bool} {dd_TooFewServed : Option Addr} {m0_TooFewServed m1_TooFewServed m2_TooFewServed m3_TooFewServed m5_TooFewServed : Option Value}
    (xL_TooFewServed : K.lookup C_TooFewServed = some (excClassObj nm_TooFewServed q_TooFewServed C_TooFewServed N_TooFewServed bs_TooFewServed bm_TooFewServed true sn_TooFewServed sub_TooFewServed ab_TooFewServed col_TooFewServed dd_TooFewServed m0_TooFewServed m1_TooFewServed m2_TooFewServed m3_TooFewServed m5_TooFewServed "ValueError.__new__")) (xr_TooFewServed : PySem.HandSPX.refsVE bm_TooFewServed = true)
    (e0_PartyError : PySem.W.excIn K C_PartyError [.type "ValueError", .type "Exception", .type "BaseException", .type "object"] "ValueError.__new__" = true)
    (e0_TooManyPairs : PySem.W.excIn K C_TooManyPairs [.type "ValueError", .type "Exception", .type "BaseException", .type "object"] "ValueError.__new__" = true)
    (e0_Busy : PySem.W.excIn K C_Busy [.type "ValueError", .type "Exception", .type "BaseException", .type "object"] "ValueError.__new__" = true)
    (e0_TooManyEdits : PySem.W.excIn K C_TooManyEdits [.type "ValueError", .type "Exception", .type "BaseException", .type "object"] "ValueError.__new__" = true)
    (e0_TooManyGuests : PySem.W.excIn K C_TooManyGuests [.type "ValueError", .type "Exception", .type "BaseException", .type "object"] "ValueError.__new__" = true)
    (e0_LastGuest : PySem.W.excIn K C_LastGuest [.type "ValueError", .type "Exception", .type "BaseException", .type "object"] "ValueError.__new__" = true)
    (e0_NothingToUndo : PySem.W.excIn K C_NothingToUndo [.type "ValueError", .type "Exception", .type "BaseException", .type "object"] "ValueError.__new__" = true)
    : ∃ fd : FuncData, (∀ (s : Shared) (v : Value), BindsTo s fd ⟨[v], []⟩ [("script", v)]) ∧ ∀ base : Heap, K.In base → base.Ns mainGlobals mg → FnG l.prog w K mg base 11 fa fd ["script"] (spLaw K) :=
  all_mk (C := ⟨C_PartyError, C_TooLarge, C_BadShelf, C_TooManyPairs, C_BadFoot, C_BadHall, C_Busy, C_TooManyEdits, C_TooManyGuests, C_LastGuest, C_BadSize, C_NothingToUndo, C_BadNumber, C_TooFewServed, C_BadText, C_NoGuest, C_NoPair, C_NoVersion, C_Pledge, C_Party, C_PledgedParty, C_CHANGES⟩) X G hfa a0 l0 c0 k0 a1 l1 c1 k1 a2 l2 c2 k2 a3 l3 c3 k3 a4 l4 c4 k4 a5 l5 c5 k5 a6 l6 c6 k6 a7 l7 c7 k7 a8 l8 c8 k8 a9 l9 c9 k9 a10 l10 c10 k10 a11 l11 c11 k11 a12 l12 c12 k12 a13 l13 c13 k13 a14 l14 c14 k14 a15 l15 c15 k15 a16 l16 c16 k16 a17 l17 c17 k17 a18 l18 c18 k18 a19 l19 c19 k19 a20 l20 c20 k20 a21 l21 c21 k21 a22 l22 c22 k22 a23 l23 c23 k23 a24 l24 c24 k24 a25 l25 c25 k25 a26 l26 c26 k26 a27 l27 c27 k27 a28 l28 c28 k28 a29 l29 c29 k29 a30 l30 c30 k30 a31 l31 c31 k31 a32 l32 c32 k32 a33 l33 c33 k33 a34 l34 c34 k34 a35 fn35 ai35_PledgedParty l35 c35 k35 a36 fn36 l36 c36 k36 a37 rc37 fi37 sg37 rd37 l37 c37 k37 a38 fn38 ai38_PledgedParty l38 c38 k38 a39 fn39 ai39_PledgedParty l39 c39 k39 kd39 a40 fn40 ai40_PledgedParty l40 c40 k40 a41 fn41 ai41_PledgedParty l41 c41 k41 a42 fn42 ai42_PledgedParty l42 c42 k42 a43 fn43 l43 c43 k43 a44 fn44 l44 c44 k44 a45 fn45 ai45_PledgedParty l45 c45 k45 a46 fn46 ai46_PledgedParty l46 c46 k46 a47 fn47 l47 c47 k47 a48 fn48 ai48_PledgedParty l48 c48 k48 a49 fn49 l49 c49 k49 a50 fn50 ai50_PledgedParty l50 c50 k50 a51 fn51 ai51_PledgedParty l51 c51 k51 a52 fn52 ai52_PledgedParty l52 c52 k52 a53 fn53 ai53_PledgedParty l53 c53 k53 a54 fn54 ai54_PledgedParty l54 c54 k54 a55 fn55 ai55_PledgedParty l55 c55 k55 a56 fn56 ai56_PledgedParty l56 c56 k56 a57 tI57 l57 c57 k57 a58 tI58 l58 c58 k58 a59 tI59 l59 c59 k59 a60 tI60 l60 c60 k60 a61 tI61 l61 c61 k61 a62 tI62 l62 c62 k62 a63 tI63 l63 c63 k63 a64 tI64 l64 c64 k64 a65 tI65 l65 c65 k65 z_LookupError z_ValueError z_abs z_all z_bool z_enumerate z_int z_isinstance z_len z_list z_max z_min z_range z_repr z_set z_sorted z_str z_sum z_tuple z_zip y_LIMIT y_MAX_SIZE y_MAX_GUESTS y_MAX_PAIRS y_SLASH y_NO_PAIRS y_WORDS h_cg h_ct h_a_PartyError h_ty_PartyError h_hd_PartyError h_a_TooLarge h_cl_TooLarge h_ty_TooLarge h_s_TooLarge_TooLarge h_a_BadShelf h_cl_BadShelf h_ty_BadShelf h_s_BadShelf_BadShelf h_a_TooManyPairs h_ty_TooManyPairs h_k_TooManyPairs h_a_BadFoot h_ty_BadFoot h_k_BadFoot h_sa_BadFoot h_a_BadHall h_cl_BadHall h_ty_BadHall h_k_BadHall h_sa_BadHall h_s_BadHall_BadHall h_a_Busy h_ty_Busy h_k_Busy h_a_TooManyEdits h_ty_TooManyEdits h_k_TooManyEdits h_a_TooManyGuests h_ty_TooManyGuests h_k_TooManyGuests h_a_LastGuest h_ty_LastGuest h_k_LastGuest h_a_BadSize h_ty_BadSize h_k_BadSize h_sa_BadSize h_a_NothingToUndo h_ty_NothingToUndo h_k_NothingToUndo h_hd_NothingToUndo h_s_NothingToUndo_NothingToUndo h_a_BadNumber h_ty_BadNumber h_k_BadNumber h_sa_BadNumber h_a_TooFewServed h_ty_TooFewServed h_k_TooFewServed h_sa_TooFewServed h_a_BadText h_cl_BadText h_ty_BadText h_k_BadText h_hd_BadText h_ca_BadText h_mo_BadText h_sa_BadText h_s_BadText_PartyError h_s_BadText_TooLarge h_s_BadText_BadShelf h_s_BadText_BadHall h_s_BadText_BadText h_s_BadText_ValueError h_a_NoGuest h_ty_NoGuest h_k_NoGuest h_sa_NoGuest h_a_NoPair h_ty_NoPair h_k_NoPair h_sa_NoPair h_a_NoVersion h_ty_NoVersion h_k_NoVersion h_sa_NoVersion h_a_Pledge h_hd_Pledge h_sa_Pledge h_a_Party h_cl_Party h_ty_Party h_k_Party h_hd_Party h_ca_Party h_mo_Party h_sa_Party h_s_Party_Party h_s_Party_PledgedParty h_s_Party_list h_a_PledgedParty h_cl_PledgedParty h_ty_PledgedParty h_hd_PledgedParty h_ca_PledgedParty h_mo_PledgedParty h_sa_PledgedParty h_s_PledgedParty_Party h_s_PledgedParty_PledgedParty h_sb_PartyError h_sb_TooManyPairs h_sb_BadFoot h_n_BadFoot h_sb_BadHall h_n_BadHall h_sb_Busy h_sb_TooManyEdits h_sb_TooManyGuests h_sb_LastGuest h_sb_BadSize h_n_BadSize h_sb_NothingToUndo h_sb_BadNumber h_n_BadNumber h_sb_TooFewServed h_n_TooFewServed h_ga_BadText h_gt_BadText h_sb_BadText h_n_BadText h_sb_NoGuest h_n_NoGuest h_sb_NoPair h_n_NoPair h_sb_NoVersion h_n_NoVersion h_cv_Party_MOST_EDITS h_cv_PledgedParty_MOST_EDITS h_a_CHANGES h_pg_Pledge h_po_Pledge h_f_Pledge_pledge h_pg_Party h_po_Party h_mk_Party h_f_Party__busy h_f_Party_hall h_f_Party_most h_f_Party_fewest h_f_Party__halls h_f_Party__done h_pg_PledgedParty h_po_PledgedParty h_f_PledgedParty__busy h_f_PledgedParty_hall h_f_PledgedParty_most h_f_PledgedParty_fewest h_f_PledgedParty__halls h_f_PledgedParty__done h_f_PledgedParty_pledge hk_CHANGES_come hk_CHANGES_leave hk_CHANGES_put hk_CHANGES_take kd_CHANGES kl_CHANGES ks_CHANGES xL_BadHall xr_BadHall xL_BadText xr_BadText xL_NoVersion xL_BadFoot xr_BadFoot xL_NoGuest xL_BadSize xr_BadSize xL_NoPair xL_BadNumber xr_BadNumber xL_TooFewServed xr_TooFewServed e0_PartyError e0_TooManyPairs e0_Busy e0_TooManyEdits e0_TooManyGuests e0_LastGuest e0_NothingToUndo
end DL
open PySem PySem.W PyProof.Rows in
set_option maxRecDepth 100000 in
set_option maxHeartbeats 0 in
theorem PySem.Challenge.cw_shoeparty_k45_whole_parties_read_holds : PySem.Challenge.rw_shoeparty_k45_whole_parties_read.Holds :=
  DL.pre.2.2.2 DL.run1 DL.run2 (by
  delta DL.pre
  dsimp only
  k_fill
  refine DL.walk_g (l := PySem.Challenge.rw_shoeparty_k45_whole_parties_read) (k := 11) (x := "script") rfl (by kernel_rfl) ⟨rfl, by decide, by decide⟩ (fun w h Y => PySem.W.kIn_of Y) ?F
  case F =>
    intro w mg fa h KX G hmg0
    have hmg : mg ("law" : PySem.Str) = some (.ref fa) := by
      have e : (DL.headD DL.headR.prog 72).name = ("law" : PySem.Str) := by kernel_rfl
      rw [← e]
      exact hmg0
    refine' DL.all_mk2 KX G hmg ?a0 ?l0 ?c0 ?k0 ?a1 ?l1 ?c1 ?k1 ?a2 ?l2 ?c2 ?k2 ?a3 ?l3 ?c3 ?k3 ?a4 ?l4 ?c4 ?k4 ?a5 ?l5 ?c5 ?k5 ?a6 ?l6 ?c6 ?k6 ?a7 ?l7 ?c7 ?k7 ?a8 ?l8 ?c8 ?k8 ?a9 ?l9 ?c9 ?k9 ?a10 ?l10 ?c10 ?k10 ?a11 ?l11 ?c11 ?k11 ?a12 ?l12 ?c12 ?k12 ?a13 ?l13 ?c13 ?k13 ?a14 ?l14 ?c14 ?k14 ?a15 ?l15 ?c15 ?k15 ?a16 ?l16 ?c16 ?k16 ?a17 ?l17 ?c17 ?k17 ?a18 ?l18 ?c18 ?k18 ?a19 ?l19 ?c19 ?k19 ?a20 ?l20 ?c20 ?k20 ?a21 ?l21 ?c21 ?k21 ?a22 ?l22 ?c22 ?k22 ?a23 ?l23 ?c23 ?k23 ?a24 ?l24 ?c24 ?k24 ?a25 ?l25 ?c25 ?k25 ?a26 ?l26 ?c26 ?k26 ?a27 ?l27 ?c27 ?k27 ?a28 ?l28 ?c28 ?k28 ?a29 ?l29 ?c29 ?k29 ?a30 ?l30 ?c30 ?k30 ?a31 ?l31 ?c31 ?k31 ?a32 ?l32 ?c32 ?k32 ?a33 ?l33 ?c33 ?k33 ?a34 ?l34 ?c34 ?k34 ?a35 ?fn35 ?ai35_PledgedParty ?l35 ?c35 ?k35 ?a36 ?fn36 ?l36 ?c36 ?k36 ?a37 ?rc37 ?fi37 ?sg37 ?rd37 ?l37 ?c37 ?k37 ?a38 ?fn38 ?ai38_PledgedParty ?l38 ?c38 ?k38 ?a39 ?fn39 ?ai39_PledgedParty ?l39 ?c39 ?k39 ?kd39 ?a40 ?fn40 ?ai40_PledgedParty ?l40 ?c40 ?k40 ?a41 ?fn41 ?ai41_PledgedParty ?l41 ?c41 ?k41 ?a42 ?fn42 ?ai42_PledgedParty ?l42 ?c42 ?k42 ?a43 ?fn43 ?l43 ?c43 ?k43 ?a44 ?fn44 ?l44 ?c44 ?k44 ?a45 ?fn45 ?ai45_PledgedParty ?l45 ?c45 ?k45 ?a46 ?fn46 ?ai46_PledgedParty ?l46 ?c46 ?k46 ?a47 ?fn47 ?l47 ?c47 ?k47 ?a48 ?fn48 ?ai48_PledgedParty ?l48 ?c48 ?k48 ?a49 ?fn49 ?l49 ?c49 ?k49 ?a50 ?fn50 ?ai50_PledgedParty ?l50 ?c50 ?k50 ?a51 ?fn51 ?ai51_PledgedParty ?l51 ?c51 ?k51 ?a52 ?fn52 ?ai52_PledgedParty ?l52 ?c52 ?k52 ?a53 ?fn53 ?ai53_PledgedParty ?l53 ?c53 ?k53 ?a54 ?fn54 ?ai54_PledgedParty ?l54 ?c54 ?k54 ?a55 ?fn55 ?ai55_PledgedParty ?l55 ?c55 ?k55 ?a56 ?fn56 ?ai56_PledgedParty ?l56 ?c56 ?k56 ?a57 ?tI57 ?l57 ?c57 ?k57 ?a58 ?tI58 ?l58 ?c58 ?k58 ?a59 ?tI59 ?l59 ?c59 ?k59 ?a60 ?tI60 ?l60 ?c60 ?k60 ?a61 ?tI61 ?l61 ?c61 ?k61 ?a62 ?tI62 ?l62 ?c62 ?k62 ?a63 ?tI63 ?l63 ?c63 ?k63 ?a64 ?tI64 ?l64 ?c64 ?k64 ?a65 ?tI65 ?l65 ?c65 ?k65 ?z_LookupError ?z_ValueError ?z_abs ?z_all ?z_bool ?z_enumerate ?z_int ?z_isinstance ?z_len ?z_list ?z_max ?z_min ?z_range ?z_repr ?z_set ?z_sorted ?z_str ?z_sum ?z_tuple ?z_zip ?y_LIMIT ?y_MAX_SIZE ?y_MAX_GUESTS ?y_MAX_PAIRS ?y_SLASH ?y_NO_PAIRS ?y_WORDS ?h_cg ?h_ct ?h_a_PartyError ?h_ty_PartyError ?h_hd_PartyError ?h_a_TooLarge ?h_cl_TooLarge ?h_ty_TooLarge ?h_s_TooLarge_TooLarge ?h_a_BadShelf ?h_cl_BadShelf ?h_ty_BadShelf ?h_s_BadShelf_BadShelf ?h_a_TooManyPairs ?h_ty_TooManyPairs ?h_k_TooManyPairs ?h_a_BadFoot ?h_ty_BadFoot ?h_k_BadFoot ?h_sa_BadFoot ?h_a_BadHall ?h_cl_BadHall ?h_ty_BadHall ?h_k_BadHall ?h_sa_BadHall ?h_s_BadHall_BadHall ?h_a_Busy ?h_ty_Busy ?h_k_Busy ?h_a_TooManyEdits ?h_ty_TooManyEdits ?h_k_TooManyEdits ?h_a_TooManyGuests ?h_ty_TooManyGuests ?h_k_TooManyGuests ?h_a_LastGuest ?h_ty_LastGuest ?h_k_LastGuest ?h_a_BadSize ?h_ty_BadSize ?h_k_BadSize ?h_sa_BadSize ?h_a_NothingToUndo ?h_ty_NothingToUndo ?h_k_NothingToUndo ?h_hd_NothingToUndo ?h_s_NothingToUndo_NothingToUndo ?h_a_BadNumber ?h_ty_BadNumber ?h_k_BadNumber ?h_sa_BadNumber ?h_a_TooFewServed ?h_ty_TooFewServed ?h_k_TooFewServed ?h_sa_TooFewServed ?h_a_BadText ?h_cl_BadText ?h_ty_BadText ?h_k_BadText ?h_hd_BadText ?h_ca_BadText ?h_mo_BadText ?h_sa_BadText ?h_s_BadText_PartyError ?h_s_BadText_TooLarge ?h_s_BadText_BadShelf ?h_s_BadText_BadHall ?h_s_BadText_BadText ?h_s_BadText_ValueError ?h_a_NoGuest ?h_ty_NoGuest ?h_k_NoGuest ?h_sa_NoGuest ?h_a_NoPair ?h_ty_NoPair ?h_k_NoPair ?h_sa_NoPair ?h_a_NoVersion ?h_ty_NoVersion ?h_k_NoVersion ?h_sa_NoVersion ?h_a_Pledge ?h_hd_Pledge ?h_sa_Pledge ?h_a_Party ?h_cl_Party ?h_ty_Party ?h_k_Party ?h_hd_Party ?h_ca_Party ?h_mo_Party ?h_sa_Party ?h_s_Party_Party ?h_s_Party_PledgedParty ?h_s_Party_list ?h_a_PledgedParty ?h_cl_PledgedParty ?h_ty_PledgedParty ?h_hd_PledgedParty ?h_ca_PledgedParty ?h_mo_PledgedParty ?h_sa_PledgedParty ?h_s_PledgedParty_Party ?h_s_PledgedParty_PledgedParty ?h_sb_PartyError ?h_sb_TooManyPairs ?h_sb_BadFoot ?h_n_BadFoot ?h_sb_BadHall ?h_n_BadHall ?h_sb_Busy ?h_sb_TooManyEdits ?h_sb_TooManyGuests ?h_sb_LastGuest ?h_sb_BadSize ?h_n_BadSize ?h_sb_NothingToUndo ?h_sb_BadNumber ?h_n_BadNumber ?h_sb_TooFewServed ?h_n_TooFewServed ?h_ga_BadText ?h_gt_BadText ?h_sb_BadText ?h_n_BadText ?h_sb_NoGuest ?h_n_NoGuest ?h_sb_NoPair ?h_n_NoPair ?h_sb_NoVersion ?h_n_NoVersion ?h_cv_Party_MOST_EDITS ?h_cv_PledgedParty_MOST_EDITS ?h_a_CHANGES ?h_pg_Pledge ?h_po_Pledge ?h_f_Pledge_pledge ?h_pg_Party ?h_po_Party ?h_mk_Party ?h_f_Party__busy ?h_f_Party_hall ?h_f_Party_most ?h_f_Party_fewest ?h_f_Party__halls ?h_f_Party__done ?h_pg_PledgedParty ?h_po_PledgedParty ?h_f_PledgedParty__busy ?h_f_PledgedParty_hall ?h_f_PledgedParty_most ?h_f_PledgedParty_fewest ?h_f_PledgedParty__halls ?h_f_PledgedParty__done ?h_f_PledgedParty_pledge ?hk_CHANGES_come ?hk_CHANGES_leave ?hk_CHANGES_put ?hk_CHANGES_take ?kd_CHANGES ?kl_CHANGES ?ks_CHANGES ?xL_BadHall ?xr_BadHall ?xL_BadText ?xr_BadText ?xL_NoVersion ?xL_BadFoot ?xr_BadFoot ?xL_NoGuest ?xL_BadSize ?xr_BadSize ?xL_NoPair ?xL_BadNumber ?xr_BadNumber ?xL_TooFewServed ?xr_TooFewServed ?e0_PartyError ?e0_TooManyPairs ?e0_Busy ?e0_TooManyEdits ?e0_TooManyGuests ?e0_LastGuest ?e0_NothingToUndo
    (case h_a_PartyError => k_is)
    (case h_a_TooLarge => k_is)
    (case h_a_BadShelf => k_is)
    (case h_a_TooManyPairs => k_is)
    (case h_a_BadFoot => k_is)
    (case h_a_BadHall => k_is)
    (case h_a_Busy => k_is)
    (case h_a_TooManyEdits => k_is)
    (case h_a_TooManyGuests => k_is)
    (case h_a_LastGuest => k_is)
    (case h_a_BadSize => k_is)
    (case h_a_NothingToUndo => k_is)
    (case h_a_BadNumber => k_is)
    (case h_a_TooFewServed => k_is)
    (case h_a_BadText => k_is)
    (case h_a_NoGuest => k_is)
    (case h_a_NoPair => k_is)
    (case h_a_NoVersion => k_is)
    (case h_a_Pledge => k_is)
    (case h_a_Party => k_is)
    (case h_a_PledgedParty => k_is)
    (case h_a_CHANGES => k_is)
    (case a0 => k_is)
    (case l0 => k_is)
    (case c0 => k_is)
    (case k0 => k_is)
    (case a1 => k_is)
    (case l1 => k_is)
    (case c1 => k_is)
    (case k1 => k_is)
    (case a2 => k_is)
    (case l2 => k_is)
    (case c2 => k_is)
    (case k2 => k_is)
    (case a3 => k_is)
    (case l3 => k_is)
    (case c3 => k_is)
    (case k3 => k_is)
    (case a4 => k_is)
    (case l4 => k_is)
    (case c4 => k_is)
    (case k4 => k_is)
    (case a5 => k_is)
    (case l5 => k_is)
    (case c5 => k_is)
    (case k5 => k_is)
    (case a6 => k_is)
    (case l6 => k_is)
    (case c6 => k_is)
    (case k6 => k_is)
    (case a7 => k_is)
    (case l7 => k_is)
    (case c7 => k_is)
    (case k7 => k_is)
    (case a8 => k_is)
    (case l8 => k_is)
    (case c8 => k_is)
    (case k8 => k_is)
    (case a9 => k_is)
    (case l9 => k_is)
    (case c9 => k_is)
    (case k9 => k_is)
    (case a10 => k_is)
    (case l10 => k_is)
    (case c10 => k_is)
    (case k10 => k_is)
    (case a11 => k_is)
    (case l11 => k_is)
    (case c11 => k_is)
    (case k11 => k_is)
    (case a12 => k_is)
    (case l12 => k_is)
    (case c12 => k_is)
    (case k12 => k_is)
    (case a13 => k_is)
    (case l13 => k_is)
    (case c13 => k_is)
    (case k13 => k_is)
    (case a14 => k_is)
    (case l14 => k_is)
    (case c14 => k_is)
    (case k14 => k_is)
    (case a15 => k_is)
    (case l15 => k_is)
    (case c15 => k_is)
    (case k15 => k_is)
    (case a16 => k_is)
    (case l16 => k_is)
    (case c16 => k_is)
    (case k16 => k_is)
    (case a17 => k_is)
    (case l17 => k_is)
    (case c17 => k_is)
    (case k17 => k_is)
    (case a18 => k_is)
    (case l18 => k_is)
    (case c18 => k_is)
    (case k18 => k_is)
    (case a19 => k_is)
    (case l19 => k_is)
    (case c19 => k_is)
    (case k19 => k_is)
    (case a20 => k_is)
    (case l20 => k_is)
    (case c20 => k_is)
    (case k20 => k_is)
    (case a21 => k_is)
    (case l21 => k_is)
    (case c21 => k_is)
    (case k21 => k_is)
    (case a22 => k_is)
    (case l22 => k_is)
    (case c22 => k_is)
    (case k22 => k_is)
    (case a23 => k_is)
    (case l23 => k_is)
    (case c23 => k_is)
    (case k23 => k_is)
    (case a24 => k_is)
    (case l24 => k_is)
    (case c24 => k_is)
    (case k24 => k_is)
    (case a25 => k_is)
    (case l25 => k_is)
    (case c25 => k_is)
    (case k25 => k_is)
    (case a26 => k_is)
    (case l26 => k_is)
    (case c26 => k_is)
    (case k26 => k_is)
    (case a27 => k_is)
    (case l27 => k_is)
    (case c27 => k_is)
    (case k27 => k_is)
    (case a28 => k_is)
    (case l28 => k_is)
    (case c28 => k_is)
    (case k28 => k_is)
    (case a29 => k_is)
    (case l29 => k_is)
    (case c29 => k_is)
    (case k29 => k_is)
    (case a30 => k_is)
    (case l30 => k_is)
    (case c30 => k_is)
    (case k30 => k_is)
    (case a31 => k_is)
    (case l31 => k_is)
    (case c31 => k_is)
    (case k31 => k_is)
    (case a32 => k_is)
    (case l32 => k_is)
    (case c32 => k_is)
    (case k32 => k_is)
    (case a33 => k_is)
    (case l33 => k_is)
    (case c33 => k_is)
    (case k33 => k_is)
    (case a34 => k_is)
    (case l34 => k_is)
    (case c34 => k_is)
    (case k34 => k_is)
    (case a35 => k_is)
    (case fn35 => k_is)
    (case ai35_PledgedParty => k_is)
    (case l35 => k_is)
    (case c35 => k_is)
    (case k35 => k_is)
    (case a36 => k_is)
    (case fn36 => k_is)
    (case l36 => k_is)
    (case c36 => k_is)
    (case k36 => k_is)
    (case a37 => k_is)
    (case rc37 => k_is)
    (case fi37 => k_is)
    (case sg37 => k_is)
    (case rd37 => k_is)
    (case l37 => k_is)
    (case c37 => k_is)
    (case k37 => k_is)
    (case a38 => k_is)
    (case fn38 => k_is)
    (case ai38_PledgedParty => k_is)
    (case l38 => k_is)
    (case c38 => k_is)
    (case k38 => k_is)
    (case a39 => k_is)
    (case fn39 => k_is)
    (case ai39_PledgedParty => k_is)
    (case l39 => k_is)
    (case c39 => k_is)
    (case k39 => k_is)
    (case kd39 => k_is)
    (case a40 => k_is)
    (case fn40 => k_is)
    (case ai40_PledgedParty => k_is)
    (case l40 => k_is)
    (case c40 => k_is)
    (case k40 => k_is)
    (case a41 => k_is)
    (case fn41 => k_is)
    (case ai41_PledgedParty => k_is)
    (case l41 => k_is)
    (case c41 => k_is)
    (case k41 => k_is)
    (case a42 => k_is)
    (case fn42 => k_is)
    (case ai42_PledgedParty => k_is)
    (case l42 => k_is)
    (case c42 => k_is)
    (case k42 => k_is)
    (case a43 => k_is)
    (case fn43 => k_is)
    (case l43 => k_is)
    (case c43 => k_is)
    (case k43 => k_is)
    (case a44 => k_is)
    (case fn44 => k_is)
    (case l44 => k_is)
    (case c44 => k_is)
    (case k44 => k_is)
    (case a45 => k_is)
    (case fn45 => k_is)
    (case ai45_PledgedParty => k_is)
    (case l45 => k_is)
    (case c45 => k_is)
    (case k45 => k_is)
    (case a46 => k_is)
    (case fn46 => k_is)
    (case ai46_PledgedParty => k_is)
    (case l46 => k_is)
    (case c46 => k_is)
    (case k46 => k_is)
    (case a47 => k_is)
    (case fn47 => k_is)
    (case l47 => k_is)
    (case c47 => k_is)
    (case k47 => k_is)
    (case a48 => k_is)
    (case fn48 => k_is)
    (case ai48_PledgedParty => k_is)
    (case l48 => k_is)
    (case c48 => k_is)
    (case k48 => k_is)
    (case a49 => k_is)
    (case fn49 => k_is)
    (case l49 => k_is)
    (case c49 => k_is)
    (case k49 => k_is)
    (case a50 => k_is)
    (case fn50 => k_is)
    (case ai50_PledgedParty => k_is)
    (case l50 => k_is)
    (case c50 => k_is)
    (case k50 => k_is)
    (case a51 => k_is)
    (case fn51 => k_is)
    (case ai51_PledgedParty => k_is)
    (case l51 => k_is)
    (case c51 => k_is)
    (case k51 => k_is)
    (case a52 => k_is)
    (case fn52 => k_is)
    (case ai52_PledgedParty => k_is)
    (case l52 => k_is)
    (case c52 => k_is)
    (case k52 => k_is)
    (case a53 => k_is)
    (case fn53 => k_is)
    (case ai53_PledgedParty => k_is)
    (case l53 => k_is)
    (case c53 => k_is)
    (case k53 => k_is)
    (case a54 => k_is)
    (case fn54 => k_is)
    (case ai54_PledgedParty => k_is)
    (case l54 => k_is)
    (case c54 => k_is)
    (case k54 => k_is)
    (case a55 => k_is)
    (case fn55 => k_is)
    (case ai55_PledgedParty => k_is)
    (case l55 => k_is)
    (case c55 => k_is)
    (case k55 => k_is)
    (case a56 => k_is)
    (case fn56 => k_is)
    (case ai56_PledgedParty => k_is)
    (case l56 => k_is)
    (case c56 => k_is)
    (case k56 => k_is)
    (case a57 => k_is)
    (case tI57 => k_is)
    (case l57 => k_is)
    (case c57 => k_is)
    (case k57 => k_is)
    (case a58 => k_is)
    (case tI58 => k_is)
    (case l58 => k_is)
    (case c58 => k_is)
    (case k58 => k_is)
    (case a59 => k_is)
    (case tI59 => k_is)
    (case l59 => k_is)
    (case c59 => k_is)
    (case k59 => k_is)
    (case a60 => k_is)
    (case tI60 => k_is)
    (case l60 => k_is)
    (case c60 => k_is)
    (case k60 => k_is)
    (case a61 => k_is)
    (case tI61 => k_is)
    (case l61 => k_is)
    (case c61 => k_is)
    (case k61 => k_is)
    (case a62 => k_is)
    (case tI62 => k_is)
    (case l62 => k_is)
    (case c62 => k_is)
    (case k62 => k_is)
    (case a63 => k_is)
    (case tI63 => k_is)
    (case l63 => k_is)
    (case c63 => k_is)
    (case k63 => k_is)
    (case a64 => k_is)
    (case tI64 => k_is)
    (case l64 => k_is)
    (case c64 => k_is)
    (case k64 => k_is)
    (case a65 => k_is)
    (case tI65 => k_is)
    (case l65 => k_is)
    (case c65 => k_is)
    (case k65 => k_is)
    (case z_LookupError => k_is)
    (case z_ValueError => k_is)
    (case z_abs => k_is)
    (case z_all => k_is)
    (case z_bool => k_is)
    (case z_enumerate => k_is)
    (case z_int => k_is)
    (case z_isinstance => k_is)
    (case z_len => k_is)
    (case z_list => k_is)
    (case z_max => k_is)
    (case z_min => k_is)
    (case z_range => k_is)
    (case z_repr => k_is)
    (case z_set => k_is)
    (case z_sorted => k_is)
    (case z_str => k_is)
    (case z_sum => k_is)
    (case z_tuple => k_is)
    (case z_zip => k_is)
    (case y_LIMIT => k_is)
    (case y_MAX_SIZE => k_is)
    (case y_MAX_GUESTS => k_is)
    (case y_MAX_PAIRS => k_is)
    (case y_SLASH => k_is)
    (case y_NO_PAIRS => k_is)
    (case y_WORDS => k_is)
    (case h_cg => k_is)
    (case h_ct => k_is)
    (case h_ty_PartyError => k_is)
    (case h_hd_PartyError => k_is)
    (case h_cl_TooLarge => k_is)
    (case h_ty_TooLarge => k_is)
    (case h_s_TooLarge_TooLarge => k_is)
    (case h_cl_BadShelf => k_is)
    (case h_ty_BadShelf => k_is)
    (case h_s_BadShelf_BadShelf => k_is)
    (case h_ty_TooManyPairs => k_is)
    (case h_k_TooManyPairs => k_is)
    (case h_ty_BadFoot => k_is)
    (case h_k_BadFoot => k_is)
    (case h_sa_BadFoot => k_is)
    (case h_cl_BadHall => k_is)
    (case h_ty_BadHall => k_is)
    (case h_k_BadHall => k_is)
    (case h_sa_BadHall => k_is)
    (case h_s_BadHall_BadHall => k_is)
    (case h_ty_Busy => k_is)
    (case h_k_Busy => k_is)
    (case h_ty_TooManyEdits => k_is)
    (case h_k_TooManyEdits => k_is)
    (case h_ty_TooManyGuests => k_is)
    (case h_k_TooManyGuests => k_is)
    (case h_ty_LastGuest => k_is)
    (case h_k_LastGuest => k_is)
    (case h_ty_BadSize => k_is)
    (case h_k_BadSize => k_is)
    (case h_sa_BadSize => k_is)
    (case h_ty_NothingToUndo => k_is)
    (case h_k_NothingToUndo => k_is)
    (case h_hd_NothingToUndo => k_is)
    (case h_s_NothingToUndo_NothingToUndo => k_is)
    (case h_ty_BadNumber => k_is)
    (case h_k_BadNumber => k_is)
    (case h_sa_BadNumber => k_is)
    (case h_ty_TooFewServed => k_is)
    (case h_k_TooFewServed => k_is)
    (case h_sa_TooFewServed => k_is)
    (case h_cl_BadText => k_is)
    (case h_ty_BadText => k_is)
    (case h_k_BadText => k_is)
    (case h_hd_BadText => k_is)
    (case h_ca_BadText => k_is)
    (case h_mo_BadText => k_is)
    (case h_sa_BadText => k_is)
    (case h_s_BadText_PartyError => k_is)
    (case h_s_BadText_TooLarge => k_is)
    (case h_s_BadText_BadShelf => k_is)
    (case h_s_BadText_BadHall => k_is)
    (case h_s_BadText_BadText => k_is)
    (case h_s_BadText_ValueError => k_is)
    (case h_ty_NoGuest => k_is)
    (case h_k_NoGuest => k_is)
    (case h_sa_NoGuest => k_is)
    (case h_ty_NoPair => k_is)
    (case h_k_NoPair => k_is)
    (case h_sa_NoPair => k_is)
    (case h_ty_NoVersion => k_is)
    (case h_k_NoVersion => k_is)
    (case h_sa_NoVersion => k_is)
    (case h_hd_Pledge => k_is)
    (case h_sa_Pledge => k_is)
    (case h_cl_Party => k_is)
    (case h_ty_Party => k_is)
    (case h_k_Party => k_is)
    (case h_hd_Party => k_is)
    (case h_ca_Party => k_is)
    (case h_mo_Party => k_is)
    (case h_sa_Party => k_is)
    (case h_s_Party_Party => k_is)
    (case h_s_Party_PledgedParty => k_is)
    (case h_s_Party_list => k_is)
    (case h_cl_PledgedParty => k_is)
    (case h_ty_PledgedParty => k_is)
    (case h_hd_PledgedParty => k_is)
    (case h_ca_PledgedParty => k_is)
    (case h_mo_PledgedParty => k_is)
    (case h_sa_PledgedParty => k_is)
    (case h_s_PledgedParty_Party => k_is)
    (case h_s_PledgedParty_PledgedParty => k_is)
    (case h_sb_PartyError => k_is)
    (case h_sb_TooManyPairs => k_is)
    (case h_sb_BadFoot => k_is)
    (case h_n_BadFoot => k_is)
    (case h_sb_BadHall => k_is)
    (case h_n_BadHall => k_is)
    (case h_sb_Busy => k_is)
    (case h_sb_TooManyEdits => k_is)
    (case h_sb_TooManyGuests => k_is)
    (case h_sb_LastGuest => k_is)
    (case h_sb_BadSize => k_is)
    (case h_n_BadSize => k_is)
    (case h_sb_NothingToUndo => k_is)
    (case h_sb_BadNumber => k_is)
    (case h_n_BadNumber => k_is)
    (case h_sb_TooFewServed => k_is)
    (case h_n_TooFewServed => k_is)
    (case h_ga_BadText => k_is)
    (case h_gt_BadText => k_is)
    (case h_sb_BadText => k_is)
    (case h_n_BadText => k_is)
    (case h_sb_NoGuest => k_is)
    (case h_n_NoGuest => k_is)
    (case h_sb_NoPair => k_is)
    (case h_n_NoPair => k_is)
    (case h_sb_NoVersion => k_is)
    (case h_n_NoVersion => k_is)
    (case h_cv_Party_MOST_EDITS => k_is)
    (case h_cv_PledgedParty_MOST_EDITS => k_is)
    (case h_pg_Pledge => k_is)
    (case h_po_Pledge => k_is)
    (case h_f_Pledge_pledge => k_is)
    (case h_pg_Party => k_is)
    (case h_po_Party => k_is)
    (case h_mk_Party => k_is)
    (case h_f_Party__busy => k_is)
    (case h_f_Party_hall => k_is)
    (case h_f_Party_most => k_is)
    (case h_f_Party_fewest => k_is)
    (case h_f_Party__halls => k_is)
    (case h_f_Party__done => k_is)
    (case h_pg_PledgedParty => k_is)
    (case h_po_PledgedParty => k_is)
    (case h_f_PledgedParty__busy => k_is)
    (case h_f_PledgedParty_hall => k_is)
    (case h_f_PledgedParty_most => k_is)
    (case h_f_PledgedParty_fewest => k_is)
    (case h_f_PledgedParty__halls => k_is)
    (case h_f_PledgedParty__done => k_is)
    (case h_f_PledgedParty_pledge => k_is)
    (case hk_CHANGES_come => k_is)
    (case hk_CHANGES_leave => k_is)
    (case hk_CHANGES_put => k_is)
    (case hk_CHANGES_take => k_is)
    (case kd_CHANGES => k_is)
    (case xL_BadHall => k_is)
    (case xL_BadText => k_is)
    (case xL_NoVersion => k_is)
    (case xL_BadFoot => k_is)
    (case xL_NoGuest => k_is)
    (case xL_BadSize => k_is)
    (case xL_NoPair => k_is)
    (case xL_BadNumber => k_is)
    (case xL_TooFewServed => k_is)
    (case xr_BadHall => decide +kernel)
    (case xr_BadText => decide +kernel)
    (case xr_BadFoot => decide +kernel)
    (case xr_BadSize => decide +kernel)
    (case xr_BadNumber => decide +kernel)
    (case xr_TooFewServed => decide +kernel)
    (case kl_CHANGES => exact ⟨⟨_, _, rfl, rfl⟩, ⟨_, _, rfl, rfl⟩, ⟨_, _, rfl, rfl⟩, ⟨_, _, rfl, rfl⟩, trivial⟩)
    (case ks_CHANGES => decide)
    (case e0_PartyError => k_exc)
    (case e0_TooManyPairs => k_exc)
    (case e0_Busy => k_exc)
    (case e0_TooManyEdits => k_exc)
    (case e0_TooManyGuests => k_exc)
    (case e0_LastGuest => k_exc)
    (case e0_NothingToUndo => k_exc)
  )
#print axioms PySem.Challenge.cw_shoeparty_k45_whole_parties_read_holds
