import PyProof.Rows.All
import Wide.All
import OpenK.AllK
import Wide.FinOn
import HandS.ForMost
import HandS.TupAny
import HandS.TupMul
import HandS.IsInst
import HandS.SortInts
import HandS.Wide
import HandS.Style
import HandS.Flow
import HandS.Deep
import HandS.SetFor
import HandS.Conv
import HandS.SortRule
import HandS.RaiseMore
import HandS.Zip
import KE.GoesMore
import KE.GoesEnum
import HandS.Strs
import HandS.NoneIn
import HandS.List
import HandS.SortOrd
import HandS.Text
import HandS.FStr
import KE.KDictZip
import PyProof.TupleOfGen
import HandS.DictEq
import HandS.ForExc
import HandS.ExcInit
import HandS.ExcField
import HandS.ExcIs
import HandS.TryMany
import KE.KExcIs
import KE.KIsAll
import KE.KCallOwn
import HandS.SlotsOwn
import HandS.MakeKwOnly
import HandS.More
import HandS.CallLocal
import HandS.HeadHook3
import HandS.TryOnly
import KE.KExcPX
import KE.KIndexOf
import HandS.GenBody
import PyProof.GenComp
import HandS.GenYield
import HandS.GenList
import KE.LtData
import HandS.StrMore
import HandS.Codes
import HandS.Iter
import KE.OsRunLaw
import PySem.Challenge.RW_shoeparty_k63_whole_texts_there_and_back
set_option Elab.async false
set_option linter.all false
set_option maxRecDepth 100000
namespace DL
open PySem PySem.Spec PyProof.Rows L2
def keyD : Key → PyData
  | .inl i => .int i
  | .inr s => .str s
/-- a dict of ints under plain keys -/
def DctR (kvs : List (PyData × PyData)) (ks : List (Key × V)) : Prop :=
  ∃ ps : List (Key × Int), ks = ps.map (fun p => (p.1, V.int p.2)) ∧ kvs = ps.map (fun p => (keyD p.1, PyData.int p.2))
/-- a thing with a life of its own, named by its address -/
def refD (a : Addr) : PyData := .dict [(.none, .int (((2 : Nat) ^ 2000 + a : Nat) : Int))]
/-- a tuple of ints whose dict is known to be none -/
def clnD (ns : List Int) : PyData := .dict [(.none, .tuple (.int (((2 : Nat) ^ 2000 : Nat) : Int) :: ns.map .int))]
theorem rdS {F H : Hp} (e : Same F H) {a : Addr} {u : HO} (h : Rd F a u) : Rd H a u := h.imp (e _ _) fun ⟨o, q⟩ => ⟨o, e _ _ q⟩
theorem sqtR {K : PySem.W.Frag} {H : Hp} {a : Addr} {xs : List V} (h : Rd H a (.tup xs)) : SqT K H a xs := .inl h
mutual
def Rp (K : PySem.W.Frag) (F : Hp) : PyData → V → Prop
  | .none, v => v = .non
  | .bool b, v => v = .bl b
  | .int i, v => v = .int i
  | .str s, v => v = .str s
  | .list ds, v => ∃ a xs, v = .ref a ∧ F a = some (.lst xs) ∧ Rps K F ds xs
  | .tuple ds, v => ∃ a xs, v = .ref a ∧ Rd F a (.tup xs) ∧ Rps K F ds xs
  | .dict kvs, v => (∃ a ks, v = .ref a ∧ F a = some (.dK ks) ∧ DctR kvs ks) ∨ (∃ a : Addr, PyData.dict kvs = refD a ∧ v = .ref a) ∨ ∃ (a : Addr) (ns : List Int) (o : Obj), PyData.dict kvs = clnD ns ∧ v = .ref a ∧ F a = some (.frz o (.tup (ns.map V.int))) ∧ o.cls = .type "tuple" ∧ o.dict = none
def Rps (K : PySem.W.Frag) (F : Hp) : List PyData → List V → Prop
  | [], vs => vs = []
  | d :: ds, vs => ∃ v r, vs = v :: r ∧ Rp K F d v ∧ Rps K F ds r
end
section
variable {K : PySem.W.Frag} {F F' H H' : Hp}
mutual
theorem Rp.mono (e : Same F F') : ∀ (d : PyData) (v : V), Rp K F d v → Rp K F' d v
  | .none, _, h => by simpa only [Rp] using h
  | .bool _, _, h => by simpa only [Rp] using h
  | .int _, _, h => by simpa only [Rp] using h
  | .str _, _, h => by simpa only [Rp] using h
  | .list ds, _, h => by
    simp only [Rp] at h ⊢
    obtain ⟨a, xs, rfl, h1, h2⟩ := h
    exact ⟨a, xs, rfl, e _ _ h1, Rps.mono e ds xs h2⟩
  | .tuple ds, _, h => by
    simp only [Rp] at h ⊢
    obtain ⟨a, xs, rfl, h1, h2⟩ := h
    exact ⟨a, xs, rfl, rdS e h1, Rps.mono e ds xs h2⟩
  | .dict kvs, _, h => by
    simp only [Rp] at h ⊢
    rcases h with ⟨a, ks, rfl, h1, h2⟩ | h | ⟨a, ns, o, e1, rfl, h1, h2⟩
    · exact .inl ⟨a, ks, rfl, e _ _ h1, h2⟩
    · exact .inr (.inl h)
    · exact .inr (.inr ⟨a, ns, o, e1, rfl, e _ _ h1, h2⟩)
theorem Rps.mono (e : Same F F') : ∀ (ds : List PyData) (vs : List V), Rps K F ds vs → Rps K F' ds vs
  | [], _, h => by simpa only [Rps] using h
  | d :: ds, _, h => by
    simp only [Rps] at h ⊢
    obtain ⟨v, r, rfl, h1, h2⟩ := h
    exact ⟨v, r, rfl, Rp.mono e d v h1, Rps.mono e ds r h2⟩
end
theorem rp_ref {a : Addr} : Rp K F (refD a) (.ref a) := by
  have : Rp K F (.dict [(.none, .int (((2 : Nat) ^ 2000 + a : Nat) : Int))]) (.ref a) := by
    simp only [Rp]
    exact .inr (.inl ⟨a, rfl, rfl⟩)
  exact this
theorem refD_inj {a b : Addr} (h : refD a = refD b) : a = b := by
  unfold refD at h
  injection h with h
  injection h with h
  injection h with _ h
  injection h with h
  exact Nat.add_left_cancel (Int.ofNat.inj h)
theorem keyD_ne {k : Key} : keyD k ≠ .none := by cases k <;> nofun
theorem ref_no {kvs : List (PyData × PyData)} {ks : List (Key × V)} {a : Addr} (h : DctR kvs ks) (e : PyData.dict kvs = refD a) : False := by
  obtain ⟨ps, _, e2⟩ := h
  unfold refD at e
  injection e with e
  rw [e2] at e
  cases ps with
  | nil => cases e
  | cons q ps =>
    rw [List.map_cons] at e
    injection e with e _
    injection e with e _
    exact absurd e keyD_ne
theorem Rp.ref {a : Addr} {v : V} (h : Rp K F (refD a) v) : v = .ref a := by
  have h : Rp K F (.dict [(.none, .int (((2 : Nat) ^ 2000 + a : Nat) : Int))]) v := h
  simp only [Rp] at h
  rcases h with ⟨_, _, _, _, q⟩ | ⟨b, e, rfl⟩ | ⟨_, _, _, e, _⟩
  · exact (ref_no (a := a) q rfl).elim
  · rw [refD_inj (show refD a = refD b from e)]
  · unfold clnD at e
    injection e with e
    injection e with e
    injection e with _ e
    cases e
def isRefD : PyData → Bool
  | .dict [(.none, _)] => true
  | _ => false
theorem rps_nil : Rps K F [] [] := by simp [Rps]
theorem rps_cons {d : PyData} {ds : List PyData} {v : V} {vs : List V} (h1 : Rp K F d v) (h2 : Rps K F ds vs) : Rps K F (d :: ds) (v :: vs) := by
  simp only [Rps]; exact ⟨v, vs, rfl, h1, h2⟩
theorem Rps.length : ∀ {ds : List PyData} {vs : List V}, Rps K F ds vs → ds.length = vs.length
  | [], _, h => by simp only [Rps] at h; subst h; rfl
  | d :: ds, _, h => by
    simp only [Rps] at h
    obtain ⟨v, r, rfl, _, h2⟩ := h
    simp [Rps.length h2]
theorem Rps.get : ∀ {ds : List PyData} {vs : List V} {i : Nat} {d : PyData}, Rps K F ds vs → ds[i]? = some d → ∃ v, vs[i]? = some v ∧ Rp K F d v
  | [], _, i, d, _, e => by simp at e
  | d :: ds, _, 0, d', h, e => by
    simp only [Rps] at h
    obtain ⟨v, r, rfl, h1, _⟩ := h
    simp at e; subst e
    exact ⟨v, rfl, h1⟩
  | d :: ds, _, i + 1, d', h, e => by
    simp only [Rps] at h
    obtain ⟨v, r, rfl, _, h2⟩ := h
    obtain ⟨w, e1, e2⟩ := Rps.get (i := i) h2 (by simpa using e)
    exact ⟨w, by simpa using e1, e2⟩
theorem Rps.append : ∀ {ds es : List PyData} {vs us : List V}, Rps K F ds vs → Rps K F es us → Rps K F (ds ++ es) (vs ++ us)
  | [], _, _, _, h, h' => by simp only [Rps] at h; subst h; exact h'
  | d :: ds, es, _, us, h, h' => by
    simp only [Rps] at h
    obtain ⟨v, r, rfl, h1, h2⟩ := h
    exact rps_cons h1 (Rps.append h2 h')
theorem Rps.take : ∀ (n : Nat) {ds : List PyData} {vs : List V}, Rps K F ds vs → Rps K F (ds.take n) (vs.take n)
  | 0, _, _, _ => by simp [Rps]
  | n + 1, [], _, h => by simp only [Rps] at h; subst h; simp [Rps]
  | n + 1, d :: ds, _, h => by
    simp only [Rps] at h
    obtain ⟨v, r, rfl, h1, h2⟩ := h
    exact rps_cons h1 (Rps.take n h2)
theorem Rps.drop : ∀ (n : Nat) {ds : List PyData} {vs : List V}, Rps K F ds vs → Rps K F (ds.drop n) (vs.drop n)
  | 0, _, _, h => h
  | n + 1, [], _, h => by simp only [Rps] at h; subst h; simp [Rps]
  | n + 1, d :: ds, _, h => by
    simp only [Rps] at h
    obtain ⟨v, r, rfl, h1, h2⟩ := h
    exact Rps.drop n h2
theorem Rps.rev : ∀ {ds : List PyData} {vs : List V}, Rps K F ds vs → Rps K F ds.reverse vs.reverse
  | [], _, h => by simp only [Rps] at h; subst h; simp [Rps]
  | d :: ds, _, h => by
    simp only [Rps] at h
    obtain ⟨v, r, rfl, h1, h2⟩ := h
    rw [List.reverse_cons, List.reverse_cons]
    exact (Rps.rev h2).append (rps_cons h1 rps_nil)
theorem rps_ints : ∀ (ns : List Int), Rps K F (ns.map PyData.int) (ns.map V.int)
  | [] => rps_nil
  | n :: ns => rps_cons (by simp [Rp]) (rps_ints ns)
theorem Rps.ints : ∀ {ns : List Int} {vs : List V}, Rps K F (ns.map PyData.int) vs → vs = ns.map V.int
  | [], _, h => by simpa only [List.map_nil, Rps] using h
  | n :: ns, _, h => by
    simp only [List.map_cons, Rps, Rp] at h
    obtain ⟨v, r, rfl, rfl, h2⟩ := h
    rw [Rps.ints h2]; rfl
end
/-- an object: its class, its fields -/
structure Ob where
  C : Addr
  fs : List (Str × PyData)
/-- an error that is being handled: its class, its own dict, its fields -/
structure Xo where
  cls : Value
  d : Option Addr
  fs : List (Str × PyData)
/-- the world: how many draws, what objects there are -/
structure Wo where
  n : Nat
  ob : Addr → Option Ob
  xs : Addr → Option Xo
def Wo.putX (w : Wo) (a : Addr) (o : Xo) : Wo := { w with xs := fun b => if b = a then some o else w.xs b }
instance : HAdd Wo Nat Wo := ⟨fun w k => { w with n := w.n + k }⟩
/-- later: some draws more -/
instance : LE Wo := ⟨fun w w' => w.n ≤ w'.n ∧ w.ob = w'.ob ∧ w.xs = w'.xs⟩
theorem Wo.add0 (w : Wo) (d : Nat) : w = w + 0 * d := by rw [Nat.zero_mul]; rfl
theorem Wo.le0 (w : Wo) (d : Nat) : w ≤ w + 0 * d := by
  rw [← Wo.add0]
  exact ⟨Nat.le_refl _, rfl, rfl⟩
abbrev FsR (K : PySem.W.Frag) (F : Hp) : List (Str × PyData) → List (Str × V) → Prop := Paired fun p q => p.1 = q.1 ∧ Rp K F p.2 q.2
structure DkS where
  own : List Addr
  at0 : Hp → Nat → Prop
  stay : ∀ (H H' : Hp) (n : Nat), (∀ a, a ∈ own → H' a = H a) → at0 H n → at0 H' n
  lsts : ∀ (H : Hp) (n : Nat), at0 H n → ∀ a, a ∈ own → ∃ xs, H a = some (.lst xs)
def XoAt (K : PySem.W.Frag) (F : Hp) (x : Xo) : Prop := (x.d = none ∧ x.fs = []) ∨ ∃ dd vs, x.d = some dd ∧ F dd = some (.xd vs) ∧ FsR K F x.fs vs
def Obs (K : PySem.W.Frag) (F H : Hp) (w : Wo) : Prop := (∀ a o, w.ob a = some o → F a = none ∧ ∃ dx vs, H a = some (.ins o.C dx vs) ∧ FsR K F o.fs vs) ∧ ∀ a x, w.xs a = some x → XoAt K F x
def DkS.at_ (δ : DkS) (K : PySem.W.Frag) (F H : Hp) (w : Wo) : Prop := δ.at0 H w.n ∧ Obs K F H w
/-- [cells, count] -/
def dkA (a b : Addr) : DkS := ⟨[a, b], fun H n => ∃ cells : List Int, H a = some (.lst [.ref b, .int n]) ∧ H b = some (.lst (cells.map V.int)) ∧ cells.length ≤ 63 ∧ ∀ c ∈ cells, 0 ≤ c, fun H H' n h ⟨cells, h1, h2, h3⟩ =>
  ⟨cells, by rw [h a (by simp)]; exact h1, by rw [h b (by simp)]; exact h2, h3⟩, fun H n ⟨cells, h1, h2, _⟩ x hx => by
  rcases List.mem_cons.mp hx with rfl | hx
  · exact ⟨_, h1⟩
  · rw [List.mem_singleton.mp hx]; exact ⟨_, h2⟩⟩
/-- [cells, count, rests] -/
def dkB (a b c : Addr) : DkS := ⟨[a, b, c], fun H n => ∃ cells rests : List Int, H a = some (.lst [.ref b, .int n, .ref c]) ∧ H b = some (.lst (cells.map V.int)) ∧ H c = some (.lst (rests.map V.int)) ∧ rests.length = cells.length ∧ 1 ≤ cells.length ∧ cells.length ≤ 63 ∧ (∀ c ∈ cells, c = c) ∧ ∀ c ∈ rests, 0 ≤ c,
  fun H H' n h ⟨cells, rests, h1, h2, h3, h4⟩ => ⟨cells, rests, by rw [h a (by simp)]; exact h1, by rw [h b (by simp)]; exact h2, by rw [h c (by simp)]; exact h3, h4⟩, fun H n ⟨cells, rests, h1, h2, h3, _⟩ x hx => by
  rcases List.mem_cons.mp hx with rfl | hx
  · exact ⟨_, h1⟩
  rcases List.mem_cons.mp hx with rfl | hx
  · exact ⟨_, h2⟩
  · rw [List.mem_singleton.mp hx]; exact ⟨_, h3⟩⟩
def IsDk : Bool → DkS → Addr → Prop
  | false, δ, a => ∃ b, δ = dkA a b
  | true, δ, a => ∃ b c, δ = dkB a b c
/-- F0, H0: the entry; δ: the deck -/
structure Fx where
  F0 : Hp
  H0 : Hp
  δ : DkS
inductive Dv where
  | dat (d : PyData) | vw (ds : List PyData) | mt (ds : List PyData) | deck (b : Bool) | md (a : Addr) (ks : List (Key × V))
def Dv.toD : Dv → PyData
  | .dat d => d
  | .vw ds => .list ds
  | .mt ds => .list ds
  | .deck _ => .none
  | .md _ _ => .none
def Dv.isL : Dv → Bool
  | .vw _ => true
  | .mt _ => true
  | _ => false
def Dv.isDk : Dv → Bool
  | .deck _ => true
  | _ => false
abbrev Rho := List (Option Dv)
/-- a value that an expression hands on -/
def VR (K : PySem.W.Frag) (δ : DkS) (F H : Hp) : Dv → V → Prop
  | .dat d, v => Rp K F d v
  | .vw ds, v => ∃ a vs, v = .ref a ∧ H a = some (.lst vs) ∧ Rps K F ds vs ∧ a ∉ δ.own
  | .mt _, _ => False
  | .deck k, v => ∃ a, v = .ref a ∧ IsDk k δ a
  | .md _ _, _ => False
def SlotV (K : PySem.W.Frag) (Z : Fx) (F H : Hp) : Dv → V → Prop
  | .mt ds, v => ∃ a vs, v = .ref a ∧ Z.H0 a = none ∧ F a = none ∧ H a = some (.lst vs) ∧ Rps K F ds vs ∧ a ∉ Z.δ.own
  | .md a ks, v => v = .ref a ∧ Z.H0 a = none ∧ F a = none ∧ H a = some (.dK ks) ∧ a ∉ Z.δ.own
  | .dat d, v => VR K Z.δ F H (.dat d) v
  | .vw ds, v => VR K Z.δ F H (.vw ds) v
  | .deck k, v => VR K Z.δ F H (.deck k) v
def isIns : HO → Bool
  | .ins _ _ _ => true
  | _ => false
/-- one expression's growth -/
structure Gr (δ : DkS) (F H F' H' : Hp) : Prop where
  sF : Same F F'
  nF : ∀ a, H a ≠ none → F a = none → F' a = none
  kH : ∀ a o, a ∉ δ.own → H a = some o → isIns o = false → H' a = some o
  iH : ∀ a C dx fs, H a = some (.ins C dx fs) → ∃ fs', H' a = some (.ins C dx fs')
  dH : ∀ a, H a ≠ none → H' a ≠ none
structure Base (K : PySem.W.Frag) (Z : Fx) (F H : Hp) (n : Wo) : Prop where
  sub : Same F H
  dk : Z.δ.at_ K F H n
  dkF : ∀ a, a ∈ Z.δ.own → F a = none ∧ H a ≠ none
  gF : Same Z.F0 F
  gN : ∀ a, Z.H0 a ≠ none → Z.F0 a = none → F a = none
  gH : ∀ a o, a ∉ Z.δ.own → Z.H0 a = some o → isIns o = false → H a = some o
  gI : ∀ a C dx fs, Z.H0 a = some (.ins C dx fs) → ∃ fs', H a = some (.ins C dx fs')
structure SR (Y : Fx) (K : PySem.W.Frag) (Z : Fx) (F H : Hp) (σ : L2.St) (ρ : Rho) (n : Wo) : Prop where
  b : Base K Z F H n
  de : Z.δ = Y.δ
  he : Z.H0 = Y.H0
  gr : Gr Y.δ Y.F0 Y.H0 F H
  len : ρ.length = σ.length
  slot : ∀ (i : Nat) (x : Dv), ρ[i]? = some (some x) → ∃ v, σ[i]? = some (some v) ∧ SlotV K Z F H x v
  apart : ∀ (i j : Nat) (a : Addr) (ds : List PyData) (y : Dv), i ≠ j → ρ[i]? = some (some (.mt ds)) → σ[i]? = some (some (.ref a)) → ρ[j]? = some (some y) → y.isL = true → σ[j]? ≠ some (some (.ref a))
/-- .. that changes nothing -/
structure Gp (F H F' H' : Hp) : Prop where
  sF : Same F F'
  nF : ∀ a, H a ≠ none → F a = none → F' a = none
  sH : Same H H'
section
variable {K : PySem.W.Frag} {Y Z : Fx} {δ : DkS} {F F' F'' H H' H'' : Hp} {σ : L2.St} {ρ : Rho} {n n' : Wo}
theorem some_of_ne {H : Hp} {a : Addr} (h : H a ≠ none) : ∃ o, H a = some o := by
  cases e : H a with
  | none => exact absurd e h
  | some o => exact ⟨o, rfl⟩
theorem Gr.refl : Gr δ F H F H := ⟨Same.refl _, fun _ _ h => h, fun _ _ _ h _ => h, fun _ _ _ _ h => ⟨_, h⟩, fun _ h => h⟩
theorem Gr.trans (a : Gr δ F H F' H') (b : Gr δ F' H' F'' H'') : Gr δ F H F'' H'' :=
  ⟨a.sF.trans b.sF, fun x h1 h2 => b.nF x (a.dH x h1) (a.nF x h1 h2), fun x o h1 h2 h3 => b.kH x o h1 (a.kH x o h1 h2 h3) h3, fun x C dx fs h => by
    obtain ⟨fs', h'⟩ := a.iH x C dx fs h
    exact b.iH x C dx fs' h', fun x h => b.dH x (a.dH x h)⟩
theorem Gp.refl : Gp F H F H := ⟨Same.refl _, fun _ _ h => h, Same.refl _⟩
theorem Gp.ne (g : Gp F H F' H') {a : Addr} (h : H a ≠ none) : H' a ≠ none := by
  obtain ⟨o, e⟩ := some_of_ne h
  rw [g.sH _ _ e]; nofun
theorem Gp.trans (a : Gp F H F' H') (b : Gp F' H' F'' H'') : Gp F H F'' H'' :=
  ⟨a.sF.trans b.sF, fun x h1 h2 => b.nF x (a.ne h1) (a.nF x h1 h2), a.sH.trans b.sH⟩
theorem Gp.gr (g : Gp F H F' H') : Gr δ F H F' H' := ⟨g.sF, g.nF, fun _ _ _ h _ => g.sH _ _ h, fun _ _ _ _ h => ⟨_, g.sH _ _ h⟩, fun _ h => g.ne h⟩
theorem FsR.mono (e : Same F F') {fs : List (Str × PyData)} {vs : List (Str × V)} (h : FsR K F fs vs) : FsR K F' fs vs := Paired.mapP h fun p q r => ⟨r.1, Rp.mono e _ _ r.2⟩
theorem XoAt.mono (e : Same F F') {x : Xo} (h : XoAt K F x) : XoAt K F' x := by
  rcases h with h | ⟨dd, vs, h1, h2, h3⟩
  · exact .inl h
  · exact .inr ⟨dd, vs, h1, e _ _ h2, h3.mono e⟩
theorem Obs.grow (h : Obs K F H n) (hn : ∀ a, H a ≠ none → F a = none → F' a = none) (hF : Same F F') (hH : ∀ a C dx fs, H a = some (.ins C dx fs) → H' a = some (.ins C dx fs)) : Obs K F' H' n := ⟨fun a o e => by
  obtain ⟨h1, dx, vs, h2, h3⟩ := h.1 a o e
  exact ⟨hn a (by rw [h2]; nofun) h1, dx, vs, hH _ _ _ _ h2, h3.mono hF⟩, fun a x e => (h.2 a x e).mono hF⟩
theorem Gp.dk (g : Gp F H F' H') (b : Base K Z F H n) : Z.δ.at_ K F' H' n := ⟨Z.δ.stay H H' n.n (fun a ha => by
  obtain ⟨o, e⟩ := some_of_ne (b.dkF a ha).2
  rw [e]; exact g.sH _ _ e) b.dk.1, b.dk.2.grow g.nF g.sF fun _ _ _ _ h => g.sH _ _ h⟩
/-- a frozen new object -/
theorem Gp.new {p : Addr} {o : HO} (h : H p = none) (hs : Same F H) : Gp F H (upd F p o) (upd H p o) ∧ Same (upd F p o) (upd H p o) := by
  have hF : F p = none := hs.free h
  refine ⟨⟨fun a u e => ?_, fun a h1 h2 => ?_, fun a u e => ?_⟩, fun a u e => ?_⟩
  · rw [upd_ne (ne_of_none e hF)]; exact e
  · rw [upd_ne (fun q => h1 (by rw [q]; exact h))]; exact h2
  · rw [upd_ne (ne_of_none e h)]; exact e
  · by_cases q : a = p
    · subst q; rw [upd_same] at e ⊢; exact e
    · rw [upd_ne q] at e ⊢; exact hs _ _ e
/-- a new object, not frozen -/
theorem Gp.newM {p : Addr} {o : HO} (h : H p = none) (hs : Same F H) : Gp F H F (upd H p o) ∧ Same F (upd H p o) := by
  refine ⟨⟨Same.refl _, fun _ _ h => h, fun a u e => ?_⟩, fun a u e => ?_⟩
  · rw [upd_ne (ne_of_none e h)]; exact e
  · rw [upd_ne (ne_of_none (hs _ _ e) h)]; exact hs _ _ e
theorem VR.step {x : Dv} {v : V} (g : Gr δ F H F' H') (h : VR K δ F H x v) : VR K δ F' H' x v := by
  cases x with
  | dat d => exact Rp.mono g.sF d v h
  | vw ds =>
    obtain ⟨a, vs, rfl, h1, h2, h3⟩ := h
    exact ⟨a, vs, rfl, g.kH _ _ h3 h1 rfl, Rps.mono g.sF ds vs h2, h3⟩
  | mt ds => exact h
  | deck _ => exact h
  | md _ _ => exact h
theorem SlotV.step {x : Dv} {v : V} (g : Gr Z.δ F H F' H') (h : SlotV K Z F H x v) : SlotV K Z F' H' x v := by
  cases x with
  | mt ds =>
    obtain ⟨a, vs, rfl, h0, h1, h2, h3, h4⟩ := h
    exact ⟨a, vs, rfl, h0, g.nF a (by rw [h2]; nofun) h1, g.kH _ _ h4 h2 rfl, Rps.mono g.sF ds vs h3, h4⟩
  | dat d => exact VR.step (x := .dat d) g h
  | vw ds => exact VR.step (x := .vw ds) g h
  | deck _ => exact h
  | md a ks =>
    obtain ⟨e, h0, h1, h2, h3⟩ := h
    exact ⟨e, h0, g.nF a (by rw [h2]; nofun) h1, g.kH _ _ h3 h2 rfl, h3⟩
theorem Base.gD (b : Base K Z F H n) (a : Addr) (h : Z.H0 a ≠ none) : H a ≠ none := by
  by_cases ha : a ∈ Z.δ.own
  · exact (b.dkF a ha).2
  · obtain ⟨o, e⟩ := some_of_ne h
    by_cases hi : isIns o = false
    · rw [b.gH a o ha e hi]; nofun
    · cases o with
      | ins C dx fs =>
        obtain ⟨fs', h'⟩ := b.gI a C dx fs e
        rw [h']; nofun
      | _ => exact absurd rfl hi
theorem Base.step (b : Base K Z F H n) (g : Gr Z.δ F H F' H') (hs : Same F' H') (hd : Z.δ.at_ K F' H' n') : Base K Z F' H' n' where
  sub := hs
  dk := hd
  dkF := fun a ha => ⟨g.nF a (b.dkF a ha).2 (b.dkF a ha).1, g.dH a (b.dkF a ha).2⟩
  gF := b.gF.trans g.sF
  gN := fun a h1 h2 => by
    by_cases ha : a ∈ Z.δ.own
    · exact g.nF a (b.dkF a ha).2 (b.dkF a ha).1
    · exact g.nF a (b.gD a h1) (b.gN a h1 h2)
  gH := fun a o h1 h2 h3 => g.kH a o h1 (b.gH a o h1 h2 h3) h3
  gI := fun a C dx fs h => by
    obtain ⟨fs', h'⟩ := b.gI a C dx fs h
    exact g.iH a C dx fs' h'
theorem SR.step (r : SR Y K Z F H σ ρ n) (g : Gr Z.δ F H F' H') (hs : Same F' H') (hd : Z.δ.at_ K F' H' n') : SR Y K Z F' H' σ ρ n' where
  b := r.b.step g hs hd
  de := r.de
  he := r.he
  gr := r.gr.trans (r.de ▸ g)
  len := r.len
  slot := fun i x e => by
    obtain ⟨v, e1, e2⟩ := r.slot i x e
    exact ⟨v, e1, e2.step g⟩
  apart := r.apart
/-- what stands as data -/
def needD (x : Dv) (R : PyData → Prop) : Prop :=
  match x with
  | .dat d => R d
  | _ => False
/-- a view is data in the heap itself -/
theorem VR.rp {x : Dv} {v : V} (h : VR K δ F H x v) (hs : Same F H) (hx : x.isDk = false) : Rp K H x.toD v := by
  cases x with
  | dat d => exact Rp.mono hs d v h
  | vw ds =>
    obtain ⟨a, vs, rfl, h1, h2, _⟩ := h
    simp only [Dv.toD, Rp]
    exact ⟨a, vs, rfl, h1, Rps.mono hs ds vs h2⟩
  | mt ds => exact h.elim
  | deck _ => exact absurd hx (by simp [Dv.isDk])
  | md _ _ => exact h.elim
end
abbrev DTE := Rho → Wo → (Dv → Wo → Prop) → Prop
abbrev DTA := Rho → Wo → (List Dv → Wo → Prop) → Prop
abbrev DTT := Rho → Wo → (Bool → Wo → Prop) → Prop
def up (Y : Fx) (K : PySem.W.Frag) (t : DTE) : TE := fun σ H Q => ∃ Z F ρ n R, SR Y K Z F H σ ρ n ∧ t ρ n R ∧
  ∀ x n' F' H' v, R x n' → Gr Z.δ F H F' H' → Same F' H' → Z.δ.at_ K F' H' n' → VR K Z.δ F' H' x v → Q v H'
def VRs (K : PySem.W.Frag) (δ : DkS) (F H : Hp) : List Dv → List V → Prop := Paired (VR K δ F H)
def upA (Y : Fx) (K : PySem.W.Frag) (t : DTA) : TA := fun σ H Q => ∃ Z F ρ n R, SR Y K Z F H σ ρ n ∧ t ρ n R ∧
  ∀ xs n' F' H' vs, R xs n' → Gr Z.δ F H F' H' → Same F' H' → Z.δ.at_ K F' H' n' → VRs K Z.δ F' H' xs vs → Q vs H'
def upT (Y : Fx) (K : PySem.W.Frag) (t : DTT) : TT := fun σ H Q => ∃ Z F ρ n R, SR Y K Z F H σ ρ n ∧ t ρ n R ∧
  ∀ c n' F' H', R c n' → Gr Z.δ F H F' H' → Same F' H' → Z.δ.at_ K F' H' n' → Q c H'
/-- a fresh list -/
abbrev DTM := Rho → Wo → (List PyData → Wo → Prop) → Prop
def upM (Y : Fx) (K : PySem.W.Frag) (t : DTM) : TE := fun σ H Q => ∃ Z F ρ n R, SR Y K Z F H σ ρ n ∧ t ρ n R ∧
  ∀ ds n' F' H' p vs, R ds n' → Gr Z.δ F H F' H' → Same F' H' → Z.δ.at_ K F' H' n' → H p = none → F' p = none → H' p = some (.lst vs) → Rps K F' ds vs → Q (.ref p) H'
abbrev WE (Y : Fx) (X : Cx) (e : Expr) (t : DTE) : Prop := PE X e (up Y X.K t)
abbrev WA (Y : Fx) (X : Cx) (es : List Expr) (t : DTA) : Prop := PA X es (upA Y X.K t)
abbrev WT (Y : Fx) (X : Cx) (e : Expr) (t : DTT) : Prop := PT X e (upT Y X.K t)
abbrev ME (Y : Fx) (X : Cx) (e : Expr) (t : DTM) : Prop := PE X e (upM Y X.K t)
theorem pe_imp {X : Cx} {e : Expr} {t t' : TE} (h : PE X e t) (q : ∀ σ H Q, t' σ H Q → t σ H Q) : PE X e t' := ⟨fun p s σ H Q I w => h.run p s σ H Q I (q σ H Q w)⟩
theorem pa_imp {X : Cx} {es : List Expr} {t t' : TA} (h : PA X es t) (q : ∀ σ H Q, t' σ H Q → t σ H Q) : PA X es t' := ⟨fun c p s σ H Q I w => h.run c p s σ H Q I (q σ H Q w)⟩
theorem pt_imp {X : Cx} {e : Expr} {t t' : TT} (h : PT X e t) (q : ∀ σ H Q, t' σ H Q → t σ H Q) : PT X e t' := ⟨fun p s σ H Q I w => h.run p s σ H Q I (q σ H Q w)⟩
theorem ps_imp {X : Cx} {st : Stmt} {t t' : TS} (h : PS X st t) (q : ∀ D σ H, t' D σ H → t D σ H) : PS X st t' := ⟨fun p s σ H D I w => h.run p s σ H D I (q D σ H w)⟩
theorem pss_imp {X : Cx} {st : List Stmt} {t t' : TS} (h : PSs X st t) (q : ∀ D σ H, t' D σ H → t D σ H) : PSs X st t' := ⟨fun p s σ H D I w => h.run p s σ H D I (q D σ H w)⟩
theorem DkS.at_.fz {K : PySem.W.Frag} {δ : DkS} {F H : Hp} {n : Wo} {p : Addr} {o : HO} (h : δ.at_ K F H n) (hp : H p = some o) (ho : isIns o = false) (hF : F p = none) : δ.at_ K (upd F p o) H n :=
  ⟨h.1, ⟨fun a ob e => by
    obtain ⟨h1, dx, vs, h2, h3⟩ := h.2.1 a ob e
    have ne : a ≠ p := fun q => by
      rw [q, hp] at h2
      cases h2
      cases ho
    exact ⟨by rw [upd_ne ne]; exact h1, dx, vs, h2, h3.mono fun b u e => by rw [upd_ne (ne_of_none e hF)]; exact e⟩, fun a x e => (h.2.2 a x e).mono fun b u e => by rw [upd_ne (ne_of_none e hF)]; exact e⟩⟩
/-- a thing of one's own (no object) is changed -/
theorem DkS.at_.chg {K : PySem.W.Frag} {δ : DkS} {F H : Hp} {n : Wo} {p : Addr} {o u : HO} (h : δ.at_ K F H n) (na : p ∉ δ.own) (hp : H p = some o) (ho : isIns o = false) : δ.at_ K F (upd H p u) n :=
  ⟨δ.stay H _ n.n (fun b hb => upd_ne fun q => na (by rw [← q]; exact hb)) h.1, ⟨fun a ob e => by
    obtain ⟨h1, dx, vs, h2, h3⟩ := h.2.1 a ob e
    have ne : a ≠ p := fun q => by
      rw [q, hp] at h2
      cases h2
      cases ho
    exact ⟨h1, dx, vs, by rw [upd_ne ne]; exact h2, h3⟩, h.2.2⟩⟩
theorem Gr.chg {δ : DkS} {F H F' H' : Hp} {p : Addr} {u : HO} (g : Gr δ F H F' H') (hp : H p = none) : Gr δ F H F' (upd H' p u) :=
  ⟨g.sF, g.nF, fun a o na e hi => by rw [upd_ne (ne_of_none e hp)]; exact g.kH a o na e hi, fun a C dx fs e => by rw [upd_ne (ne_of_none e hp)]; exact g.iH a C dx fs e, fun a e => by
    rw [upd_ne (fun q => e (by rw [q]; exact hp))]; exact g.dH a e⟩
/-- a fresh list, frozen -/
def dOfM (t : DTM) : DTE := fun ρ n R => t ρ n fun ds n' => R (.dat (.list ds)) n'
theorem freeze {K : PySem.W.Frag} {δ : DkS} {F H F' H' : Hp} {p : Addr} {vs : List V} {ds : List PyData} (g : Gr δ F H F' H') (hs : Same F' H') (hp : H p = none) (hF : F' p = none) (hH : H' p = some (.lst vs)) (r : Rps K F' ds vs) :
    Gr δ F H (upd F' p (.lst vs)) H' ∧ Same (upd F' p (.lst vs)) H' ∧ Rp K (upd F' p (.lst vs)) (.list ds) (.ref p) := by
  have s1 : Same F' (upd F' p (.lst vs)) := fun a o e => by rw [upd_ne (ne_of_none e hF)]; exact e
  refine ⟨⟨g.sF.trans s1, fun a h1 h2 => ?_, g.kH, g.iH, g.dH⟩, fun a o e => ?_, ?_⟩
  · rw [upd_ne (fun q => h1 (by rw [q]; exact hp))]; exact g.nF a h1 h2
  · by_cases q : a = p
    · subst q; rw [upd_same] at e; cases e; exact hH
    · rw [upd_ne q] at e; exact hs _ _ e
  · simp only [Rp]
    exact ⟨p, vs, rfl, upd_same, Rps.mono s1 ds vs r⟩
theorem we_ofM {X : Cx} {e : Expr} {t : DTM} (h : ME Y X e t) : WE Y X e (dOfM t) := pe_imp h fun σ H Q ⟨Z, F, ρ, n, R, r, ht, k⟩ =>
  ⟨Z, F, ρ, n, _, r, ht, fun ds n' F' H' p vs hR g hs hd hp hF hH hr => by
    obtain ⟨g2, s2, r2⟩ := freeze g hs hp hF hH hr
    exact k _ _ _ _ _ hR g2 s2 (hd.fz hH rfl hF) r2⟩
end DL
namespace DL
open PySem PySem.Spec PyProof.Rows L2
variable {X : Cx} {Y : Fx}
def dView (x : Dv) (R : Dv → Prop) : Prop :=
  match x with
  | .mt ds => R (.vw ds)
  | .md _ _ => False
  | y => R y
def dVar (i : Nat) : DTE := fun ρ n R => ∃ x, ρ[i]? = some (some x) ∧ dView x fun y => R y n
theorem we_var (i : Nat) {x : Str} {pos : Pos} (hN : X.N[i]? = some x := by rfl) (hv : Vis X.env.scope x := by first | exact Or.inl rfl | exact Or.inr (Or.inl rfl) | exact Or.inr (Or.inr rfl))
    (hd : (x == ("__debug__" : Str)) = false := by decide) (hcd : (x == ("__classdict__" : Str)) = false := by decide) : WE Y X (.Name x pos) (dVar i) :=
  pe_imp (pe_var hN hv hd hcd) fun σ H Q ⟨Z, F, ρ, n, R, r, ⟨y, e, hy⟩, k⟩ => by
    obtain ⟨v, e1, e2⟩ := r.slot i y e
    refine ⟨v, e1, ?_⟩
    cases y with
    | mt ds =>
      obtain ⟨a, vs, rfl, _, _, h2, h3, h4⟩ := e2
      exact k _ _ _ _ _ hy Gr.refl r.b.sub r.b.dk ⟨a, vs, rfl, h2, h3, h4⟩
    | dat d => exact k _ _ _ _ _ hy Gr.refl r.b.sub r.b.dk e2
    | vw ds => exact k _ _ _ _ _ hy Gr.refl r.b.sub r.b.dk e2
    | deck _ => exact k _ _ _ _ _ hy Gr.refl r.b.sub r.b.dk e2
    | md _ _ => exact hy.elim
def dC (d : PyData) : DTE := fun _ n R => R (.dat d) n
theorem we_c {e : Expr} {v : V} {d : PyData} (h : PE X e (tC v)) (hd : ∀ F, Rp X.K F d v) : WE Y X e (dC d) :=
  pe_imp h fun σ H Q ⟨Z, F, ρ, n, R, r, hr, k⟩ => k _ _ _ _ _ hr Gr.refl r.b.sub r.b.dk (hd F)
theorem we_int {i j pos} : WE Y X (.Constant (.int i) j pos) (dC (.int i)) := we_c pe_int fun _ => by simp [Rp]
theorem we_bl {i j pos} : WE Y X (.Constant (.bool i) j pos) (dC (.bool i)) := we_c pe_bl fun _ => by simp [Rp]
theorem we_non {j pos} : WE Y X (.Constant .none j pos) (dC .none) := we_c pe_non fun _ => by simp [Rp]
theorem we_str {i j pos} : WE Y X (.Constant (.str i) j pos) (dC (.str i)) := we_c pe_str fun _ => by simp [Rp]
/-- a module's int -/
theorem we_gint {x : Str} {i : Int} {t : Tok} {pos : Pos} (hg : Gl X x) (hm : X.mg x = some (.int i t)) (hd : (x == ("__debug__" : Str)) = false := by decide) : WE Y X (.Name x pos) (dC (.int i)) :=
  we_c (pe_glob (v := .int i) hg hm ⟨_, rfl⟩ hd) fun _ => by simp [Rp]
def dNil : DTA := fun _ n R => R [] n
def dCons (t : DTE) (u : DTA) : DTA := fun ρ n R => t ρ n fun x n1 => u ρ n1 fun xs n2 => R (x :: xs) n2
theorem wa_nil : WA Y X [] dNil := pa_imp pa_nil fun σ H Q ⟨Z, F, ρ, n, R, r, hr, k⟩ => k _ _ _ _ _ hr Gr.refl r.b.sub r.b.dk .nil
theorem wa_cons {e : Expr} {es : List Expr} {t : DTE} {u : DTA} (ha : WE Y X e t) (hr : WA Y X es u) (hs : starEach (e :: es) X.env = (false, eval e X.env) :: starEach es X.env := by rfl) : WA Y X (e :: es) (dCons t u) :=
  pa_imp (pa_cons ha hr hs) fun σ H Q ⟨Z, F, ρ, n, R, r, ht, k⟩ =>
    ⟨Z, F, ρ, n, _, r, ht, fun x n1 F1 H1 v hx g1 s1 d1 w1 => ⟨Z, F1, ρ, n1, _, r.step g1 s1 d1, hx, fun xs n2 F2 H2 vs hxs g2 s2 d2 w2 =>
      k _ _ _ _ _ hxs (g1.trans g2) s2 d2 (.cons (w1.step g2) w2)⟩⟩
/-- all of them data -/
def needDs : List Dv → (List PyData → Prop) → Prop
  | [], R => R []
  | x :: xs, R => needD x fun d => needDs xs fun ds => R (d :: ds)
theorem needD_is {x : Dv} {R : PyData → Prop} (h : needD x R) : ∃ d, x = .dat d ∧ R d := by
  cases x with
  | dat d => exact ⟨d, rfl, h⟩
  | vw _ => exact h.elim
  | mt _ => exact h.elim
  | deck _ => exact h.elim
  | md _ _ => exact h.elim
theorem needDs_is {K : PySem.W.Frag} {δ : DkS} {F H : Hp} : ∀ {xs : List Dv} {vs : List V} {R : List PyData → Prop}, VRs K δ F H xs vs → needDs xs R → ∃ ds, R ds ∧ Rps K F ds vs
  | [], _, R, .nil, h => ⟨[], h, rps_nil⟩
  | x :: xs, _, R, .cons a b, h => by
    obtain ⟨d, rfl, h⟩ := needD_is h
    obtain ⟨ds, h1, h2⟩ := needDs_is b h
    exact ⟨d :: ds, h1, rps_cons a h2⟩
def dTup (t : DTA) : DTE := fun ρ n R => t ρ n fun xs n' => needDs xs fun ds => ds.length ≤ sizeLine ∧ R (.dat (.tuple ds)) n'
theorem we_tup {es : List Expr} {t : DTA} {x1} {pos : Pos} (h : WA Y X es t) : WE Y X (.Tuple es x1 pos) (dTup t) :=
  pe_imp (pe_tup h) fun σ H Q ⟨Z, F, ρ, n, R, r, ht, k⟩ => ⟨Z, F, ρ, n, _, r, ht, fun xs n1 F1 H1 vs hx g1 s1 d1 w1 => by
    obtain ⟨ds, ⟨hl, hR⟩, hr⟩ := needDs_is w1 hx
    refine ⟨by rw [← hr.length]; exact hl, fun p hp => ?_⟩
    obtain ⟨g2, s2⟩ := Gp.new (o := .tup vs) hp s1
    refine k _ _ _ _ _ hR (g1.trans g2.gr) s2 (g2.dk ((r.step g1 s1 d1).b)) ?_
    simp only [VR, Rp]
    exact ⟨p, vs, rfl, .inl upd_same, Rps.mono g2.sF ds vs hr⟩⟩
def mLst (t : DTA) : DTM := fun ρ n R => t ρ n fun xs n' => needDs xs fun ds => ds.length ≤ sizeLine ∧ R ds n'
theorem me_lst {es : List Expr} {t : DTA} {pos : Pos} (h : WA Y X es t) : ME Y X (.List es pos) (mLst t) :=
  pe_imp (pe_lst h) fun σ H Q ⟨Z, F, ρ, n, R, r, ht, k⟩ => ⟨Z, F, ρ, n, _, r, ht, fun xs n1 F1 H1 vs hx g1 s1 d1 w1 => by
    obtain ⟨ds, ⟨hl, hR⟩, hr⟩ := needDs_is w1 hx
    refine ⟨by rw [← hr.length]; exact hl, fun p hp => ?_⟩
    obtain ⟨g2, s2⟩ := Gp.newM (o := .lst vs) hp s1
    have hp0 : H p = none := by
      cases e : H p with
      | none => rfl
      | some o => exact absurd hp (g1.dH p (by rw [e]; nofun))
    exact k _ _ _ _ _ _ hR (g1.trans g2.gr) s2 (g2.dk ((r.step g1 s1 d1).b)) hp0 (s1.free hp) upd_same hr⟩
abbrev D2 := Dv → Dv → (PyData → Prop) → Prop
abbrev Back (K : PySem.W.Frag) (F H : Hp) (R : PyData → Prop) (Q : VK) : Prop := ∀ d F' H' v, R d → Gp F H F' H' → Same F' H' → Rp K F' d v → Q v H'
def BinOk (K : PySem.W.Frag) (r : R2) (o : D2) : Prop := ∀ δ F H x y v u R Q, Same F H → VR K δ F H x v → VR K δ F H y u → o x y R → Back K F H R Q → r v u H Q
theorem Back.here {K : PySem.W.Frag} {F H : Hp} {R : PyData → Prop} {Q : VK} (b : Back K F H R Q) (hs : Same F H) {d : PyData} {v : V} (h : R d) (r : Rp K F d v) : Q v H := b d F H v h Gp.refl hs r
theorem Back.int {K : PySem.W.Frag} {F H : Hp} {R : PyData → Prop} {Q : VK} (b : Back K F H R Q) (hs : Same F H) {i : Int} (h : R (.int i)) : Q (.int i) H := b.here hs h (by simp [Rp])
theorem Back.bl {K : PySem.W.Frag} {F H : Hp} {R : PyData → Prop} {Q : VK} (b : Back K F H R Q) (hs : Same F H) {i : Bool} (h : R (.bool i)) : Q (.bl i) H := b.here hs h (by simp [Rp])
theorem Back.tup {K : PySem.W.Frag} {F H : Hp} {R : PyData → Prop} {Q : VK} (b : Back K F H R Q) (hs : Same F H) {ds : List PyData} {vs : List V} (h : R (.tuple ds)) (r : Rps K F ds vs) {p : Addr} (hp : H p = none) : Q (.ref p) (upd H p (.tup vs)) := by
  obtain ⟨g, s⟩ := Gp.new (o := .tup vs) hp hs
  refine b _ _ _ _ h g s ?_
  simp only [Rp]
  exact ⟨p, vs, rfl, .inl upd_same, Rps.mono g.sF ds vs r⟩
theorem Back.lst {K : PySem.W.Frag} {F H : Hp} {R : PyData → Prop} {Q : VK} (b : Back K F H R Q) (hs : Same F H) {ds : List PyData} {vs : List V} (h : R (.list ds)) (r : Rps K F ds vs) {p : Addr} (hp : H p = none) : Q (.ref p) (upd H p (.lst vs)) := by
  obtain ⟨g, s⟩ := Gp.new (o := .lst vs) hp hs
  refine b _ _ _ _ h g s ?_
  simp only [Rp]
  exact ⟨p, vs, rfl, upd_same, Rps.mono g.sF ds vs r⟩
def dBin (o : D2) (t u : DTE) : DTE := fun ρ n R => t ρ n fun x n1 => u ρ n1 fun y n2 => o x y fun z => R (.dat z) n2
/-- the two operands, then o -/
theorem two {K : PySem.W.Frag} {r : R2} {o : D2} {t u : DTE} (hr : BinOk K r o) : ∀ σ H Q, up Y K (dBin o t u) σ H Q → tOp r (up Y K t) (up Y K u) σ H Q := fun σ H Q ⟨Z, F, ρ, n, R, s, ht, k⟩ =>
  ⟨Z, F, ρ, n, _, s, ht, fun x n1 F1 H1 v hx g1 s1 d1 w1 => ⟨Z, F1, ρ, n1, _, s.step g1 s1 d1, hx, fun y n2 F2 H2 u hy g2 s2 d2 w2 =>
    hr Z.δ F2 H2 x y v u _ Q s2 (w1.step g2) w2 hy fun d F3 H3 v3 h3 g3 s3 w3 =>
      k _ _ _ _ _ h3 ((g1.trans g2).trans g3.gr) s3 (g3.dk (((s.step g1 s1 d1).step g2 s2 d2).b)) w3⟩⟩
theorem we_bin {op : Operator} {r : R2} {o : D2} {a b : Expr} {t u : DTE} {pos : Pos} (ho : OpR X (binaryOp op) r) (hr : BinOk X.K r o) (ha : WE Y X a t) (hb : WE Y X b u) : WE Y X (.BinOp a op b pos) (dBin o t u) :=
  pe_imp (pe_op ho ha hb) (two hr)
theorem we_cmp {op : CmpOp} {r : R2} {o : D2} {a b : Expr} {t u : DTE} {pos : Pos} (ho : OpR X (compareOp op) r) (hr : BinOk X.K r o) (ha : WE Y X a t) (hb : WE Y X b u) (hm : behindInMarks op b = false) : WE Y X (.Compare a [op] [b] pos) (dBin o t u) :=
  pe_imp (pe_cmpR ho ha hb hm) (two hr)
def dTst (t : DTE) : DTT := fun ρ n R => t ρ n fun x n1 => ∃ c, x = .dat (.bool c) ∧ R c n1
theorem tst {K : PySem.W.Frag} {te : TE} {t : DTE} (h : ∀ σ H Q, up Y K t σ H Q → te σ H Q) : ∀ σ H Q, upT Y K (dTst t) σ H Q → tTest te σ H Q := fun σ H Q ⟨Z, F, ρ, n, R, s, ht, k⟩ => by
  refine h _ _ _ ⟨Z, F, ρ, n, _, s, ht, fun x n1 F1 H1 v ⟨c, e, hx⟩ g1 s1 d1 w1 => ?_⟩
  subst e
  simp only [VR, Rp] at w1
  exact ⟨c, w1, k _ _ _ _ hx g1 s1 d1⟩
theorem wt_cmp {op : CmpOp} {r : R2} {o : D2} {a b : Expr} {t u : DTE} {pos : Pos} (ho : OpR X (compareOp op) r) (hr : BinOk X.K r o) (ha : WE Y X a t) (hb : WE Y X b u) (hm : behindInMarks op b = false) : WT Y X (.Compare a [op] [b] pos) (dTst (dBin o t u)) :=
  pt_imp (pt_cmpR ho ha hb hm) (tst (two hr))
def dChain (o o' : D2) (t u w : DTE) : DTE := fun ρ n R => t ρ n fun x n1 => u ρ n1 fun y n2 => o x y fun c => ∃ k, c = .bool k ∧ (if k = true then w ρ n2 fun z n3 => o' y z fun d => R (.dat d) n3 else R (.dat (.bool false)) n2)
theorem chn {K : PySem.W.Frag} {r r' : R2} {o o' : D2} {t u w : DTE} (hr : BinOk K r o) (hr' : BinOk K r' o') : ∀ σ H Q, up Y K (dChain o o' t u w) σ H Q → tChain r r' (up Y K t) (up Y K u) (up Y K w) σ H Q := fun σ H Q ⟨Z, F, ρ, n, R, s, ht, k⟩ =>
  ⟨Z, F, ρ, n, _, s, ht, fun x n1 F1 H1 v hx g1 s1 d1 w1 => ⟨Z, F1, ρ, n1, _, s.step g1 s1 d1, hx, fun y n2 F2 H2 u hy g2 s2 d2 w2 => by
    refine hr Z.δ F2 H2 x y v u _ _ s2 (w1.step g2) w2 hy fun d F3 H3 v3 ⟨c, e, h3⟩ g3 s3 w3 => ?_
    subst e
    simp only [Rp] at w3
    refine ⟨c, w3, ?_⟩
    have S3 := ((s.step g1 s1 d1).step g2 s2 d2).step g3.gr s3 (g3.dk (((s.step g1 s1 d1).step g2 s2 d2).b))
    cases c with
    | false => exact k _ _ _ _ _ h3 ((g1.trans g2).trans g3.gr) s3 S3.b.dk (by simp [VR, Rp])
    | true =>
      refine ⟨Z, F3, ρ, n2, _, S3, h3, fun z n4 F4 H4 v4 h4 g4 s4 d4 w4 => ?_⟩
      refine hr' Z.δ F4 H4 y z u v4 _ Q s4 ((w2.step g3.gr).step g4) w4 h4 fun d F5 H5 v5 h5 g5 s5 w5 => ?_
      exact k _ _ _ _ _ h5 ((((g1.trans g2).trans g3.gr).trans g4).trans g5.gr) s5 (g5.dk ((S3.step g4 s4 d4).b)) w5⟩⟩
theorem we_chain {op op' : CmpOp} {r r' : R2} {o o' : D2} {a b c : Expr} {t u w : DTE} {pos : Pos} (ho : OpR X (compareOp op) r) (ho' : OpR X (compareOp op') r') (hr : BinOk X.K r o) (hr' : BinOk X.K r' o') (ha : WE Y X a t) (hb : WE Y X b u) (hc : WE Y X c w)
    (hm : lastMarks [op, op'] [b, c] = false := by with_unfolding_all rfl) : WE Y X (.Compare a [op, op'] [b, c] pos) (dChain o o' t u w) :=
  pe_imp (pe_chain ho ho' ha hb hc hm) (chn hr hr')
theorem wt_chain {op op' : CmpOp} {r r' : R2} {o o' : D2} {a b c : Expr} {t u w : DTE} {pos : Pos} (ho : OpR X (compareOp op) r) (ho' : OpR X (compareOp op') r') (hr : BinOk X.K r o) (hr' : BinOk X.K r' o') (ha : WE Y X a t) (hb : WE Y X b u) (hc : WE Y X c w)
    (hm : lastMarks [op, op'] [b, c] = false := by with_unfolding_all rfl) : WT Y X (.Compare a [op, op'] [b, c] pos) (dTst (dChain o o' t u w)) :=
  pt_imp (pt_chain ho ho' ha hb hc hm) (tst (chn hr hr'))
def oI0 (g : Int → Int → PyData) : D2 := fun x y R =>
  match x, y with
  | .dat (.int i), .dat (.int j) => R (g i j)
  | _, _ => False
def oI (C : Int → Int → Prop) (g : Int → Int → PyData) : D2 := fun x y R =>
  match x, y with
  | .dat (.int i), .dat (.int j) => C i j ∧ R (g i j)
  | _, _ => False
theorem oI_is {C : Int → Int → Prop} {g : Int → Int → PyData} {x y : Dv} {R : PyData → Prop} (h : oI C g x y R) : ∃ i j, x = .dat (.int i) ∧ y = .dat (.int j) ∧ C i j ∧ R (g i j) := by
  unfold oI at h
  split at h
  · exact ⟨_, _, rfl, rfl, h⟩
  · exact h.elim
theorem oI0_is {g : Int → Int → PyData} {x y : Dv} {R : PyData → Prop} (h : oI0 g x y R) : ∃ i j, x = .dat (.int i) ∧ y = .dat (.int j) ∧ R (g i j) := by
  unfold oI0 at h
  split at h
  · exact ⟨_, _, rfl, rfl, h⟩
  · exact h.elim
section
variable {K : PySem.W.Frag}
theorem bi_I {C : Int → Int → Prop} {g : Int → Int → Int} : BinOk K (rI C fun i j => .int (g i j)) (oI C fun i j => .int (g i j)) := fun δ F H x y v u R Q hs hx hy h b => by
  obtain ⟨i, j, rfl, rfl, hc, hr⟩ := oI_is h
  simp only [VR, Rp] at hx hy
  exact ⟨i, j, hx, hy, hc, b.int hs hr⟩
theorem bi_I0 {g : Int → Int → Int} : BinOk K (rI0 fun i j => .int (g i j)) (oI0 fun i j => .int (g i j)) := fun δ F H x y v u R Q hs hx hy h b => by
  obtain ⟨i, j, rfl, rfl, hr⟩ := oI0_is h
  simp only [VR, Rp] at hx hy
  exact ⟨i, j, hx, hy, b.int hs hr⟩
theorem bi_B0 {g : Int → Int → Bool} : BinOk K (rI0 fun i j => .bl (g i j)) (oI0 fun i j => .bool (g i j)) := fun δ F H x y v u R Q hs hx hy h b => by
  obtain ⟨i, j, rfl, rfl, hr⟩ := oI0_is h
  simp only [VR, Rp] at hx hy
  exact ⟨i, j, hx, hy, b.bl hs hr⟩
end
end DL
namespace DL
open PySem PySem.Spec PyProof.Rows L2
variable {X : Cx} {Y : Fx}
section
variable {K : PySem.W.Frag} {F H : Hp}
mutual
theorem Rp.dp : ∀ (d : PyData) (v : V), d.canLay0 = true → Rp K H d v → Dp K H v d
  | .none, _, _, h => by simp only [Rp] at h; subst h; exact .non
  | .bool _, _, _, h => by simp only [Rp] at h; subst h; exact .bl _
  | .int _, _, _, h => by simp only [Rp] at h; subst h; exact .int _
  | .str _, _, _, h => by simp only [Rp] at h; subst h; exact .str _
  | .list ds, _, c, h => by
    simp only [Rp] at h
    obtain ⟨a, xs, rfl, h1, h2⟩ := h
    exact .lst (SqL.of h1) (Rps.dp ds xs (by simpa only [PyData.canLay0] using c) h2)
  | .tuple ds, _, c, h => by
    simp only [Rp] at h
    obtain ⟨a, xs, rfl, h1, h2⟩ := h
    exact .tup (sqtR h1) (Rps.dp ds xs (by simpa only [PyData.canLay0] using c) h2)
  | .dict _, _, c, _ => by simp [PyData.canLay0] at c
theorem Rps.dp : ∀ (ds : List PyData) (vs : List V), PyData.canLayAll0 ds = true → Rps K H ds vs → DpAll K H vs ds
  | [], _, _, h => by simp only [Rps] at h; subst h; exact .nil
  | d :: ds, _, c, h => by
    simp only [Rps] at h
    obtain ⟨v, r, rfl, h1, h2⟩ := h
    simp only [PyData.canLayAll0, Bool.and_eq_true] at c
    exact .cons (Rp.dp d v c.1 h1) (Rps.dp ds r c.2 h2)
end
end
/-- what may be compared: no dict, not too deep -/
abbrev Sh (d : PyData) : Prop := SeqAt.shaped d = true
def oEq (neg : Bool) : D2 := fun x y R => x.isDk = false ∧ y.isDk = false ∧ Sh x.toD ∧ Sh y.toD ∧ R (.bool (if neg then !PyData.eqv x.toD y.toD else PyData.eqv x.toD y.toD))
section
variable {K : PySem.W.Frag}
theorem bi_eq : BinOk K (rEqD K) (oEq false) := fun δ F H x y v u R Q hs hx hy ⟨n1, n2, s1, s2, hr⟩ b =>
  ⟨_, _, Rp.dp _ _ (SeqAt.canLay_of_shaped s1) (hx.rp hs n1), Rp.dp _ _ (SeqAt.canLay_of_shaped s2) (hy.rp hs n2), s1, s2, b.bl hs hr⟩
theorem bi_ne : BinOk K (rNeD K) (oEq true) := fun δ F H x y v u R Q hs hx hy ⟨n1, n2, s1, s2, hr⟩ b =>
  ⟨_, _, Rp.dp _ _ (SeqAt.canLay_of_shaped s1) (hx.rp hs n1), Rp.dp _ _ (SeqAt.canLay_of_shaped s2) (hy.rp hs n2), s1, s2, b.bl hs hr⟩
/-- x in a list -/
def oIn (neg : Bool) : D2 := fun x y R => x.isDk = false ∧ y.isDk = false ∧ ∃ ds, y.toD = .list ds ∧ Sh x.toD ∧ Sh (.list ds) ∧ R (.bool (if neg then !(ds.any fun z => PyData.eqv z x.toD) else ds.any fun z => PyData.eqv z x.toD))
theorem bi_notIn : BinOk K (rNotInD K) (oIn true) := fun δ F H x y v u R Q hs hx hy ⟨n1, n2, ds, e, s1, s2, hr⟩ b =>
  ⟨_, ds, Rp.dp _ _ (SeqAt.canLay_of_shaped s1) (hx.rp hs n1), Rp.dp _ _ (SeqAt.canLay_of_shaped s2) (e ▸ hy.rp hs n2), s1, s2, b.bl hs hr⟩
/-- is None, is not None; bools -/
def isN : PyData → Bool
  | .none => true
  | _ => false
def oIsN (neg : Bool) : D2 := fun x y R => y = .dat .none ∧ x.isDk = false ∧ R (.bool (if neg then !isN x.toD else isN x.toD))
theorem isN_of {F : Hp} {d : PyData} {v : V} (h : Rp K F d v) : isN d = decide (v = .non) := by
  cases d <;> simp only [Rp] at h
  case list => obtain ⟨a, xs, rfl, _⟩ := h; rfl
  case tuple => obtain ⟨a, xs, rfl, _⟩ := h; rfl
  case dict => rcases h with ⟨a, xs, rfl, _⟩ | ⟨a, _, rfl⟩ | ⟨a, _, _, _, rfl, _⟩ <;> rfl
  all_goals (subst h; rfl)
theorem bi_isN : BinOk K (fun x y H Q => y = .non ∧ Q (.bl (decide (x = .non))) H) (oIsN false) := fun δ F H x y v u R Q hs hx hy ⟨e, n, hr⟩ b => by
  subst e
  simp only [VR, Rp] at hy
  refine ⟨hy, b.bl hs ?_⟩
  rw [← isN_of (hx.rp hs n)]; exact hr
/-- + : ints, tuples, lists -/
def oAdd : D2 := fun x y R =>
  match x.toD, y.toD with
  | .int i, .int j => R (.int (i + j))
  | .tuple xs, .tuple ys => xs.length + ys.length ≤ sizeLine ∧ R (.tuple (xs ++ ys))
  | .list xs, .list ys => xs.length + ys.length ≤ sizeLine ∧ R (.list (xs ++ ys))
  | _, _ => False
abbrev rAddA (K : PySem.W.Frag) : R2 := fun x y H Q => (rI0 (fun i j => .int (i + j)) x y H Q ∨ rCatA K x y H Q) ∨ rCat x y H Q
theorem or_addA : OpR X (binaryOp .Add) (rAddA X.K) := OpR.or (OpR.or op_add op_catA) op_cat
theorem notDeck_of {x : Dv} {d : PyData} (h : x.toD = d) (hd : d ≠ .none) : x.isDk = false := by
  cases x with
  | deck _ => exact absurd h.symm hd
  | _ => rfl
theorem bi_add : BinOk K (rAddA K) oAdd := fun δ F H x y v u R Q hs hx hy h b => by
  unfold oAdd at h
  split at h
  · rename_i i j e1 e2
    have r1 := hx.rp hs (notDeck_of e1 nofun); have r2 := hy.rp hs (notDeck_of e2 nofun)
    rw [e1] at r1; rw [e2] at r2
    simp only [Rp] at r1 r2
    exact .inl (.inl ⟨i, j, r1, r2, b.int hs h⟩)
  · rename_i xs ys e1 e2
    cases x with
    | dat d =>
      cases y with
      | dat d' =>
        simp only [Dv.toD] at e1 e2
        subst e1 e2
        simp only [VR, Rp] at hx hy
        obtain ⟨a1, l1, rfl, h1, p1⟩ := hx
        obtain ⟨a2, l2, rfl, h2, p2⟩ := hy
        have z1 := p1.length; have z2 := p2.length
        refine .inl (.inr ⟨a1, a2, l1, l2, rfl, rfl, sqtR (rdS hs h1), sqtR (rdS hs h2), by omega, fun e => ?_, fun _ e => ?_, fun _ _ p hp => ?_⟩)
        · subst e
          have : xs = [] := by simpa using z1
          subst this
          exact b.here hs h.2 (by simp only [Rp]; exact ⟨a2, l2, rfl, h2, p2⟩)
        · subst e
          have : ys = [] := by simpa using z2
          subst this
          exact b.here hs (by simpa using h.2) (by simp only [Rp]; exact ⟨a1, l1, rfl, h1, p1⟩)
        · exact b.tup hs h.2 (p1.append p2) hp
      | vw _ => simp [Dv.toD] at e2
      | mt _ => simp [Dv.toD] at e2
      | deck _ => simp [Dv.toD] at e2
      | md _ _ => simp [Dv.toD] at e2
    | vw _ => simp [Dv.toD] at e1
    | mt _ => simp [Dv.toD] at e1
    | deck _ => simp [Dv.toD] at e1
    | md _ _ => simp [Dv.toD] at e1
  · rename_i xs ys e1 e2
    have lst : ∀ {z : Dv} {w : V} {zs : List PyData}, VR K δ F H z w → z.toD = .list zs → ∃ a l, w = .ref a ∧ H a = some (.lst l) ∧ Rps K F zs l := by
      intro z w zs hz e
      cases z with
      | dat d =>
        simp only [Dv.toD] at e; subst e
        simp only [VR, Rp] at hz
        obtain ⟨a, l, e1, e2, e3⟩ := hz
        exact ⟨a, l, e1, hs _ _ e2, e3⟩
      | vw ds =>
        simp only [Dv.toD, PyData.list.injEq] at e; subst e
        obtain ⟨a, l, e1, e2, e3, _⟩ := hz
        exact ⟨a, l, e1, e2, e3⟩
      | mt _ => exact hz.elim
      | deck _ => simp [Dv.toD] at e
      | md _ _ => exact hz.elim
    obtain ⟨a1, l1, rfl, h1, p1⟩ := lst hx e1
    obtain ⟨a2, l2, rfl, h2, p2⟩ := lst hy e2
    have z1 := p1.length; have z2 := p2.length
    exact .inr ⟨a1, a2, l1, l2, rfl, rfl, h1, h2, by omega, fun p hp => b.lst hs h.2 (p1.append p2) hp⟩
  · exact h.elim
/-- the list that a value is -/
theorem VR.lst {δ : DkS} {F H : Hp} {z : Dv} {w : V} {zs : List PyData} (hs : Same F H) (hz : VR K δ F H z w) (e : z.toD = .list zs) : ∃ a l, w = .ref a ∧ H a = some (.lst l) ∧ Rps K F zs l := by
  cases z with
  | dat d =>
    simp only [Dv.toD] at e; subst e
    simp only [VR, Rp] at hz
    obtain ⟨a, l, e1, e2, e3⟩ := hz
    exact ⟨a, l, e1, hs _ _ e2, e3⟩
  | vw ds =>
    simp only [Dv.toD, PyData.list.injEq] at e; subst e
    obtain ⟨a, l, e1, e2, e3, _⟩ := hz
    exact ⟨a, l, e1, e2, e3⟩
  | mt _ => exact hz.elim
  | deck _ => simp [Dv.toD] at e
  | md _ _ => exact hz.elim
theorem VR.tpl {δ : DkS} {F H : Hp} {z : Dv} {w : V} {zs : List PyData} (hs : Same F H) (hz : VR K δ F H z w) (e : z.toD = .tuple zs) : ∃ a l, w = .ref a ∧ Rd F a (.tup l) ∧ Rps K F zs l := by
  cases z with
  | dat d =>
    simp only [Dv.toD] at e; subst e
    simpa only [VR, Rp] using hz
  | vw ds => simp [Dv.toD] at e
  | mt _ => exact hz.elim
  | deck _ => simp [Dv.toD] at e
  | md _ _ => exact hz.elim
theorem Rps.at {F : Hp} {ds : List PyData} {vs : List V} (r : Rps K F ds vs) {i : Int} {d : PyData} (h : atI ds i = some d) : ∃ v, atI vs i = some v ∧ Rp K F d v := by
  unfold atI at h ⊢
  rw [← r.length]
  obtain ⟨j, e1, e2⟩ := Option.bind_eq_some_iff.mp h
  obtain ⟨v, e3, e4⟩ := r.get e2
  exact ⟨v, by rw [e1]; exact e3, e4⟩
def oIx : D2 := fun x y R =>
  match x.toD with
  | .list ds => ∃ i d, y = .dat (.int i) ∧ atI ds i = some d ∧ R d
  | .tuple ds => ∃ i d, y = .dat (.int i) ∧ atI ds i = some d ∧ R d
  | _ => False
theorem bi_ix : BinOk K (rIx K) oIx := fun δ F H x y v u R Q hs hx hy h b => by
  unfold oIx at h
  split at h
  · rename_i ds e
    obtain ⟨a, l, rfl, h1, h2⟩ := hx.lst hs e
    obtain ⟨i, d, rfl, h3, hr⟩ := h
    simp only [VR, Rp] at hy
    obtain ⟨w, e1, e2⟩ := h2.at h3
    exact .inl ⟨a, l, i, w, rfl, hy, SqL.of h1, e1, b.here hs hr e2⟩
  · rename_i ds e
    obtain ⟨a, l, rfl, h1, h2⟩ := hx.tpl hs e
    obtain ⟨i, d, rfl, h3, hr⟩ := h
    simp only [VR, Rp] at hy
    obtain ⟨w, e1, e2⟩ := h2.at h3
    exact .inr (.inl ⟨a, l, i, w, rfl, hy, sqtR (rdS hs h1), e1, b.here hs hr e2⟩)
  · exact h.elim
end
theorem we_ix {a b : Expr} {t u : DTE} {pos : Pos} (ha : WE Y X a t) (hb : WE Y X b u) (hs : PlainIx b) : WE Y X (.Subscript a b pos) (dBin oIx t u) := pe_imp (pe_ix ix_seq ha hb hs) (two bi_ix)
abbrev DTO := Rho → Wo → (Option Int → Wo → Prop) → Prop
def upO (Y : Fx) (K : PySem.W.Frag) (t : DTO) : TO := fun σ H Q => ∃ Z F ρ n R, SR Y K Z F H σ ρ n ∧ t ρ n R ∧
  ∀ x n' F' H', R x n' → Gr Z.δ F H F' H' → Same F' H' → Z.δ.at_ K F' H' n' → Q x H'
abbrev WO (Y : Fx) (X : Cx) (e : Option Expr) (t : DTO) : Prop := PO X e (upO Y X.K t)
theorem po_imp {e : Option Expr} {t t' : TO} (h : PO X e t) (q : ∀ σ H Q, t' σ H Q → t σ H Q) : PO X e t' := ⟨fun p s σ H Q I w => h.run p s σ H Q I (q σ H Q w)⟩
def dNo : DTO := fun _ n R => R none n
def dSome (t : DTE) : DTO := fun ρ n R => t ρ n fun x n' => ∃ i, x = .dat (.int i) ∧ R (some i) n'
theorem wo_none : WO Y X none dNo := po_imp po_none fun σ H Q ⟨Z, F, ρ, n, R, r, hr, k⟩ => k _ _ _ _ hr Gr.refl r.b.sub r.b.dk
theorem wo_some {e : Expr} {t : DTE} (h : WE Y X e t) : WO Y X (some e) (dSome t) := po_imp (po_some h) fun σ H Q ⟨Z, F, ρ, n, R, r, ht, k⟩ =>
  ⟨Z, F, ρ, n, _, r, ht, fun x n1 F1 H1 v ⟨i, e, hx⟩ g1 s1 d1 w1 => by
    subst e
    simp only [VR, Rp] at w1
    exact ⟨i, w1, k _ _ _ _ hx g1 s1 d1⟩⟩
def cutG {α : Type} (xs : List α) (lo hi : Option Int) : List α := (xs.drop (HT.sIx xs.length 0 lo)).take (HT.sIx xs.length xs.length hi - HT.sIx xs.length 0 lo)
theorem Rps.cut {K : PySem.W.Frag} {F : Hp} {ds : List PyData} {vs : List V} (r : Rps K F ds vs) (lo hi : Option Int) : Rps K F (cutG ds lo hi) (cutV vs lo hi) := by
  unfold cutG cutV
  rw [r.length]
  exact Rps.take _ (Rps.drop _ r)
def oSl (x : Dv) (lo hi : Option Int) (R : PyData → Prop) : Prop :=
  match x.toD with
  | .list ds => R (.list (cutG ds lo hi))
  | .tuple ds => R (.tuple (cutG ds lo hi))
  | _ => False
def dSl (t : DTE) (l h : DTO) : DTE := fun ρ n R => t ρ n fun x n1 => l ρ n1 fun lo n2 => h ρ n2 fun hi n3 => oSl x lo hi fun d => R (.dat d) n3
theorem cut_whole {α : Type} {xs : List α} {lo hi : Option Int} (h : HT.sIx xs.length 0 lo = 0 ∧ HT.sIx xs.length xs.length hi = xs.length) : cutG xs lo hi = xs := by
  unfold cutG
  rw [h.1, h.2]
  simp
theorem we_slice {e : Expr} {lo hi : Option Expr} {t : DTE} {l h : DTO} {pos p2 : Pos} (he : WE Y X e t) (hl : WO Y X lo l) (hh : WO Y X hi h) : WE Y X (.Subscript e (.Slice lo hi none p2) pos) (dSl t l h) :=
  pe_imp (pe_slice (SlR.or sl_list sl_tupA) he hl hh) fun σ H Q ⟨Z, F, ρ, n, R, r, ht, k⟩ =>
    ⟨Z, F, ρ, n, _, r, ht, fun x n1 F1 H1 v hx g1 s1 d1 w1 => ⟨Z, F1, ρ, n1, _, r.step g1 s1 d1, hx, fun lo n2 F2 H2 hlo g2 s2 d2 => ⟨Z, F2, ρ, n2, _, (r.step g1 s1 d1).step g2 s2 d2, hlo, fun hi n3 F3 H3 hhi g3 s3 d3 => by
      have w3 : VR X.K Z.δ F3 H3 x v := (w1.step g2).step g3
      have b : Back X.K F3 H3 (fun d => R (.dat d) n3) Q := fun d F4 H4 v4 h4 g4 s4 w4 =>
        k _ _ _ _ _ h4 (((g1.trans g2).trans g3).trans g4.gr) s4 (g4.dk ((((r.step g1 s1 d1).step g2 s2 d2).step g3 s3 d3).b)) w4
      unfold oSl at hhi
      split at hhi
      · rename_i ds e
        obtain ⟨a, xs, rfl, h1, h2⟩ := w3.lst s3 e
        exact .inl ⟨a, xs, rfl, SqL.of h1, fun p hp => b.lst s3 hhi (h2.cut lo hi) hp⟩
      · rename_i ds e
        obtain ⟨a, xs, rfl, h1, h2⟩ := w3.tpl s3 e
        refine .inr ⟨a, xs, rfl, sqtR (rdS s3 h1), fun q => ?_, fun _ p hp => b.tup s3 hhi (h2.cut lo hi) hp⟩
        rw [cut_whole (by rw [h2.length]; exact q)] at hhi
        exact b.here s3 hhi (by simp only [Rp]; exact ⟨a, xs, rfl, h1, h2⟩)
      · exact hhi.elim⟩⟩⟩
/-- xs[::-1] of a list -/
def oRevL (x : Dv) (R : PyData → Prop) : Prop := ∃ ds, x.toD = .list ds ∧ R (.list ds.reverse)
def dUn (o : Dv → (PyData → Prop) → Prop) (t : DTE) : DTE := fun ρ n R => t ρ n fun x n1 => o x fun d => R (.dat d) n1
theorem one {K : PySem.W.Frag} {r : V → Hp → VK → Prop} {o : Dv → (PyData → Prop) → Prop} {t : DTE} (hr : ∀ δ F H x v R Q, Same F H → VR K δ F H x v → o x R → Back K F H R Q → r v H Q) :
    ∀ σ H Q, up Y K (dUn o t) σ H Q → up Y K t σ H fun x H1 => r x H1 Q := fun σ H Q ⟨Z, F, ρ, n, R, s, ht, k⟩ =>
  ⟨Z, F, ρ, n, _, s, ht, fun x n1 F1 H1 v hx g1 s1 d1 w1 => hr Z.δ F1 H1 x v _ Q s1 w1 hx fun d F2 H2 v2 h2 g2 s2 w2 =>
    k _ _ _ _ _ h2 (g1.trans g2.gr) s2 (g2.dk ((s.step g1 s1 d1).b)) w2⟩
theorem we_revL {e : Expr} {t : DTE} {pos p1 p2 p3 : Pos} {k : Nat} (he : WE Y X e t) : WE Y X (.Subscript e (.Slice none none (some (.UnaryOp .USub (.Constant (.int 1) k p1) p2)) p3) pos) (dUn oRevL t) :=
  pe_imp (pe_revL he) (one (r := fun x H1 Q => ∃ a xs, x = .ref a ∧ SqL X.K H1 a xs ∧ ∀ p, H1 p = none → Q (.ref p) (upd H1 p (.lst xs.reverse))) fun δ F H x v R Q hs hx ⟨ds, e, hr⟩ b => by
    obtain ⟨a, xs, rfl, h1, h2⟩ := hx.lst hs e
    exact ⟨a, xs, rfl, SqL.of h1, fun p hp => b.lst hs hr h2.rev hp⟩)
def asB (x : Dv) (R : Bool → Prop) : Prop :=
  match x with
  | .dat (.bool c) => R c
  | _ => False
theorem asB_is {x : Dv} {R : Bool → Prop} (h : asB x R) : ∃ c, x = .dat (.bool c) ∧ R c := by
  unfold asB at h
  split at h
  · exact ⟨_, rfl, h⟩
  · exact h.elim
def dAnd (t u : DTE) : DTE := fun ρ n R => t ρ n fun x n1 => asB x fun c => if c = true then u ρ n1 R else R (.dat (.bool false)) n1
theorem we_one {op} {a : Expr} {t : DTE} {pos : Pos} (h : WE Y X a t) : WE Y X (.BoolOp op [a] pos) t := pe_one h
theorem we_and {a b : Expr} {rest : List Expr} {t u : DTE} {pos : Pos} (ha : WE Y X a t) (hb : WE Y X (.BoolOp .And (b :: rest) pos) u) : WE Y X (.BoolOp .And (a :: b :: rest) pos) (dAnd t u) :=
  pe_imp (pe_and ha hb) fun σ H Q ⟨Z, F, ρ, n, R, r, ht, k⟩ => ⟨Z, F, ρ, n, _, r, ht, fun x n1 F1 H1 v hx g1 s1 d1 w1 => by
    obtain ⟨c, rfl, hx⟩ := asB_is hx
    simp only [VR, Rp] at w1
    refine ⟨c, w1, ?_⟩
    cases c with
    | true => exact ⟨Z, F1, ρ, n1, _, r.step g1 s1 d1, hx, fun y n2 F2 H2 v2 hy g2 s2 d2 w2 => k _ _ _ _ _ hy (g1.trans g2) s2 d2 w2⟩
    | false => exact k _ _ _ _ _ hx g1 s1 d1 (by simp [VR, Rp])⟩
def oNot (x : Dv) (R : PyData → Prop) : Prop := asB x fun c => R (.bool (!c))
theorem we_not {a : Expr} {t : DTE} {pos : Pos} (ha : WE Y X a t) : WE Y X (.UnaryOp .Not a pos) (dUn oNot t) :=
  pe_imp (pe_not ha) (one (r := fun x H1 Q => ∃ c, x = .bl c ∧ Q (.bl (!c)) H1) fun δ F H x v R Q hs hx h b => by
    obtain ⟨c, rfl, hr⟩ := asB_is h
    simp only [VR, Rp] at hx
    exact ⟨c, hx, b.bl hs hr⟩)
def dIf (c : DTT) (t u : DTE) : DTE := fun ρ n R => c ρ n fun b n1 => if b = true then t ρ n1 R else u ρ n1 R
theorem we_if {c a b : Expr} {tc : DTT} {t u : DTE} {pos : Pos} (hc : WT Y X c tc) (ha : WE Y X a t) (hb : WE Y X b u) : WE Y X (.IfExp c a b pos) (dIf tc t u) :=
  pe_imp (pe_ifExp hc ha hb) fun σ H Q ⟨Z, F, ρ, n, R, r, ht, k⟩ => ⟨Z, F, ρ, n, _, r, ht, fun c n1 F1 H1 hx g1 s1 d1 => by
    cases c with
    | true => exact ⟨Z, F1, ρ, n1, _, r.step g1 s1 d1, hx, fun y n2 F2 H2 v2 hy g2 s2 d2 w2 => k _ _ _ _ _ hy (g1.trans g2) s2 d2 w2⟩
    | false => exact ⟨Z, F1, ρ, n1, _, r.step g1 s1 d1, hx, fun y n2 F2 H2 v2 hy g2 s2 d2 w2 => k _ _ _ _ _ hy (g1.trans g2) s2 d2 w2⟩⟩
abbrev WW (Y : Fx) (X : Cx) (e : Expr) (t : DTT) : Prop := PW X e (upT Y X.K t)
theorem pw_imp {e : Expr} {t t' : TT} (h : PW X e t) (q : ∀ σ H Q, t' σ H Q → t σ H Q) : PW X e t' := ⟨fun wh p s σ H Q I w => h.run wh p s σ H Q I (q σ H Q w)⟩
theorem wt_val {e : Expr} {t : DTE} (h : WE Y X e t) (he : ∀ whole, isTrue e X.env whole = (do let v ← whole; standAt e.pos; holding [v] (truthy v)) := by intro _; rfl) : WT Y X e (dTst t) :=
  pt_imp (pt_val h he) fun σ H Q ⟨Z, F, ρ, n, R, s, ht, k⟩ => ⟨Z, F, ρ, n, _, s, ht, fun x n1 F1 H1 v ⟨c, e, hx⟩ g1 s1 d1 w1 => by
    subst e
    simp only [VR, Rp] at w1
    exact ⟨c, w1, k _ _ _ _ hx g1 s1 d1⟩⟩
def oTru (x : Dv) (R : Bool → Prop) : Prop :=
  match x.toD with
  | .list ds => R (!ds.isEmpty)
  | .tuple ds => R (!ds.isEmpty)
  | .bool b => R b
  | .int i => R (i != 0)
  | _ => False
def dTru (t : DTE) : DTT := fun ρ n R => t ρ n fun x n1 => oTru x fun c => R c n1
theorem Rps.isEmpty {K : PySem.W.Frag} {F : Hp} {ds : List PyData} {vs : List V} (r : Rps K F ds vs) : ds.isEmpty = vs.isEmpty := by
  have h := r.length
  cases ds <;> cases vs <;> simp at h ⊢
theorem wt_tru {e : Expr} {t : DTE} (h : WE Y X e t) (he : ∀ whole, isTrue e X.env whole = (do let v ← whole; standAt e.pos; holding [v] (truthy v)) := by intro _; rfl) : WT Y X e (dTru t) :=
  pt_imp (pt_truth h he) fun σ H Q ⟨Z, F, ρ, n, R, s, ht, k⟩ => ⟨Z, F, ρ, n, _, s, ht, fun x n1 F1 H1 v hx g1 s1 d1 w1 => by
    unfold oTru at hx
    split at hx
    · rename_i ds e
      obtain ⟨a, xs, rfl, h1, h2⟩ := w1.lst s1 e
      exact ⟨_, .inl ⟨xs, SqL.of h1, rfl⟩, by rw [← h2.isEmpty]; exact k _ _ _ _ hx g1 s1 d1⟩
    · rename_i ds e
      obtain ⟨a, xs, rfl, h1, h2⟩ := w1.tpl s1 e
      exact ⟨_, .inr (.inl ⟨xs, sqtR (rdS s1 h1), rfl⟩), by rw [← h2.isEmpty]; exact k _ _ _ _ hx g1 s1 d1⟩
    · rename_i b e
      have r1 := w1.rp s1 (notDeck_of e nofun)
      rw [e] at r1; simp only [Rp] at r1; subst r1
      exact ⟨_, rfl, k _ _ _ _ hx g1 s1 d1⟩
    · rename_i i e
      have r1 := w1.rp s1 (notDeck_of e nofun)
      rw [e] at r1; simp only [Rp] at r1; subst r1
      exact ⟨_, rfl, k _ _ _ _ hx g1 s1 d1⟩
    · exact hx.elim⟩
def dTAnd (t u : DTT) : DTT := fun ρ n R => t ρ n fun c n1 => if c = true then u ρ n1 R else R false n1
def dTOr (t u : DTT) : DTT := fun ρ n R => t ρ n fun c n1 => if c = true then R true n1 else u ρ n1 R
def dTNot (t : DTT) : DTT := fun ρ n R => t ρ n fun c n1 => R (!c) n1
theorem ww_and1 {a : Expr} {t : DTT} {pos : Pos} (ha : WT Y X a t) : WW Y X (.BoolOp .And [a] pos) t := pw_and1 ha
theorem ww_or1 {a : Expr} {t : DTT} {pos : Pos} (ha : WT Y X a t) : WW Y X (.BoolOp .Or [a] pos) t := pw_or1 ha
theorem ww_and {a b : Expr} {rest : List Expr} {t u : DTT} {pos : Pos} (ha : WT Y X a t) (hb : WW Y X (.BoolOp .And (b :: rest) pos) u) : WW Y X (.BoolOp .And (a :: b :: rest) pos) (dTAnd t u) :=
  pw_imp (pw_and ha hb) fun σ H Q ⟨Z, F, ρ, n, R, r, ht, k⟩ => ⟨Z, F, ρ, n, _, r, ht, fun c n1 F1 H1 hx g1 s1 d1 => by
    cases c with
    | true => exact ⟨Z, F1, ρ, n1, _, r.step g1 s1 d1, hx, fun y n2 F2 H2 hy g2 s2 d2 => k _ _ _ _ hy (g1.trans g2) s2 d2⟩
    | false => exact k _ _ _ _ hx g1 s1 d1⟩
theorem ww_or {a b : Expr} {rest : List Expr} {t u : DTT} {pos : Pos} (ha : WT Y X a t) (hb : WW Y X (.BoolOp .Or (b :: rest) pos) u) : WW Y X (.BoolOp .Or (a :: b :: rest) pos) (dTOr t u) :=
  pw_imp (pw_or ha hb) fun σ H Q ⟨Z, F, ρ, n, R, r, ht, k⟩ => ⟨Z, F, ρ, n, _, r, ht, fun c n1 F1 H1 hx g1 s1 d1 => by
    cases c with
    | false => exact ⟨Z, F1, ρ, n1, _, r.step g1 s1 d1, hx, fun y n2 F2 H2 hy g2 s2 d2 => k _ _ _ _ hy (g1.trans g2) s2 d2⟩
    | true => exact k _ _ _ _ hx g1 s1 d1⟩
theorem wt_w {e : Expr} {t : DTT} (h : WW Y X e t) : WT Y X e t := h.pt
theorem wt_not {a : Expr} {t : DTT} {pos : Pos} (ha : WT Y X a t) : WT Y X (.UnaryOp .Not a pos) (dTNot t) :=
  pt_imp (pt_not ha) fun σ H Q ⟨Z, F, ρ, n, R, r, ht, k⟩ => ⟨Z, F, ρ, n, _, r, ht, fun c n1 F1 H1 hx g1 s1 d1 => k _ _ _ _ hx g1 s1 d1⟩
end DL
namespace DL
open PySem PySem.Spec PyProof.Rows L2
variable {X : Cx} {Y : Fx}
def VX (K : PySem.W.Frag) (Hs F H : Hp) : Dv → V → Prop
  | .dat d, v => Rp K F d v
  | .mt ds, v => ∃ p vs, v = .ref p ∧ Hs p = none ∧ F p = none ∧ H p = some (.lst vs) ∧ Rps K F ds vs
  | .md a ks, v => v = .ref a ∧ Hs a = none ∧ F a = none ∧ H a = some (.dK ks)
  | _, _ => False
def upX (Y : Fx) (K : PySem.W.Frag) (t : DTE) : TE := fun σ H Q => ∃ Z F ρ n R, SR Y K Z F H σ ρ n ∧ t ρ n R ∧
  ∀ x n' F' H' v, R x n' → Gr Z.δ F H F' H' → Same F' H' → Z.δ.at_ K F' H' n' → VX K H F' H' x v → Q v H'
abbrev XE (Y : Fx) (X : Cx) (e : Expr) (t : DTE) : Prop := PE X e (upX Y X.K t)
def xD (t : DTE) : DTE := fun ρ n R => t ρ n fun x n' => needD x fun d => R (.dat d) n'
def xM (t : DTM) : DTE := fun ρ n R => t ρ n fun ds n' => R (.mt ds) n'
theorem xe_d {e : Expr} {t : DTE} (h : WE Y X e t) : XE Y X e (xD t) := pe_imp h fun σ H Q ⟨Z, F, ρ, n, R, r, ht, k⟩ =>
  ⟨Z, F, ρ, n, _, r, ht, fun x n1 F1 H1 v hx g1 s1 d1 w1 => by
    obtain ⟨d, rfl, hx⟩ := needD_is hx
    exact k _ _ _ _ _ hx g1 s1 d1 w1⟩
theorem xe_m {e : Expr} {t : DTM} (h : ME Y X e t) : XE Y X e (xM t) := pe_imp h fun σ H Q ⟨Z, F, ρ, n, R, r, ht, k⟩ =>
  ⟨Z, F, ρ, n, _, r, ht, fun ds n1 F1 H1 p vs hx g1 s1 d1 a b c d => k _ _ _ _ _ hx g1 s1 d1 ⟨p, vs, rfl, a, b, c, d⟩⟩
theorem VX.step {K : PySem.W.Frag} {δ : DkS} {Hs F H F' H' : Hp} {x : Dv} {v : V} (hs : ∀ a, a ∈ δ.own → Hs a ≠ none) (g : Gr δ F H F' H') (h : VX K Hs F H x v) : VX K Hs F' H' x v := by
  cases x with
  | dat d => exact Rp.mono g.sF d v h
  | mt ds =>
    obtain ⟨p, vs, rfl, a, b, c, d⟩ := h
    exact ⟨p, vs, rfl, a, g.nF p (by rw [c]; nofun) b, g.kH p _ (fun q => hs p q a) c rfl, Rps.mono g.sF ds vs d⟩
  | vw _ => exact h
  | deck _ => exact h
  | md a ks =>
    obtain ⟨e, h1, h2, h3⟩ := h
    exact ⟨e, h1, g.nF a (by rw [h3]; nofun) h2, g.kH a _ (fun q => hs a q h1) h3 rfl⟩
section
variable {K : PySem.W.Frag} {Y Z : Fx} {F H : Hp} {σ : L2.St} {ρ : Rho} {n : Wo}
theorem SR.set (r : SR Y K Z F H σ ρ n) (i : Nat) {x : Dv} {v : V} {Hs : Hp} (hx : VX K Hs F H x v) (h0 : ∀ p, Hs p = none → Z.H0 p = none ∧ p ∉ Z.δ.own) (hi : ∀ p, Hs p = none → ∀ (j : Nat) (y : Dv), j ≠ i → ρ[j]? = some (some y) → y.isL = true → σ[j]? ≠ some (some (.ref p))) :
    SR Y K Z F H (σ.set i (some v)) (ρ.set i (some x)) n where
  b := r.b
  de := r.de
  he := r.he
  gr := r.gr
  len := by simp [r.len]
  slot := fun j y e => by
    by_cases q : i = j
    · subst q
      by_cases hl : i < ρ.length
      · rw [List.getElem?_set_self hl] at e
        cases e
        refine ⟨v, List.getElem?_set_self (by rw [← r.len]; exact hl), ?_⟩
        cases x with
        | dat d => exact hx
        | mt ds =>
          obtain ⟨p, vs, rfl, a, b, c, d⟩ := hx
          exact ⟨p, vs, rfl, (h0 p a).1, b, c, d, (h0 p a).2⟩
        | vw _ => exact hx.elim
        | deck _ => exact hx.elim
        | md a ks =>
          obtain ⟨e, h1, h2, h3⟩ := hx
          exact ⟨e, (h0 a h1).1, h2, h3, (h0 a h1).2⟩
      · rw [List.getElem?_eq_none (by rw [List.length_set]; omega)] at e
        cases e
    · rw [List.getElem?_set_ne q] at e
      obtain ⟨w, e1, e2⟩ := r.slot j y e
      exact ⟨w, by rw [List.getElem?_set_ne q]; exact e1, e2⟩
  apart := fun j k a ds y hjk e1 e2 e3 hy e4 => by
    by_cases q : i = j
    · subst q
      by_cases hl : i < ρ.length
      · rw [List.getElem?_set_self hl] at e1
        rw [List.getElem?_set_self (by rw [← r.len]; exact hl)] at e2
        cases e1; cases e2
        rw [List.getElem?_set_ne hjk] at e3 e4
        obtain ⟨p, vs, e5, a', b, c, d⟩ := hx
        cases e5
        exact hi _ a' k y (Ne.symm hjk) e3 hy e4
      · rw [List.getElem?_eq_none (by rw [List.length_set]; omega)] at e1
        cases e1
    · rw [List.getElem?_set_ne q] at e1 e2
      by_cases q2 : i = k
      · subst q2
        by_cases hl : i < ρ.length
        · rw [List.getElem?_set_self hl] at e3
          rw [List.getElem?_set_self (by rw [← r.len]; exact hl)] at e4
          cases e3; cases e4
          cases x with
          | dat d => simp [Dv.isL] at hy
          | mt ds' =>
            obtain ⟨p, vs, e5, a', b, c, d⟩ := hx
            cases e5
            exact hi _ a' j (.mt ds) hjk e1 rfl e2
          | vw _ => exact hx.elim
          | deck _ => exact hx.elim
          | md _ _ => simp [Dv.isL] at hy
        · rw [List.getElem?_eq_none (by rw [List.length_set]; omega)] at e3
          cases e3
      · rw [List.getElem?_set_ne q2] at e3 e4
        exact r.apart j k a ds y hjk e1 e2 e3 hy e4
/-- a slot that is a list's lies in the heap -/
theorem SR.inH (r : SR Y K Z F H σ ρ n) {j : Nat} {y : Dv} {p : Addr} (e : ρ[j]? = some (some y)) (hy : y.isL = true) (e2 : σ[j]? = some (some (.ref p))) : H p ≠ none := by
  obtain ⟨v, e3, e4⟩ := r.slot j y e
  rw [e2] at e3; cases e3
  cases y with
  | dat _ => simp [Dv.isL] at hy
  | deck _ => simp [Dv.isL] at hy
  | md _ _ => simp [Dv.isL] at hy
  | vw ds =>
    obtain ⟨a, vs, q, h, _⟩ := e4
    cases q; rw [h]; nofun
  | mt ds =>
    obtain ⟨a, vs, q, _, _, h, _⟩ := e4
    cases q; rw [h]; nofun
/-- .. where it was made in an expression that began at Hs -/
theorem SR.fresh (r : SR Y K Z F H σ ρ n) {p : Addr} (h : H p = none) : Z.H0 p = none ∧ p ∉ Z.δ.own := by
  have n1 : p ∉ Z.δ.own := fun q => (r.b.dkF p q).2 h
  refine ⟨?_, n1⟩
  cases e : Z.H0 p with
  | none => rfl
  | some o => exact absurd h (r.b.gD p (by rw [e]; nofun))
theorem SR.setX (r0 : SR Y K Z F H σ ρ n) {F' H' : Hp} {n' : Wo} (r : SR Y K Z F' H' σ ρ n') (i : Nat) {x : Dv} {v : V} (hx : VX K H F' H' x v) : SR Y K Z F' H' (σ.set i (some v)) (ρ.set i (some x)) n' :=
  r.set i hx (fun p h => r0.fresh h) fun p h j y _ e hy e2 => r0.inH e hy e2 h
end
structure DEnds where
  nx : Rho → Wo → Prop
  rt : PyData → Wo → Prop
  bk : Rho → Wo → Prop := fun _ _ => False
  ct : Rho → Wo → Prop := fun _ _ => False
abbrev DTS := DEnds → Rho → Wo → Prop
structure EndsOk (Y : Fx) (K : PySem.W.Frag) (Z : Fx) (E : DEnds) (D : Ends) : Prop where
  nx : ∀ F H σ ρ n, E.nx ρ n → SR Y K Z F H σ ρ n → D.nx σ H
  rt : ∀ d n F H v, E.rt d n → Base K Z F H n → Rp K F d v → D.rt v H
  bk : ∀ F H σ ρ n, E.bk ρ n → SR Y K Z F H σ ρ n → D.bk σ H
  ct : ∀ F H σ ρ n, E.ct ρ n → SR Y K Z F H σ ρ n → D.ct σ H
def upS (Y : Fx) (K : PySem.W.Frag) (t : DTS) : TS := fun D σ H => ∃ Z F ρ n E, SR Y K Z F H σ ρ n ∧ t E ρ n ∧ EndsOk Y K Z E D
abbrev DS (Y : Fx) (X : Cx) (st : Stmt) (t : DTS) : Prop := PS X st (upS Y X.K t)
abbrev DSs (Y : Fx) (X : Cx) (st : List Stmt) (t : DTS) : Prop := PSs X st (upS Y X.K t)
def dSkip : DTS := fun E ρ n => E.nx ρ n
def dSeq (t u : DTS) : DTS := fun E ρ n => t { E with nx := u E } ρ n
theorem dss_nil : DSs Y X [] dSkip := pss_imp pss_nil fun D σ H ⟨Z, F, ρ, n, E, r, ht, k⟩ => k.nx _ _ _ _ _ ht r
theorem dss_cons {st : Stmt} {rest : List Stmt} {t u : DTS} (h1 : DS Y X st t) (h2 : DSs Y X rest u) : DSs Y X (st :: rest) (dSeq t u) :=
  pss_imp (pss_cons h1 h2) fun D σ H ⟨Z, F, ρ, n, E, r, ht, k⟩ => ⟨Z, F, ρ, n, _, r, ht, ⟨fun F' H' σ' ρ' n' h r' => ⟨Z, F', ρ', n', E, r', h, k⟩, k.rt, k.bk, k.ct⟩⟩
theorem dss_one {st : Stmt} {t : DTS} (h : DS Y X st t) : DSs Y X [st] t := pss_one h
def dRet (t : DTE) : DTS := fun E ρ n => t ρ n fun x n' => needD x fun d => E.rt d n'
theorem ds_ret {e : Expr} {t : DTE} {pos : Pos} (he : WE Y X e t) : DS Y X (.Return (some e) pos) (dRet t) :=
  ps_imp (ps_ret he) fun D σ H ⟨Z, F, ρ, n, E, r, ht, k⟩ => ⟨Z, F, ρ, n, _, r, ht, fun x n1 F1 H1 v hx g1 s1 d1 w1 => by
    obtain ⟨d, rfl, hx⟩ := needD_is hx
    exact k.rt _ _ _ _ _ hx (r.b.step g1 s1 d1) w1⟩
def dIfS (c : DTT) (t u : DTS) : DTS := fun E ρ n => c ρ n fun b n' => if b = true then t E ρ n' else u E ρ n'
theorem ds_if {c : Expr} {a b : List Stmt} {tc : DTT} {t u : DTS} {pos : Pos} (hc : WT Y X c tc) (ha : DSs Y X a t) (hb : DSs Y X b u) : DS Y X (.If c a b pos) (dIfS tc t u) :=
  ps_imp (ps_if hc ha hb) fun D σ H ⟨Z, F, ρ, n, E, r, ht, k⟩ => ⟨Z, F, ρ, n, _, r, ht, fun c n1 F1 H1 hx g1 s1 d1 => by
    cases c with
    | true => exact ⟨Z, F1, ρ, n1, E, r.step g1 s1 d1, hx, k⟩
    | false => exact ⟨Z, F1, ρ, n1, E, r.step g1 s1 d1, hx, k⟩⟩
/-- name = value -/
def dAsg (i : Nat) (t : DTE) : DTS := fun E ρ n => t ρ n fun x n' => E.nx (ρ.set i (some x)) n'
theorem asg_im {i : Nat} {K : PySem.W.Frag} {t : DTE} : ∀ D σ H, upS Y K (dAsg i t) D σ H → tAsg (upX Y K t) (gName i) D σ H := fun D σ H ⟨Z, F, ρ, n, E, r, ht, k⟩ =>
  ⟨Z, F, ρ, n, _, r, ht, fun x n1 F1 H1 v hx g1 s1 d1 w1 => k.nx _ _ _ _ _ hx (r.setX (r.step g1 s1 d1) i w1)⟩
theorem ds_set {i : Nat} {x : Str} {e : Expr} {t : DTE} {pos pos' : Pos} (hN : X.N.Nodup) (hi : X.N[i]? = some x) (hx : Loc X.env.scope x) (he : XE Y X e t) (hs : swapsWith e (some (.Name x pos')) pos.line X.env = pure false := by rfl)
    (hf : X.fn x = true ∨ X.env.scope.names.lookup x = some .local := by first | exact .inl rfl | exact .inr rfl | assumption) : DS Y X (.Assign [.Name x pos'] e pos) (dAsg i t) := ps_imp (ps_set hN hi hx he hs hf) asg_im
theorem SR.freeze {K : PySem.W.Frag} {Y Z : Fx} {F H : Hp} {σ : L2.St} {ρ : Rho} {n : Wo} (r : SR Y K Z F H σ ρ n) {j : Nat} {ds : List PyData} (e : ρ[j]? = some (some (.mt ds))) :
    ∃ F' a, σ[j]? = some (some (.ref a)) ∧ SR Y K Z F' H σ (ρ.set j (some (.dat (.list ds)))) n ∧ Rp K F' (.list ds) (.ref a) ∧ Same F F' := by
  obtain ⟨v, e1, a, vs, rfl, h0, hF, hH, hr, na⟩ := r.slot j _ e
  have s1 : Same F (upd F a (.lst vs)) := fun b o q => by rw [upd_ne (ne_of_none q hF)]; exact q
  have hrp : Rp K (upd F a (.lst vs)) (.list ds) (.ref a) := by
    simp only [Rp]
    exact ⟨a, vs, rfl, upd_same, Rps.mono s1 ds vs hr⟩
  refine ⟨upd F a (.lst vs), a, e1, ⟨⟨fun b o q => ?_, r.b.dk.fz hH rfl hF, fun b hb => ⟨?_, (r.b.dkF b hb).2⟩, r.b.gF.trans s1, fun b q1 q2 => ?_, r.b.gH, r.b.gI⟩, r.de, r.he, ⟨r.gr.sF.trans s1, fun b q1 q2 => by rw [upd_ne (fun z => q1 (by rw [z, ← r.he]; exact h0))]; exact r.gr.nF b q1 q2, r.gr.kH, r.gr.iH, r.gr.dH⟩, by simp [r.len], fun k y q => ?_, fun k l b es y hkl q1 q2 q3 hy q4 => ?_⟩, hrp, s1⟩
  · by_cases z : b = a
    · subst z; rw [upd_same] at q; cases q; exact hH
    · rw [upd_ne z] at q; exact r.b.sub _ _ q
  · rw [upd_ne (fun z => na (by rw [← z]; exact hb))]; exact (r.b.dkF b hb).1
  · rw [upd_ne (fun z => q1 (by rw [z]; exact h0))]; exact r.b.gN b q1 q2
  · by_cases z : j = k
    · subst z
      have hl : j < ρ.length := (List.getElem?_eq_some_iff.mp e).1
      rw [List.getElem?_set_self hl] at q
      cases q
      exact ⟨_, e1, hrp⟩
    · rw [List.getElem?_set_ne z] at q
      obtain ⟨w, w1, w2⟩ := r.slot k y q
      refine ⟨w, w1, ?_⟩
      cases y with
      | dat d => exact Rp.mono s1 d w w2
      | vw es =>
        obtain ⟨b, us, rfl, p1, p2, p3⟩ := w2
        exact ⟨b, us, rfl, p1, Rps.mono s1 es us p2, p3⟩
      | mt es =>
        obtain ⟨b, us, rfl, p1, p2, p3, p4, p5⟩ := w2
        refine ⟨b, us, rfl, p1, ?_, p3, Rps.mono s1 es us p4, p5⟩
        rw [upd_ne (fun zz => r.apart j k a ds (.mt es) z e e1 q rfl (by rw [w1, zz]))]; exact p2
      | deck _ => exact w2
      | md b ks =>
        obtain ⟨q1, q2, q3, q4, q5⟩ := w2
        refine ⟨q1, q2, ?_, q4, q5⟩
        rw [upd_ne (fun zz => by rw [zz, hH] at q4; cases q4)]; exact q3
  · by_cases z : j = k
    · subst z
      have hl : j < ρ.length := (List.getElem?_eq_some_iff.mp e).1
      rw [List.getElem?_set_self hl] at q1
      cases q1
    · rw [List.getElem?_set_ne z] at q1
      by_cases z2 : j = l
      · subst z2
        have hl : j < ρ.length := (List.getElem?_eq_some_iff.mp e).1
        rw [List.getElem?_set_self hl] at q3
        cases q3
        simp [Dv.isL] at hy
      · rw [List.getElem?_set_ne z2] at q3
        exact r.apart k l b es y hkl q1 q2 q3 hy q4
/-- a, b = x, y -/
def dPar (i j : Nat) (t u : DTE) : DTS := fun E ρ n => t ρ n fun x n1 => u ρ n1 fun y n2 => E.nx ((ρ.set i (some x)).set j (some y)) n2
theorem par_set {K : PySem.W.Frag} {Y Z : Fx} {F H F1 H1 F2 H2 : Hp} {σ : L2.St} {ρ : Rho} {n n1 n2 : Wo} {i j : Nat} {x y : Dv} {v w : V} (hij : i ≠ j) (r : SR Y K Z F H σ ρ n) (r1 : SR Y K Z F1 H1 σ ρ n1) (r2 : SR Y K Z F2 H2 σ ρ n2) (g : Gr Z.δ F1 H1 F2 H2)
    (hx : VX K H F1 H1 x v) (hy : VX K H1 F2 H2 y w) : SR Y K Z F2 H2 ((σ.set i (some v)).set j (some w)) ((ρ.set i (some x)).set j (some y)) n2 := by
  have hx2 : VX K H F2 H2 x v := hx.step (fun a ha => (r.b.dkF a ha).2) g
  refine (r.setX r2 i hx2).set (Hs := H1) j hy (fun p h => r1.fresh h) fun p h l z hl e hz e2 => ?_
  by_cases q : i = l
  · subst q
    by_cases hlt : i < ρ.length
    · rw [List.getElem?_set_self hlt] at e
      rw [List.getElem?_set_self (by rw [← r.len]; exact hlt)] at e2
      cases e; cases e2
      cases x with
      | dat _ => simp [Dv.isL] at hz
      | mt ds =>
        obtain ⟨p', vs, q1, _, _, q2, _⟩ := hx
        cases q1
        rw [q2] at h; cases h
      | vw _ => exact hx.elim
      | deck _ => exact hx.elim
      | md _ _ => simp [Dv.isL] at hz
    · rw [List.getElem?_eq_none (by rw [List.length_set]; omega)] at e
      cases e
  · rw [List.getElem?_set_ne q] at e e2
    exact r1.inH e hz e2 h
def upX2 (Y : Fx) (K : PySem.W.Frag) (t u : DTE) : TA := tCons (upX Y K t) (tCons (upX Y K u) tNil)
theorem xa_two {a b : Expr} {t u : DTE} (ha : XE Y X a t) (hb : XE Y X b u) (hs : starEach [a, b] X.env = (false, eval a X.env) :: starEach [b] X.env := by rfl) (hs2 : starEach [b] X.env = (false, eval b X.env) :: starEach [] X.env := by rfl) : PA X [a, b] (upX2 Y X.K t u) :=
  pa_cons ha (pa_cons hb pa_nil hs2) hs
theorem ds_par {i j : Nat} {x y : Str} {a b : Expr} {t u : DTE} {px py pt pos : Pos} {kt k2 pt2} (hc : X.calm = true) (hN : X.N.Nodup) (hi : X.N[i]? = some x) (hj : X.N[j]? = some y) (hij : i ≠ j)
    (hx : X.env.scope.names.lookup x = some .local) (hy : X.env.scope.names.lookup y = some .local) (ha : XE Y X a t) (hb : XE Y X b u)
    (hw : swappedStores [.Tuple [.Name x px, .Name y py] kt pt] (.Tuple [a, b] k2 pt2) X.env = pure (some [x, y]))
    (hs : swapsWithSole [.Tuple [.Name x px, .Name y py] kt pt] (.Tuple [a, b] k2 pt2) pos.line X.env = pure false := by rfl)
    (h1 : starEach [a, b] X.env = (false, eval a X.env) :: starEach [b] X.env := by rfl) (h2 : starEach [b] X.env = (false, eval b X.env) :: starEach [] X.env := by rfl) :
    DS Y X (.Assign [.Tuple [.Name x px, .Name y py] kt pt] (.Tuple [a, b] k2 pt2) pos) (dPar i j t u) :=
  ps_imp (ps_par hc hN hi hj hij hx hy (xa_two ha hb h1 h2) hw hs) fun D σ H ⟨Z, F, ρ, n, E, r, ht, k⟩ =>
    ⟨Z, F, ρ, n, _, r, ht, fun x1 n1 F1 H1 v hx g1 s1 d1 w1 => ⟨Z, F1, ρ, n1, _, r.step g1 s1 d1, hx, fun y1 n2 F2 H2 w hy g2 s2 d2 w2 =>
      ⟨v, w, rfl, k.nx _ _ _ _ _ hy (par_set hij r (r.step g1 s1 d1) ((r.step g1 s1 d1).step g2 s2 d2) g2 w1 w2)⟩⟩⟩
end DL
namespace DL
open PySem PySem.Spec PyProof.Rows L2
variable {X : Cx} {Y : Fx}
structure ItOk (K : PySem.W.Frag) (J : It) (F1 : Hp) (xs : List PyData) : Prop where
  go : ∀ (i : Nat) H, Same F1 H → i < xs.length → J.go i H
  stop : ∀ (i : Nat) H, Same F1 H → xs.length ≤ i → J.stop i H
  yld : ∀ (i : Nat) H v H' x, J.yld i H v H' → Same F1 H → xs[i]? = some x → (H' = H ∧ Rp K F1 x v) ∨ ∃ T us ds, v = .ref T ∧ H T = none ∧ H' = upd H T (.tup us) ∧ x = .tuple ds ∧ Rps K F1 ds us
abbrev DSrc := Rho → Wo → (List PyData → Wo → Prop) → Prop
def upI (Y : Fx) (K : PySem.W.Frag) (t : DSrc) : TI := fun σ H R => ∃ Z F ρ n Q, SR Y K Z F H σ ρ n ∧ t ρ n Q ∧
  ∀ xs n' F' H' J, Q xs n' → Gr Z.δ F H F' H' → Same F' H' → Z.δ.at_ K F' H' n' → ItOk K J F' xs → R J H'
abbrev DI (Y : Fx) (X : Cx) (tg iter : Expr) (t : DSrc) : Prop := PI X tg iter (upI Y X.K t)
theorem pi_imp {tg iter : Expr} {t t' : TI} (h : PI X tg iter t) (q : ∀ σ H R, t' σ H R → t σ H R) : PI X tg iter t' := ⟨fun p s σ H R I w => h.run p s σ H R I (q σ H R w)⟩
/-- what yields in a heap where the data stands -/
theorem ItOk.use {K : PySem.W.Frag} {J : It} {F1 F H H' : Hp} {xs : List PyData} {i : Nat} {v : V} {x : PyData} (k : ItOk K J F1 xs) (h1 : Same F1 F) (hs : Same F H) (hy : J.yld i H v H') (hx : xs[i]? = some x) :
    ∃ F', Gp F H F' H' ∧ Same F' H' ∧ Rp K F' x v := by
  rcases k.yld i H v H' x hy (h1.trans hs) hx with ⟨rfl, r⟩ | ⟨T, us, ds, rfl, hT, rfl, rfl, r⟩
  · exact ⟨F, Gp.refl, hs, Rp.mono h1 x v r⟩
  · obtain ⟨g, s⟩ := Gp.new (o := .tup us) hT hs
    refine ⟨_, g, s, ?_⟩
    simp only [Rp]
    exact ⟨T, us, rfl, .inl upd_same, Rps.mono (h1.trans g.sF) ds us r⟩
theorem itOk_list {K : PySem.W.Frag} {F : Hp} {a : Addr} {vs : List V} {ds : List PyData} (h : F a = some (.lst vs)) (r : Rps K F ds vs) : ItOk K (Itl K a) F ds where
  go := fun i H s hi => ⟨vs, vs[i]'(by rw [← r.length]; exact hi), SqL.of (s _ _ h), by simp⟩
  stop := fun i H s hi => ⟨vs, SqL.of (s _ _ h), by rw [← r.length]; exact hi⟩
  yld := fun i H v H' x ⟨e, y⟩ s hx => by
    have h1 := y vs (SqL.of (s _ _ h))
    obtain ⟨w, e1, e2⟩ := r.get hx
    rw [h1] at e1; cases e1
    exact .inl ⟨e, e2⟩
theorem itOk_tup {K : PySem.W.Frag} {F : Hp} {a : Addr} {vs : List V} {ds : List PyData} (h : Rd F a (.tup vs)) (r : Rps K F ds vs) : ItOk K (Itt K a) F ds where
  go := fun i H s hi => ⟨vs, vs[i]'(by rw [← r.length]; exact hi), sqtR (rdS s h), by simp⟩
  stop := fun i H s hi => ⟨vs, sqtR (rdS s h), by rw [← r.length]; exact hi⟩
  yld := fun i H v H' x ⟨e, y⟩ s hx => by
    have h1 := y vs (sqtR (rdS s h))
    obtain ⟨w, e1, e2⟩ := r.get hx
    rw [h1] at e1; cases e1
    exact .inl ⟨e, e2⟩
/-- range -/
def rngD (lo : Int) (n : Nat) : List PyData := (List.range n).map fun (k : Nat) => PyData.int (lo + k)
theorem rngD_length {lo : Int} {n : Nat} : (rngD lo n).length = n := by simp [rngD]
theorem rngD_get {lo : Int} {n i : Nat} {x : PyData} (h : (rngD lo n)[i]? = some x) : x = .int (lo + (i : Int)) ∧ i < n := by
  unfold rngD at h
  rw [List.getElem?_map] at h
  cases e : (List.range n)[i]? with
  | none => rw [e] at h; cases h
  | some j =>
    rw [e] at h
    have hi : i < n := by simpa using (List.getElem?_eq_some_iff.mp e).1
    rw [List.getElem?_range hi] at e
    cases e; cases h
    exact ⟨rfl, hi⟩
theorem itOk_rng {K : PySem.W.Frag} {F : Hp} {lo : Int} {n : Nat} : ItOk K (Itr lo n) F (rngD lo n) where
  go := fun i H s hi => by rw [rngD_length] at hi; exact hi
  stop := fun i H s hi => by rw [rngD_length] at hi; exact hi
  yld := fun i H v H' x ⟨e, y⟩ s hx => by
    obtain ⟨h1, _⟩ := rngD_get hx
    exact .inl ⟨e, by rw [h1, y]; simp [Rp]⟩
def dRng1 (t : DTA) : DSrc := fun ρ n R => t ρ n fun xs n' => ∃ j : Int, xs = [.dat (.int j)] ∧ -(2 ^ 62) ≤ j ∧ j < 2 ^ 62 ∧ R (rngD 0 j.toNat) n'
theorem vrs1 {K : PySem.W.Frag} {δ : DkS} {F H : Hp} {i : Int} {vs : List V} (h : VRs K δ F H [.dat (.int i)] vs) : vs = [.int i] := by
  cases h with
  | cons a b =>
    cases b
    simp only [VR, Rp] at a; rw [a]
theorem vrs2 {K : PySem.W.Frag} {δ : DkS} {F H : Hp} {i j : Int} {vs : List V} (h : VRs K δ F H [.dat (.int i), .dat (.int j)] vs) : vs = [.int i, .int j] := by
  cases h with
  | cons a b =>
    simp only [VR, Rp] at a; rw [a, vrs1 b]
theorem di_range1 {tg a : Expr} {t : DTA} {p pos : Pos} (hg : Gl X "range") (hm : X.mg "range" = none) (ha : WA Y X [a] t) (hs : starEach [a] X.env = [(false, eval a X.env)] := by rfl) : DI Y X tg (.Call (.Name "range" p) [a] [] pos) (dRng1 t) :=
  pi_imp (pi_range1 hg hm ha hs) fun σ H R ⟨Z, F, ρ, n, Q, r, ht, k⟩ => ⟨Z, F, ρ, n, _, r, ht, fun xs n1 F1 H1 vs ⟨j, e, l, u, hx⟩ g1 s1 d1 w1 => by
    subst e
    exact ⟨j, vrs1 w1, l, u, k _ _ _ _ _ hx g1 s1 d1 itOk_rng⟩⟩
/-- enumerate of a list, zip of two lists, of two tuples -/
def enumD (ds : List PyData) : List PyData := ds.zipIdx.map fun p => .tuple [.int (p.2 : Nat), p.1]
theorem enumD_length {ds : List PyData} : (enumD ds).length = ds.length := by simp [enumD]
theorem enumD_get {ds : List PyData} {i : Nat} {x : PyData} (h : (enumD ds)[i]? = some x) : ∃ d, ds[i]? = some d ∧ x = .tuple [.int (i : Nat), d] := by
  unfold enumD at h
  rw [List.getElem?_map, List.getElem?_zipIdx] at h
  cases e : ds[i]? with
  | none => rw [e] at h; cases h
  | some d =>
    rw [e] at h
    simp at h
    exact ⟨d, rfl, h.symm⟩
def zipD (ds es : List PyData) : List PyData := (ds.zip es).map fun p => .tuple [p.1, p.2]
theorem zipD_length {ds es : List PyData} : (zipD ds es).length = min ds.length es.length := by simp [zipD]
theorem zipD_get {ds es : List PyData} {i : Nat} {x : PyData} (h : (zipD ds es)[i]? = some x) : ∃ d e, ds[i]? = some d ∧ es[i]? = some e ∧ x = .tuple [d, e] := by
  unfold zipD at h
  rw [List.getElem?_map] at h
  cases q : (ds.zip es)[i]? with
  | none => rw [q] at h; cases h
  | some p =>
    rw [q] at h
    obtain ⟨h1, h2⟩ := List.getElem?_zip_eq_some.mp q
    simp at h
    exact ⟨p.1, p.2, h1, h2, h.symm⟩
theorem itOk_enum {K : PySem.W.Frag} {F : Hp} {a : Addr} {vs : List V} {ds : List PyData} (h : F a = some (.lst vs)) (r : Rps K F ds vs) : ItOk K (Ite K a) F (enumD ds) where
  go := fun i H s hi => by
    rw [enumD_length] at hi
    exact ⟨vs, vs[i]'(by rw [← r.length]; exact hi), SqL.of (s _ _ h), by simp⟩
  stop := fun i H s hi => ⟨vs, SqL.of (s _ _ h), by rw [← r.length, ← enumD_length]; exact hi⟩
  yld := fun i H v H' x ⟨T, y, e1, e2, e3, e4⟩ s hx => by
    obtain ⟨d, q1, q2⟩ := enumD_get hx
    obtain ⟨w, q3, q4⟩ := r.get q1
    rw [e4 vs (SqL.of (s _ _ h))] at q3; cases q3
    exact .inr ⟨T, _, _, e1, e2, e3, q2, rps_cons (by simp [Rp]) (rps_cons q4 rps_nil)⟩
abbrev DTG := PyData → Rho → (Rho → Prop) → Prop
structure GOk (K : PySem.W.Frag) (t : TG) (g : DTG) (sl : List Nat) : Prop where
  im : ∀ Y Z F H σ ρ n d v R Q, SR Y K Z F H σ ρ n → Rp K F d v → g d ρ R → (∀ σ' ρ', R ρ' → SR Y K Z F H σ' ρ' n → (∀ vs : List Nat, (∀ i ∈ sl, i ∈ vs) → wipe σ' vs = wipe σ vs) → Q σ' H) → t v σ H Q
def DG (X : Cx) (tg : Expr) (t : TG) (g : DTG) (sl : List Nat) : Prop := PG X tg t ∧ GOk X.K t g sl
def gN (i : Nat) : DTG := fun d ρ R => R (ρ.set i (some (.dat d)))
theorem wipe_set {σ : L2.St} {i : Nat} {x : Option V} : ∀ {vs : List Nat}, i ∈ vs → wipe (σ.set i x) vs = wipe σ vs
  | [], h => by simp at h
  | v :: vs, h => by
    unfold wipe
    by_cases q : i ∈ vs
    · rw [wipe_set q]
    · have e : i = v := by
        rcases List.mem_cons.mp h with e | e
        · exact e
        · exact absurd e q
      subst e
      have comm : ∀ us : List Nat, i ∉ us → wipe (σ.set i x) us = (wipe σ us).set i x := by
        intro us
        induction us with
        | nil => intro _; rfl
        | cons u us ih =>
          intro hu
          simp only [List.mem_cons, not_or] at hu
          unfold wipe
          rw [ih hu.2, List.set_comm _ _ hu.1]
      rw [comm vs q, List.set_set]
theorem gok_name {K : PySem.W.Frag} {i : Nat} : GOk K (gName i) (gN i) [i] := ⟨fun Y Z F H σ ρ n d v R Q r hr h k =>
  k _ _ h (r.set (Hs := H) i (x := .dat d) hr (fun p q => r.fresh q) fun p q l z _ e hz e2 => r.inH e hz e2 q) fun vs hv => wipe_set (hv i (by simp))⟩
def gT2 (i j : Nat) : DTG := fun d ρ R => ∃ a b, d = .tuple [a, b] ∧ R ((ρ.set i (some (.dat a))).set j (some (.dat b)))
theorem rps2 {K : PySem.W.Frag} {F : Hp} {a b : PyData} {vs : List V} (h : Rps K F [a, b] vs) : ∃ v w, vs = [v, w] ∧ Rp K F a v ∧ Rp K F b w := by
  simp only [Rps] at h
  obtain ⟨v, _, rfl, h1, w, _, rfl, h2, rfl⟩ := h
  exact ⟨v, w, rfl, h1, h2⟩
theorem rps3 {K : PySem.W.Frag} {F : Hp} {a b c : PyData} {vs : List V} (h : Rps K F [a, b, c] vs) : ∃ u v w, vs = [u, v, w] ∧ Rp K F a u ∧ Rp K F b v ∧ Rp K F c w := by
  simp only [Rps] at h
  obtain ⟨u, _, rfl, h0, v, _, rfl, h1, w, _, rfl, h2, rfl⟩ := h
  exact ⟨u, v, w, rfl, h0, h1, h2⟩
theorem SR.setD {K : PySem.W.Frag} {Y Z : Fx} {F H : Hp} {σ : L2.St} {ρ : Rho} {n : Wo} (r : SR Y K Z F H σ ρ n) (i : Nat) {d : PyData} {v : V} (h : Rp K F d v) : SR Y K Z F H (σ.set i (some v)) (ρ.set i (some (.dat d))) n :=
  r.set (Hs := H) i (x := .dat d) h (fun p q => r.fresh q) fun p q l z _ e hz e2 => r.inH e hz e2 q
theorem gok_two {K : PySem.W.Frag} {i j : Nat} : GOk K (gTup K 2 (gCons (gName i) (gCons (gName j) gNil))) (gT2 i j) [i, j] := ⟨fun Y Z F H σ ρ n d v R Q r hr h k => by
  obtain ⟨a, b, rfl, h⟩ := h
  simp only [Rp] at hr
  obtain ⟨p, xs, rfl, hp, hxs⟩ := hr
  obtain ⟨v, w, rfl, h1, h2⟩ := rps2 hxs
  refine ⟨p, _, rfl, sqtR (rdS r.b.sub hp), rfl, v, _, rfl, w, _, rfl, rfl, k _ _ h ((r.setD i h1).setD j h2) fun vs hv => ?_⟩
  rw [wipe_set (hv j (by simp)), wipe_set (hv i (by simp))]⟩
abbrev FStep := PyData → Rho → Wo → (Rho → Wo → Prop) → Prop
structure ForR (xs : List PyData) (ρ : Rho) (n : Wo) (step : FStep) (Q : Rho → Wo → Prop) : Prop where
  ex : ∃ I : Nat → Rho → Wo → Prop, I 0 ρ n ∧ (∀ (k : Nat) x ρ' n', xs[k]? = some x → I k ρ' n' → step x ρ' n' (I (k + 1))) ∧ ∀ ρ' n', I xs.length ρ' n' → Q ρ' n'
def dFor (s : DSrc) (g : DTG) (b : DTS) : DTS := fun E ρ n => s ρ n fun xs n1 => ForR xs ρ n1 (fun x ρ' n' K => g x ρ' fun ρ'' => b { E with nx := K, ct := K, bk := E.nx } ρ'' n') E.nx
theorem SR.base {K : PySem.W.Frag} {Y Z : Fx} {F0 H : Hp} {σ : L2.St} {ρ : Rho} {n : Wo} (r : SR Y K Z F0 H σ ρ n) : SR Y K { Z with F0 := F0 } F0 H σ ρ n :=
  ⟨⟨r.b.sub, r.b.dk, r.b.dkF, Same.refl _, fun a _ h => h, r.b.gH, r.b.gI⟩, r.de, r.he, r.gr, r.len, fun i x e => by
    obtain ⟨v, e1, e2⟩ := r.slot i x e
    refine ⟨v, e1, ?_⟩
    cases x <;> exact e2, r.apart⟩
theorem Base.back {K : PySem.W.Frag} {Z : Fx} {F1 H1 F H : Hp} {n1 n : Wo} (b1 : Base K Z F1 H1 n1) (b : Base K { Z with F0 := F1 } F H n) : Base K Z F H n :=
  ⟨b.sub, b.dk, b.dkF, b1.gF.trans b.gF, fun a h1 h2 => b.gN a h1 (b1.gN a h1 h2), b.gH, b.gI⟩
theorem SR.back {K : PySem.W.Frag} {Y Z : Fx} {F1 H1 F H : Hp} {σ : L2.St} {ρ : Rho} {n n1 : Wo} (b1 : Base K Z F1 H1 n1) (r : SR Y K { Z with F0 := F1 } F H σ ρ n) : SR Y K Z F H σ ρ n :=
  ⟨b1.back r.b, r.de, r.he, r.gr, r.len, fun i x e => by
    obtain ⟨v, e1, e2⟩ := r.slot i x e
    refine ⟨v, e1, ?_⟩
    cases x <;> exact e2, r.apart⟩
theorem ds_for {tg iter : Expr} {body : List Stmt} {s : DSrc} {t : TG} {g : DTG} {sl : List Nat} {b : DTS} {pos : Pos} (hp : PassesOwn (model X.prog X.w) X.A X.env X.xe) (hc : X.calm = true) (hi : DI Y X tg iter s) (hg : DG X tg t g sl) (hb : DSs Y X body b)
    (hs : ∀ x, foldedSetIterable iter X.env x = pure x := by intro _; rfl) : DS Y X (.For tg iter body [] pos) (dFor s g b) :=
  ps_imp (ps_for hp hc hi hg.1 hb hs) fun D σ H ⟨Z, F, ρ, n, E, r, ht, k⟩ => ⟨Z, F, ρ, n, _, r, ht, fun xs n1 F1 H1 J ⟨⟨I, h0, hstep, hend⟩⟩ g1 s1 d1 w1 => by
    have r1 := r.step g1 s1 d1
    refine ⟨fun i m σ H => m = xs.length - i ∧ i ≤ xs.length ∧ ∃ F' ρ' n', SR Y X.K { Z with F0 := F1 } F' H σ ρ' n' ∧ I i ρ' n', ⟨xs.length, by simp, Nat.zero_le _, F1, ρ, n1, r1.base, h0⟩, ?_⟩
    rintro i m σ2 H2 ⟨rfl, hi, F2, ρ2, n2, r2, h2⟩
    have sF : Same F1 F2 := r2.b.gF
    by_cases hlt : i < xs.length
    · refine .inr ⟨w1.go i H2 (sF.trans r2.b.sub) hlt, fun σ' H' => ∃ F' ρ' n', SR Y X.K { Z with F0 := F1 } F' H' σ' ρ' n' ∧ I (i + 1) ρ' n', fun σ' H' q => ⟨xs.length - (i + 1), by omega, rfl, hlt, q⟩, fun v H3 hy => ?_⟩
      obtain ⟨x, hx⟩ : ∃ x, xs[i]? = some x := ⟨xs[i], by simp [hlt]⟩
      obtain ⟨F3, g3, s3, r3⟩ := w1.use sF r2.b.sub hy hx
      have r2' := r2.step g3.gr s3 (g3.dk r2.b)
      refine hg.2.im _ _ _ _ _ _ _ _ _ _ _ r2' r3 (hstep i x ρ2 n2 hx h2) fun σ4 ρ4 h4 r4 _ => ?_
      refine ⟨_, F3, ρ4, n2, _, r4, h4, ⟨fun F5 H5 σ5 ρ5 n5 q r5 => ⟨F5, ρ5, n5, r5, q⟩, fun d n5 F5 H5 v5 q b5 => k.rt _ _ _ _ _ q (r1.b.back b5), fun F5 H5 σ5 ρ5 n5 q r5 => k.nx _ _ _ _ _ q (SR.back r1.b r5), fun F5 H5 σ5 ρ5 n5 q r5 => ⟨F5, ρ5, n5, r5, q⟩⟩⟩
    · have e : i = xs.length := by omega
      subst e
      exact .inl ⟨w1.stop _ H2 (sF.trans r2.b.sub) (Nat.le_refl _), k.nx _ _ _ _ _ (hend _ _ h2) (SR.back r1.b r2)⟩⟩
end DL
namespace DL
open PySem PySem.Spec PyProof.Rows L2
variable {X : Cx} {Y : Fx}
def wipeR (ρ : Rho) : List Nat → Rho
  | [] => ρ
  | v :: vs => (wipeR ρ vs).set v none
theorem wipeR_length (ρ : Rho) : ∀ vs : List Nat, (wipeR ρ vs).length = ρ.length
  | [] => rfl
  | v :: vs => by unfold wipeR; rw [List.length_set, wipeR_length ρ vs]
theorem wipeR_some {ρ : Rho} {i : Nat} {x : Dv} : ∀ {vs : List Nat}, (wipeR ρ vs)[i]? = some (some x) → ρ[i]? = some (some x) ∧ i ∉ vs
  | [], h => ⟨h, by simp⟩
  | v :: vs, h => by
    unfold wipeR at h
    by_cases hi : v = i
    · subst hi
      by_cases hv : v < (wipeR ρ vs).length
      · rw [List.getElem?_set_self hv] at h; cases h
      · rw [List.getElem?_eq_none (by simpa using hv)] at h; cases h
    · rw [List.getElem?_set_ne hi] at h
      obtain ⟨h1, h2⟩ := wipeR_some h
      exact ⟨h1, by simp only [List.mem_cons, not_or]; exact ⟨fun e => hi e.symm, h2⟩⟩
theorem SR.wipe {K : PySem.W.Frag} {Y Z : Fx} {F H : Hp} {σ : L2.St} {ρ : Rho} {n : Wo} (r : SR Y K Z F H σ ρ n) (vs : List Nat) : SR Y K Z F H (wipe σ vs) (wipeR ρ vs) n where
  b := r.b
  de := r.de
  he := r.he
  gr := r.gr
  len := by rw [wipe_length, wipeR_length, r.len]
  slot := fun i x e => by
    obtain ⟨e1, e2⟩ := wipeR_some e
    obtain ⟨v, e3, e4⟩ := r.slot i x e1
    exact ⟨v, by rw [wipe_out e2]; exact e3, e4⟩
  apart := fun i j a ds y hij e1 e2 e3 hy e4 =>
    r.apart i j a ds y hij (wipeR_some e1).1 (wipe_some e2).1 (wipeR_some e3).1 hy (wipe_some e4).1
theorem wipe_idem {σ : L2.St} : ∀ {vs : List Nat}, wipe (wipe σ vs) vs = wipe σ vs := by
  intro vs
  have sub : ∀ us : List Nat, (∀ i ∈ us, i ∈ vs) → wipe (wipe σ us) vs = wipe σ vs := by
    intro us
    induction us with
    | nil => intro _; rfl
    | cons u us ih =>
      intro h
      show wipe ((wipe σ us).set u none) vs = _
      rw [wipe_set (h u (by simp))]
      exact ih fun i hi => h i (by simp [hi])
  exact sub vs fun i h => h
abbrev CStep := PyData → List PyData → Wo → (List PyData → Wo → Prop) → Prop
structure CompR (xs : List PyData) (n : Wo) (step : CStep) (R : List PyData → Wo → Prop) : Prop where
  ex : ∃ I : Nat → List PyData → Wo → Prop, I 0 [] n ∧ (∀ (k : Nat) x acc m, xs[k]? = some x → I k acc m → step x acc m (I (k + 1))) ∧ ∀ acc m, I xs.length acc m → R acc m
def mComp (s : DSrc) (g : DTG) (tt : DTT) (te : DTE) (vs : List Nat) : DTM := fun ρ n R => s ρ n fun xs n1 => CompR xs n1 (fun x acc m K => g x (wipeR ρ vs) fun ρ' => tt ρ' m fun b m1 => if b = true then te ρ' m1 fun y m2 => needD y fun d => acc.length < sizeLine ∧ K (acc ++ [d]) m2 else K acc m1) R
abbrev WTs (Y : Fx) (X : Cx) (ifs : List Expr) (t : DTT) : Prop := PTs X ifs (upT Y X.K t)
theorem pts_imp {ifs : List Expr} {t t' : TT} (h : PTs X ifs t) (q : ∀ σ H Q, t' σ H Q → t σ H Q) : PTs X ifs t' := ⟨fun p s σ H Q I w => h.run p s σ H Q I (q σ H Q w)⟩
def dYes : DTT := fun _ n R => R true n
theorem wts_nil : WTs Y X [] dYes := pts_imp pts_nil fun σ H Q ⟨Z, F, ρ, n, R, r, hr, k⟩ => k _ _ _ _ hr Gr.refl r.b.sub r.b.dk
theorem wts_one {c : Expr} {t : DTT} (h : WT Y X c t) : WTs Y X [c] t := pts_one h
/-- .. as data, as a list of one's own -/
theorem lc_dat {K : PySem.W.Frag} {t : DTM} : ∀ σ H Q, upX Y K (xD (dOfM t)) σ H Q → upM Y K t σ H Q := fun σ H Q ⟨Z, F, ρ, n, R, r, ht, k⟩ => ⟨Z, F, ρ, n, _, r, ht, fun ds n1 F1 H1 p vs hx g1 s1 d1 a b c d => by
  obtain ⟨g2, s2, r2⟩ := freeze g1 s1 a b c d
  exact k _ _ _ _ _ hx g2 s2 (d1.fz c rfl b) r2⟩
theorem SR.mut {K : PySem.W.Frag} {Y Z : Fx} {F H : Hp} {σ : L2.St} {ρ : Rho} {n : Wo} (r : SR Y K Z F H σ ρ n) {i : Nat} {ds es : List PyData} {a : Addr} {us : List V} (e : ρ[i]? = some (some (.mt ds))) (e1 : σ[i]? = some (some (.ref a))) (hr : Rps K F es us) :
    SR Y K Z F (upd H a (.lst us)) σ (ρ.set i (some (.mt es))) n := by
  obtain ⟨v, q1, a', ws, rfl, h0, hF, hH, hrr, na⟩ := r.slot i _ e
  rw [e1] at q1; cases q1
  have hi : i < ρ.length := (List.getElem?_eq_some_iff.mp e).1
  have hk : ∀ b o, b ≠ a → H b = some o → upd H a (.lst us) b = some o := fun b o q h => by rw [upd_ne q]; exact h
  refine ⟨⟨fun b o q => hk b o (ne_of_none q hF) (r.b.sub _ _ q), r.b.dk.chg na hH rfl, fun b hb => ⟨(r.b.dkF b hb).1, by rw [upd_ne fun q => na (by rw [← q]; exact hb)]; exact (r.b.dkF b hb).2⟩, r.b.gF, r.b.gN, fun b o q1 q2 q3 => hk b o (ne_of_none q2 h0) (r.b.gH b o q1 q2 q3), fun b C dx fs q => by rw [upd_ne (ne_of_none q h0)]; exact r.b.gI b C dx fs q⟩, r.de, r.he, r.gr.chg (by rw [← r.he]; exact h0), by simp [r.len], fun j y q => ?_, fun j l b ds' y hjl q1 q2 q3 hy q4 => ?_⟩
  · by_cases z : i = j
    · subst z
      rw [List.getElem?_set_self hi] at q
      cases q
      exact ⟨_, e1, a, us, rfl, h0, hF, upd_same, hr, na⟩
    · rw [List.getElem?_set_ne z] at q
      obtain ⟨w, w1, w2⟩ := r.slot j y q
      refine ⟨w, w1, ?_⟩
      cases y with
      | dat d => exact w2
      | vw es' =>
        obtain ⟨b, us', rfl, p1, p2, p3⟩ := w2
        exact ⟨b, us', rfl, hk b _ (fun zz => r.apart i j a ds (.vw es') z e e1 q rfl (by rw [w1, zz])) p1, p2, p3⟩
      | mt es' =>
        obtain ⟨b, us', rfl, p1, p2, p3, p4, p5⟩ := w2
        exact ⟨b, us', rfl, p1, p2, hk b _ (fun zz => r.apart i j a ds (.mt es') z e e1 q rfl (by rw [w1, zz])) p3, p4, p5⟩
      | deck _ => exact w2
      | md b ks =>
        obtain ⟨q1, q2, q3, q4, q5⟩ := w2
        exact ⟨q1, q2, q3, hk b _ (fun zz => by rw [zz, hH] at q4; cases q4) q4, q5⟩
  · have old : ∀ (k : Nat) (x : Dv), (ρ.set i (some (.mt es)))[k]? = some (some x) → x.isL = true → ∃ x', ρ[k]? = some (some x') ∧ x'.isL = true ∧ (∀ ds', x = .mt ds' → ∃ ds'', x' = .mt ds'') := fun k x q hx => by
      by_cases z : i = k
      · subst z
        rw [List.getElem?_set_self hi] at q
        cases q
        exact ⟨_, e, rfl, fun _ _ => ⟨_, rfl⟩⟩
      · rw [List.getElem?_set_ne z] at q
        exact ⟨x, q, hx, fun ds' h => ⟨ds', h⟩⟩
    obtain ⟨x1, p1, p2, p3⟩ := old j _ q1 rfl
    obtain ⟨ds'', rfl⟩ := p3 _ rfl
    obtain ⟨x2, p4, p5, _⟩ := old l _ q3 hy
    exact r.apart j l b ds'' x2 hjl p1 q2 p4 p5 q4
/-- the list in slot i -/
def atMt (i : Nat) (ρ : Rho) (R : List PyData → Prop) : Prop := ∃ ds, ρ[i]? = some (some (.mt ds)) ∧ R ds
def dApp (i : Nat) (t : DTE) : DTS := fun E ρ n => atMt i ρ fun ds => t ρ n fun x n' => needD x fun d => ds.length < sizeLine ∧ E.nx (ρ.set i (some (.mt (ds ++ [d])))) n'
theorem SR.own {K : PySem.W.Frag} {Y Z : Fx} {F H : Hp} {σ : L2.St} {ρ : Rho} {n : Wo} (r : SR Y K Z F H σ ρ n) {i : Nat} {ds : List PyData} (e : ρ[i]? = some (some (.mt ds))) : ∃ a vs, σ[i]? = some (some (.ref a)) ∧ H a = some (.lst vs) ∧ Rps K F ds vs := by
  obtain ⟨v, q1, a, ws, rfl, h0, hF, hH, hrr, na⟩ := r.slot i _ e
  exact ⟨a, ws, q1, hH, hrr⟩
section
variable {i : Nat} {o e : Expr} {t : DTE} {apos cpos pos : Pos}
theorem ds_append (ho : PE X o (tVar i)) (he : WE Y X e t)
    (hbase : attributeBase o "append" X.env (eval o X.env) = eval o X.env := by rfl)
    (hfew : ((backTo cpos (starEach [e] X.env)).all (fun x => !x.1) && (backToKw cpos (keywordEach [] X.env)).all (fun x => x.1.isSome)
      && decide (([e] : List Expr).length + ([] : List Keyword).length + (if ([] : List Keyword).isEmpty then 0 else 1) < 30)) = true := by rfl)
    (hline : (apos.endLine == cpos.line) = true := by rfl) (hst : starEach [e] X.env = (false, eval e X.env) :: starEach [] X.env := by rfl) (hplain : (backTo cpos (starEach [] X.env)).any (·.1) = false := by rfl)
    (hs : swapsWith (.Call (.Attribute o "append" apos) [e] [] cpos) none pos.line X.env = pure false := by rfl) : DS Y X (.Expr (.Call (.Attribute o "append" apos) [e] [] cpos) pos) (dApp i t) :=
  ps_imp (ps_expr (pe_bm PySem.F.plainAttrs_list PySem.F.slot_list_append PySem.F.type_list_append mt_append ho (pa_cons he pa_nil hst) hbase hfew hline hst hplain) hs) fun D σ H ⟨Z, F, ρ, n, E, r, ⟨ds, e0, ht⟩, k⟩ => by
    obtain ⟨a, vs, q1, q2, q3⟩ := r.own e0
    refine ⟨_, q1, .inl ⟨rfl, vs, SqL.of q2⟩, Z, F, ρ, n, _, r, ht, fun x n1 F1 H1 v hx g1 s1 d1 w1 => ?_⟩
    obtain ⟨d, rfl, hl, hx⟩ := needD_is hx
    have r1 := r.step g1 s1 d1
    obtain ⟨a', vs', q4, q5, q6⟩ := r1.own e0
    rw [q1] at q4; cases q4
    exact ⟨a, vs', _, rfl, rfl, q5, by rw [← q6.length]; exact hl, k.nx _ _ _ _ _ hx (r1.mut e0 q1 (q6.append (rps_cons w1 rps_nil)))⟩
/-- x.remove(k) of ints -/
def dRem (i : Nat) (t : DTE) : DTS := fun E ρ n => atMt i ρ fun ds => t ρ n fun x n' => ∃ (ns : List Int) (k : Int), ds = ns.map PyData.int ∧ x = .dat (.int k) ∧ k ∈ ns ∧ E.nx (ρ.set i (some (.mt ((ns.erase k).map PyData.int)))) n'
theorem first_at {ns : List Int} {k : Int} (h : k ∈ ns) : ∃ j, ns[j]? = some k ∧ (∀ m : Nat, m < j → ns[m]? ≠ some k) ∧ ns.eraseIdx j = ns.erase k := by
  induction ns with
  | nil => simp at h
  | cons a r ih =>
    by_cases e : a = k
    · subst e
      exact ⟨0, rfl, fun m hm => absurd hm (Nat.not_lt_zero _), by simp⟩
    · have hr : k ∈ r := by
        rcases List.mem_cons.mp h with q | q
        · exact absurd q.symm e
        · exact q
      obtain ⟨j, h1, h2, h3⟩ := ih hr
      refine ⟨j + 1, by simpa using h1, fun m hm => ?_, ?_⟩
      · cases m with
        | zero => simpa using e
        | succ m => simpa using h2 m (by omega)
      · rw [List.eraseIdx_cons_succ, h3, List.erase_cons_tail (by simpa using e)]
theorem ds_remove (ho : PE X o (tVar i)) (he : WE Y X e t)
    (hbase : attributeBase o "remove" X.env (eval o X.env) = eval o X.env := by rfl)
    (hfew : ((backTo cpos (starEach [e] X.env)).all (fun x => !x.1) && (backToKw cpos (keywordEach [] X.env)).all (fun x => x.1.isSome)
      && decide (([e] : List Expr).length + ([] : List Keyword).length + (if ([] : List Keyword).isEmpty then 0 else 1) < 30)) = true := by rfl)
    (hline : (apos.endLine == cpos.line) = true := by rfl) (hst : starEach [e] X.env = (false, eval e X.env) :: starEach [] X.env := by rfl) (hplain : (backTo cpos (starEach [] X.env)).any (·.1) = false := by rfl)
    (hs : swapsWith (.Call (.Attribute o "remove" apos) [e] [] cpos) none pos.line X.env = pure false := by rfl) : DS Y X (.Expr (.Call (.Attribute o "remove" apos) [e] [] cpos) pos) (dRem i t) :=
  ps_imp (ps_expr (pe_bm PySem.F.plainAttrs_list PySem.F.slot_list_remove PySem.F.type_list_remove mt_remove ho (pa_cons he pa_nil hst) hbase hfew hline hst hplain) hs) fun D σ H ⟨Z, F, ρ, n, E, r, ⟨ds, e0, ht⟩, k⟩ => by
    obtain ⟨a, vs, q1, q2, q3⟩ := r.own e0
    refine ⟨_, q1, .inl ⟨rfl, vs, SqL.of q2⟩, Z, F, ρ, n, _, r, ht, fun x n1 F1 H1 v ⟨ns, z, e1, e2, hm, hx⟩ g1 s1 d1 w1 => ?_⟩
    subst e1 e2
    simp only [VR, Rp] at w1
    subst w1
    have r1 := r.step g1 s1 d1
    obtain ⟨a', vs', q4, q5, q6⟩ := r1.own e0
    rw [q1] at q4; cases q4
    rw [q6.ints] at q5
    obtain ⟨j, h1, h2, h3⟩ := first_at hm
    refine ⟨a, ns, z, j, rfl, rfl, q5, h1, h2, ?_⟩
    rw [h3]
    exact k.nx _ _ _ _ _ hx (r1.mut e0 q1 (rps_ints _))
theorem Rps.set {K : PySem.W.Frag} {F : Hp} : ∀ {ds : List PyData} {vs : List V} (j : Nat) {d : PyData} {v : V}, Rps K F ds vs → Rp K F d v → Rps K F (ds.set j d) (vs.set j v)
  | [], _, _, _, _, h, _ => by simp only [Rps] at h; subst h; simp [Rps]
  | d :: ds, _, 0, d', v', h, h' => by
    simp only [Rps] at h
    obtain ⟨v, r, rfl, h1, h2⟩ := h
    exact rps_cons h' h2
  | d :: ds, _, j + 1, d', v', h, h' => by
    simp only [Rps] at h
    obtain ⟨v, r, rfl, h1, h2⟩ := h
    exact rps_cons h1 (Rps.set j h2 h')
end
end DL
namespace DL
open PySem PySem.Spec PyProof.Rows L2
variable {X : Cx} {Y : Fx}
abbrev DC := List Dv → (PyData → Prop) → Prop
def CallOk (K : PySem.W.Frag) (r : List V → Hp → VK → Prop) (o : DC) : Prop := ∀ δ F H xs vs R Q, Same F H → VRs K δ F H xs vs → o xs R → Back K F H R Q → r vs H Q
def dCall (o : DC) (t : DTA) : DTE := fun ρ n R => t ρ n fun xs n1 => o xs fun d => R (.dat d) n1
theorem cal {K : PySem.W.Frag} {r : List V → Hp → VK → Prop} {o : DC} {t : DTA} (ho : CallOk K r o) : ∀ σ H Q, up Y K (dCall o t) σ H Q → tCB r (upA Y K t) σ H Q := fun σ H Q ⟨Z, F, ρ, n, R, s, ht, k⟩ =>
  ⟨Z, F, ρ, n, _, s, ht, fun xs n1 F1 H1 vs hx g1 s1 d1 w1 => ho Z.δ F1 H1 xs vs _ Q s1 w1 hx fun d F2 H2 v2 h2 g2 s2 w2 =>
    k _ _ _ _ _ h2 (g1.trans g2.gr) s2 (g2.dk ((s.step g1 s1 d1).b)) w2⟩
section
variable {x : Str} {p pos : Pos} {e : Expr} {es : List Expr} {id T : String} {r : List V → Hp → VK → Prop} {o : DC} {t : DTA}
theorem we_callB (hc : CallR X (.builtin id) r) (ho : CallOk X.K r o) (hg : Gl X x) (hm : X.mg x = none) (hv : bootBuiltins x = some (.builtin id)) (ha : WA Y X (e :: es) t) (hn : x ≠ "__name__" := by decide) (hdb : (x == ("__debug__" : Str)) = false := by decide)
    (he : starEach (e :: es) X.env = (false, eval e X.env) :: starEach es X.env := by rfl) (hpl : (backTo pos (starEach es X.env)).any (·.1) = false := by rfl) : WE Y X (.Call (.Name x p) (e :: es) [] pos) (dCall o t) :=
  pe_imp (pe_callB hc hg hm hv ha hn hdb he hpl) (cal ho)
theorem we_callTy (hc : CallR X (.type T) r) (ho : CallOk X.K r o) (hg : Gl X x) (hm : X.mg x = none) (hv : bootBuiltins x = some (.type T)) (ha : WA Y X (e :: es) t) (hn : x ≠ "__name__" := by decide) (hdb : (x == ("__debug__" : Str)) = false := by decide)
    (he : starEach (e :: es) X.env = (false, eval e X.env) :: starEach es X.env := by rfl) (hpl : (backTo pos (starEach es X.env)).any (·.1) = false := by rfl) : WE Y X (.Call (.Name x p) (e :: es) [] pos) (dCall o t) :=
  pe_imp (pe_callTy hc hg hm hv ha hn hdb he hpl) (cal ho)
abbrev DCM := List Dv → (List PyData → Prop) → Prop
def CallOkM (K : PySem.W.Frag) (r : List V → Hp → VK → Prop) (o : DCM) : Prop := ∀ δ F H xs vs R Q, Same F H → VRs K δ F H xs vs → o xs R → (∀ ds us p, R ds → H p = none → Rps K F ds us → Q (.ref p) (upd H p (.lst us))) → r vs H Q
def mCall (o : DCM) (t : DTA) : DTM := fun ρ n R => t ρ n fun xs n1 => o xs fun d => R d n1
theorem calM {K : PySem.W.Frag} {r : List V → Hp → VK → Prop} {o : DCM} {t : DTA} (ho : CallOkM K r o) : ∀ σ H Q, upM Y K (mCall o t) σ H Q → tCB r (upA Y K t) σ H Q := fun σ H Q ⟨Z, F, ρ, n, R, s, ht, k⟩ =>
  ⟨Z, F, ρ, n, _, s, ht, fun xs n1 F1 H1 vs hx g1 s1 d1 w1 => ho Z.δ F1 H1 xs vs _ Q s1 w1 hx fun ds us p h2 hp hr => by
    obtain ⟨g2, s2⟩ := Gp.newM (o := .lst us) hp s1
    have hp0 : H p = none := by
      cases e : H p with
      | none => rfl
      | some o => exact absurd hp (g1.dH p (by rw [e]; nofun))
    exact k _ _ _ _ _ _ h2 (g1.trans g2.gr) s2 (g2.dk ((s.step g1 s1 d1).b)) hp0 (s1.free hp) upd_same hr⟩
theorem me_callB (hc : CallR X (.builtin id) r) {o : DCM} (ho : CallOkM X.K r o) (hg : Gl X x) (hm : X.mg x = none) (hv : bootBuiltins x = some (.builtin id)) (ha : WA Y X (e :: es) t) (hn : x ≠ "__name__" := by decide) (hdb : (x == ("__debug__" : Str)) = false := by decide)
    (he : starEach (e :: es) X.env = (false, eval e X.env) :: starEach es X.env := by rfl) (hpl : (backTo pos (starEach es X.env)).any (·.1) = false := by rfl) : ME Y X (.Call (.Name x p) (e :: es) [] pos) (mCall o t) :=
  pe_imp (pe_callB hc hg hm hv ha hn hdb he hpl) (calM ho)
theorem me_callTy (hc : CallR X (.type T) r) {o : DCM} (ho : CallOkM X.K r o) (hg : Gl X x) (hm : X.mg x = none) (hv : bootBuiltins x = some (.type T)) (ha : WA Y X (e :: es) t) (hn : x ≠ "__name__" := by decide) (hdb : (x == ("__debug__" : Str)) = false := by decide)
    (he : starEach (e :: es) X.env = (false, eval e X.env) :: starEach es X.env := by rfl) (hpl : (backTo pos (starEach es X.env)).any (·.1) = false := by rfl) : ME Y X (.Call (.Name x p) (e :: es) [] pos) (mCall o t) :=
  pe_imp (pe_callTy hc hg hm hv ha hn hdb he hpl) (calM ho)
end
section
variable {K : PySem.W.Frag}
theorem vr1 {δ : DkS} {F H : Hp} {x : Dv} {vs : List V} (h : VRs K δ F H [x] vs) : ∃ v, vs = [v] ∧ VR K δ F H x v := by
  cases h with
  | cons a b => cases b; exact ⟨_, rfl, a⟩
theorem vr2 {δ : DkS} {F H : Hp} {x y : Dv} {vs : List V} (h : VRs K δ F H [x, y] vs) : ∃ v w, vs = [v, w] ∧ VR K δ F H x v ∧ VR K δ F H y w := by
  cases h with
  | cons a b =>
    obtain ⟨w, rfl, h2⟩ := vr1 b
    exact ⟨_, w, rfl, a, h2⟩
/-- a sequence's items, whichever it is -/
def seqD : PyData → Option (List PyData)
  | .list ds => some ds
  | .tuple ds => some ds
  | _ => none
theorem VR.seq {δ : DkS} {F H : Hp} {x : Dv} {v : V} {ds : List PyData} (hs : Same F H) (h : VR K δ F H x v) (e : seqD x.toD = some ds) : ∃ a vs, v = .ref a ∧ (H a = some (.lst vs) ∨ Rd H a (.tup vs)) ∧ Rps K F ds vs := by
  cases q : x.toD with
  | list es =>
    rw [q] at e; cases e
    obtain ⟨a, l, e1, e2, e3⟩ := h.lst hs q
    exact ⟨a, l, e1, .inl e2, e3⟩
  | tuple es =>
    rw [q] at e; cases e
    obtain ⟨a, l, e1, e2, e3⟩ := h.tpl hs q
    exact ⟨a, l, e1, .inr (rdS hs e2), e3⟩
  | _ => rw [q] at e; cases e
def oLen : DC := fun xs R => ∃ x ds, xs = [x] ∧ seqD x.toD = some ds ∧ R (.int ds.length)
theorem ck_len : CallOk K (fun xs H Q => ∃ p ys, xs = [.ref p] ∧ (SqL K H p ys ∨ SqT K H p ys) ∧ Q (.int ys.length) H) oLen := fun δ F H xs vs R Q hs hv ⟨x, ds, e, e2, hr⟩ b => by
  subst e
  obtain ⟨v, rfl, h1⟩ := vr1 hv
  obtain ⟨a, us, rfl, h2, h3⟩ := h1.seq hs e2
  exact ⟨a, us, rfl, h2.imp SqL.of sqtR, b.int hs (by rw [← h3.length]; exact hr)⟩
/-- tuple(x), list(x) -/
def oTuple : DC := fun xs R => ∃ x ds, xs = [x] ∧ seqD x.toD = some ds ∧ R (.tuple ds)
theorem ck_tuple : CallOk K (fun xs H Q => ∃ p ys, xs = [.ref p] ∧ ((SqL K H p ys ∧ ∀ l, H l = none → Q (.ref l) (upd H l (.tup ys))) ∨ (SqT K H p ys ∧ Q (.ref p) H))) oTuple := fun δ F H xs vs R Q hs hv ⟨x, ds, e, e2, hr⟩ b => by
  subst e
  obtain ⟨v, rfl, h1⟩ := vr1 hv
  cases q : x.toD with
  | list es =>
    rw [q] at e2; cases e2
    obtain ⟨a, l, rfl, e2, e3⟩ := h1.lst hs q
    exact ⟨a, l, rfl, .inl ⟨SqL.of e2, fun p hp => b.tup hs hr e3 hp⟩⟩
  | tuple es =>
    rw [q] at e2; cases e2
    obtain ⟨a, l, rfl, e2, e3⟩ := h1.tpl hs q
    exact ⟨a, l, rfl, .inr ⟨sqtR (rdS hs e2), b.here hs hr (by simp only [Rp]; exact ⟨a, l, rfl, e2, e3⟩)⟩⟩
  | _ => rw [q] at e2; cases e2
def oList : DCM := fun xs R => ∃ x ds, xs = [x] ∧ seqD x.toD = some ds ∧ R ds
theorem ck_list : CallOkM K (fun xs H Q => ∃ p ys, xs = [.ref p] ∧ (SqL K H p ys ∨ SqT K H p ys) ∧ ∀ l, H l = none → Q (.ref l) (upd H l (.lst ys))) oList := fun δ F H xs vs R Q hs hv ⟨x, ds, e, e2, hr⟩ b => by
  subst e
  obtain ⟨v, rfl, h1⟩ := vr1 hv
  obtain ⟨a, us, rfl, h2, h3⟩ := h1.seq hs e2
  exact ⟨a, us, rfl, h2.imp SqL.of sqtR, fun p hp => b _ _ _ hr hp h3⟩
/-- sorted of ints -/
def oSortI : DCM := fun xs R => ∃ x, ∃ ns : List Int, xs = [x] ∧ x.toD = .list (ns.map .int) ∧ ∀ ns' : List Int, ns'.Perm ns → ns'.Pairwise (· ≤ ·) → R (ns'.map .int)
theorem ck_sortI : CallOkM K (rSortedI K) oSortI := fun δ F H xs vs R Q hs hv ⟨x, ns, e, e2, hr⟩ b => by
  subst e
  obtain ⟨v, rfl, h1⟩ := vr1 hv
  obtain ⟨a, us, rfl, h2, h3⟩ := h1.lst hs e2
  rw [h3.ints] at h2
  exact ⟨a, ns, rfl, SqL.of h2, fun ns' p k1 k2 hp => b _ _ _ (hr ns' k1 k2) hp (rps_ints ns')⟩
/-- all, any of bools -/
def oAll : DC := fun xs R => ∃ x, ∃ bs : List Bool, xs = [x] ∧ x.toD = .list (bs.map .bool) ∧ R (.bool (bs.all id))
theorem Rps.bools {F : Hp} : ∀ {bs : List Bool} {vs : List V}, Rps K F (bs.map PyData.bool) vs → vs = bs.map V.bl
  | [], _, h => by simpa only [List.map_nil, Rps] using h
  | n :: ns, _, h => by
    simp only [List.map_cons, Rps, Rp] at h
    obtain ⟨v, r, rfl, rfl, h2⟩ := h
    rw [Rps.bools h2]; rfl
theorem ck_all : CallOk K (rAll K) oAll := fun δ F H xs vs R Q hs hv ⟨x, bs, e, e2, hr⟩ b => by
  subst e
  obtain ⟨v, rfl, h1⟩ := vr1 hv
  obtain ⟨a, us, rfl, h2, h3⟩ := h1.lst hs e2
  rw [h3.bools] at h2
  exact ⟨a, bs, rfl, SqL.of h2, b.bl hs hr⟩
end
abbrev DRg := Rho → Wo → (Int → Int → Wo → Prop) → Prop
def dRg1 (t : DTE) : DRg := fun ρ n R => t ρ n fun x n1 => ∃ j : Int, x = .dat (.int j) ∧ R 0 j n1
def upR (Y : Fx) (K : PySem.W.Frag) (t : DRg) : L2.St → Hp → (Int → Int → Hp → Prop) → Prop := fun σ H Q => ∃ Z F ρ n R, SR Y K Z F H σ ρ n ∧ t ρ n R ∧
  ∀ i j n' F' H', R i j n' → Gr Z.δ F H F' H' → Same F' H' → Z.δ.at_ K F' H' n' → Q i j H'
abbrev WR (Y : Fx) (X : Cx) (e : Expr) (t : DRg) : Prop := PRg X e (upR Y X.K t)
theorem wr_1 {a : Expr} {t : DTE} {p pos : Pos} (hg : Gl X "range") (hm : X.mg "range" = none) (ha : WE Y X a t) (na : starEach [a] X.env = (false, eval a X.env) :: starEach [] X.env := by rfl) : WR Y X (.Call (.Name "range" p) [a] [] pos) (dRg1 t) := by
  intro pins s σ H Q I ⟨Z, F, ρ, n, R, r, ht, k⟩
  refine prg_1 hg hm ha na pins s σ H Q I ⟨Z, F, ρ, n, _, r, ht, fun x n1 F1 H1 v ⟨j, e, hx⟩ g1 s1 d1 w1 => ?_⟩
  subst e
  simp only [VR, Rp] at w1
  exact ⟨j, w1, k _ _ _ _ _ hx g1 s1 d1⟩
theorem rps_rng {K : PySem.W.Frag} {F : Hp} (a b : Int) : Rps K F (rngD a (b - a).toNat) (rgV a b) := by
  have h := rps_ints (K := K) (F := F) ((List.range (b - a).toNat).map fun (k : Nat) => a + (k : Int))
  rw [List.map_map, List.map_map] at h
  exact h
def dTupRg (t : DRg) : DTE := fun ρ n R => t ρ n fun i j n1 => RgOk i j ∧ R (.dat (.tuple (rngD i (j - i).toNat))) n1
theorem we_tupRg {e : Expr} {t : DRg} {p pos : Pos} (hc : X.calm = true) (hg : Gl X "tuple") (hm : X.mg "tuple" = none) (he : WR Y X e t) (na : starEach [e] X.env = (false, eval e X.env) :: starEach [] X.env := by rfl) : WE Y X (.Call (.Name "tuple" p) [e] [] pos) (dTupRg t) :=
  pe_imp (pe_tupRg hc hg hm he na) fun σ H Q ⟨Z, F, ρ, n, R, r, ht, k⟩ => ⟨Z, F, ρ, n, _, r, ht, fun i j n1 F1 H1 ⟨h1, h2⟩ g1 s1 d1 => ⟨h1, fun q hq => by
    obtain ⟨g2, s2⟩ := Gp.new (o := .tup (rgV i j)) hq s1
    refine k _ _ _ _ _ h2 (g1.trans g2.gr) s2 (g2.dk ((r.step g1 s1 d1).b)) ?_
    simp only [VR, Rp]
    exact ⟨q, _, rfl, .inl upd_same, rps_rng i j⟩⟩⟩
structure FnG (P : Program) (w : World) (K : PySem.W.Frag) (mg : Str → Option Value) (base : Heap) (k : Nat) (f : Addr) (fd : FuncData) (ps : List Str) (sp : Sp) : Prop where
  len : ∀ vs H Q E, sp vs H Q E → vs.length = ps.length
  run : ∀ (A : Around) (outer : List Env) (s : Shared) (H : Hp) (args : Args) (us : List Value) (vs : List V) (Q : VK), A.guards = some [] → Room k A → Env0 P w K mg base A outer s H →
    BindsTo s fd args (ps.zip us) → Vals vs us → sp vs H Q E0 → codeAny (model P w) A (.call (.ref f) args) (CR CX0 outer P w H s Q E0) s
theorem FnG.mono {P : Program} {w : World} {K : PySem.W.Frag} {mg : Str → Option Value} {base : Heap} {j k : Nat} {f : Addr} {fd : FuncData} {ps : List Str} {sp : Sp} (F : FnG P w K mg base j f fd ps sp) (h : j ≤ k) : FnG P w K mg base k f fd ps sp :=
  ⟨F.len, fun A outer s H args us vs Q hg hr => F.run A outer s H args us vs Q hg (hr.mono h)⟩
/-- a def, by its body -/
theorem fng_of {P : Program} {w : World} {K : PySem.W.Frag} {mg : Str → Option Value} {base : Heap} {x qual : Str} {st : Stmt} {f : Addr} {fd : FuncData} {N ps : List Str} {k : Nat} {sp : Sp} (F : Fun K x qual st f fd) (S : FnScope N ps (defScope st))
    (len : ∀ vs H Q E, sp vs H Q E → vs.length = ps.length)
    (hb : ∀ (cdv : Value) (A : Around) (outer : List Env) (s : Shared) (H : Hp) (vs : List V) (Q : VK), A.guards = some [] → Room k (A.deeper (envOfC qual (defScope st) s.heap.objs.size f cdv)) → sp vs H Q E0 →
      ∃ t, PSs (cxOf CX0 P w K mg base N qual (defScope st) f cdv A outer s H E0).nox (defBody st) t ∧ t { nx := fun _ H' => Q .non H', rt := Q } (start N vs) H) : FnG P w K mg base (k + 1) f fd ps sp := by
  refine ⟨len, fun A outer s H args us vs Q hgd hr e0 hbi rv hsp => ?_⟩
  obtain ⟨oc, od, kV, doc, pm, an, cdv, ct, osl, rfl, lk, hcd⟩ := F.ex
  have hl := len _ _ _ _ hsp
  have kin : K.In s.heap := e0.mod.kin.keeps fun b o e => (e0.bs b o e).1
  have lim : s.heap.NoLimit := e0.mod.nolimit.keeps fun b o e => (e0.bs b o e).1
  refine Att.call_fn kin lim lk hcd hr.depth hbi (List.all_eq_true.mpr fun ⟨y, u⟩ hy => ?_) (fun s1 x => ?_) S.co S.gen S.kind
  · rcases S.par y (List.of_mem_zip hy).1 with q | q <;> simp [q]
  · obtain ⟨t, ht, hq⟩ := hb cdv A outer s H vs Q hgd (hr.deeper _) hsp
    have I := inv_start (CX := CX0) (P := P) (w := w) (E := E0) S hr.hd e0 hl rv x
    refine wpAny_mono (ht.run [] s1 (start N vs) H _ (I.wish _) hq) (fun fl s' hs => ?_) fun e s' hs => hs.elim
    have fin : ∀ {σ' : L2.St} {H' : Hp} {v : V} {u : Value}, Inv (cxOf CX0 P w K mg base N qual (defScope st) f cdv A outer s H E0) [] σ' H' s' → RelV v u → Q v H' → CE outer P w H s Q u s' :=
      fun J r q => ⟨_, _, J.os, J.bare, J.base, J.hok, r, q⟩
    cases fl with
    | ret u =>
      obtain ⟨v, σ', H', J, r, q⟩ := hs
      exact fin J.unwish r q
    | next =>
      obtain ⟨σ', H', J, q⟩ := hs
      exact fin (v := V.non) (u := Value.none) J.unwish rfl q
    | brk => obtain ⟨_, _, _, q⟩ := hs; exact q.elim
    | cont => obtain ⟨_, _, _, q⟩ := hs; exact q.elim
theorem run_g {mg' : Unit} {k : Nat} {f : Addr} {fd : FuncData} {ps : List Str} {sp : Sp} {pins : List (Addr × Obj)} {σ : L2.St} {H : Hp} {s : Shared} {Q : VK} {us : List Value} {vs : List V} (F : FnG X.prog X.w X.K X.mg X.base k f fd ps sp) (hgd : X.A.guards = some []) (hr : Room k X.A) (hb : Binds X.K fd ps [])
    (I : Inv X pins σ H s) (r : Vals vs us) (h : sp vs H Q E0) : wpAny (model X.prog X.w) X.A (call (.ref f) us) (EP X pins σ Q) X.xe s := by
  have hl : (us ++ []).length = ps.length := by rw [List.append_nil, ← r.length]; exact F.len _ _ _ _ h
  have hbi := hb s us I.kIn hl
  rw [List.append_nil] at hbi
  refine wpAny_call (codeAny_mono (F.run X.A X.stack s H ⟨us, []⟩ us vs Q hgd hr I.env0 hbi r h) fun q s' hq => ?_)
  cases q with
  | error e => exact hq.elim
  | ok fl =>
    cases fl with
    | ret u => exact I.after hq
    | next => exact hq.elim
    | brk => exact hq.elim
    | cont => exact hq.elim
theorem pe_callg {k : Nat} {f : Addr} {fd : FuncData} {ps : List Str} {sp : Sp} {x : Str} {p pos : Pos} {e : Expr} {es : List Expr} {t : TA} (F : FnG X.prog X.w X.K X.mg X.base k f fd ps sp) (hgd : X.A.guards = some []) (hr : Room k X.A) (hg : Gl X x) (hm : X.mg x = some (.ref f)) (hk : PySem.W.keepIn X.K (.ref f) = true) (hb : Binds X.K fd ps [])
    (ha : PA X (e :: es) t) (hdb : (x == ("__debug__" : Str)) = false := by decide) (he : starEach (e :: es) X.env = (false, eval e X.env) :: starEach es X.env := by rfl) (hpl : (backTo pos (starEach es X.env)).any (·.1) = false := by rfl) :
    PE X (.Call (.Name x p) (e :: es) [] pos) (fun σ H Q => t σ H fun vs H1 => sp vs H1 Q E0) :=
  ⟨fun pins s σ H Q I h => wpAny_Call_Name_kw (ld_glob I hg hm (PySem.W.callWith_K (h₀ := X.base) I.ok.mod.kin hk (thn (ha.run pos pins s σ H _ I h) fun us s1 ⟨vs, H1, I1, r, q⟩ => ⟨I1.kIn, run_g (mg' := ()) F hgd hr hb I1 r q⟩) he hpl) hdb)⟩
abbrev DSpec := List Dv → Wo → (PyData → Wo → Prop) → Prop
def spD (K : PySem.W.Frag) (m : Nat) (c : DSpec) : Sp := fun vs H Q _ => ∃ δ F as n R, as.length = m ∧ VRs K δ F H as vs ∧ Same F H ∧ δ.at_ K F H n ∧ (∀ a, a ∈ δ.own → F a = none ∧ H a ≠ none) ∧ c as n R ∧
  ∀ d n' F' H' v, R d n' → Gr δ F H F' H' → Same F' H' → δ.at_ K F' H' n' → Rp K F' d v → Q v H'
def dFn (m : Nat) (c : DSpec) (t : DTA) : DTE := fun ρ n R => t ρ n fun as n1 => as.length = m ∧ c as n1 fun d n2 => R (.dat d) n2
theorem we_fn {k m : Nat} {c : DSpec} {f : Addr} {fd : FuncData} {ps : List Str} {x : Str} {p pos : Pos} {e : Expr} {es : List Expr} {t : DTA} (F : FnG X.prog X.w X.K X.mg X.base k f fd ps (spD X.K m c)) (hgd : X.A.guards = some []) (hr : Room k X.A) (hg : Gl X x) (hm : X.mg x = some (.ref f)) (hk : PySem.W.keepIn X.K (.ref f) = true) (hb : Binds X.K fd ps [])
    (ha : WA Y X (e :: es) t) (hdb : (x == ("__debug__" : Str)) = false := by decide) (he : starEach (e :: es) X.env = (false, eval e X.env) :: starEach es X.env := by rfl) (hpl : (backTo pos (starEach es X.env)).any (·.1) = false := by rfl) :
    WE Y X (.Call (.Name x p) (e :: es) [] pos) (dFn m c t) :=
  pe_imp (pe_callg F hgd hr hg hm hk hb ha hdb he hpl) fun σ H Q ⟨Z, F, ρ, n, R, r, ht, k⟩ => ⟨Z, F, ρ, n, _, r, ht, fun as n1 F1 H1 vs ⟨hl, hx⟩ g1 s1 d1 w1 => by
    have b1 := r.b.step g1 s1 d1
    exact ⟨Z.δ, F1, as, n1, _, hl, w1, s1, d1, b1.dkF, hx, fun d n2 F2 H2 v h2 g2 s2 d2 w2 => k _ _ _ _ _ h2 (g1.trans g2) s2 d2 w2⟩⟩
def startR (N : List Str) (as : List Dv) : Rho := as.map some ++ List.replicate (N.length - as.length) none
theorem Base.gr {K : PySem.W.Frag} {Z : Fx} {F H : Hp} {n : Wo} (h0 : ∀ a, a ∈ Z.δ.own → Z.F0 a = none ∧ Z.H0 a ≠ none) (b : Base K Z F H n) : Gr Z.δ Z.F0 Z.H0 F H :=
  ⟨b.gF, b.gN, b.gH, b.gI, fun a h => b.gD a h⟩
theorem vrs_get {K : PySem.W.Frag} {δ : DkS} {F H : Hp} : ∀ {as : List Dv} {vs : List V} {i : Nat} {x : Dv}, VRs K δ F H as vs → as[i]? = some x → ∃ v, vs[i]? = some v ∧ VR K δ F H x v
  | _, _, i, x, .nil, e => by simp at e
  | _, _, 0, x, .cons a b, e => by
    simp at e; subst e
    exact ⟨_, rfl, a⟩
  | _, _, i + 1, x, .cons a b, e => by
    obtain ⟨v, e1, e2⟩ := vrs_get (i := i) b (by simpa using e)
    exact ⟨v, by simpa using e1, e2⟩
theorem sr_start {K : PySem.W.Frag} {δ : DkS} {F H : Hp} {N : List Str} {as : List Dv} {vs : List V} {n : Wo} (w : VRs K δ F H as vs) (hs : Same F H) (hd : δ.at_ K F H n) (ho : ∀ a, a ∈ δ.own → F a = none ∧ H a ≠ none) : SR ⟨F, H, δ⟩ K ⟨F, H, δ⟩ F H (L2.start N vs) (startR N as) n := by
  have hl : as.length = vs.length := Paired.length w
  have get : ∀ (i : Nat) (x : Dv), (startR N as)[i]? = some (some x) → as[i]? = some x := fun i x e => by
    unfold startR at e
    by_cases hi : i < as.length
    · rw [List.getElem?_append_left (by simpa using hi), List.getElem?_map] at e
      cases q : as[i]? with
      | none => rw [q] at e; cases e
      | some y => rw [q] at e; cases e; rfl
    · rw [List.getElem?_append_right (by simpa using hi), List.getElem?_replicate] at e
      split at e <;> cases e
  refine ⟨⟨hs, hd, ho, Same.refl _, fun _ _ h => h, fun _ _ _ h _ => h, fun _ _ _ _ h => ⟨_, h⟩⟩, rfl, rfl, Gr.refl, by unfold L2.start startR; simp [hl], fun i x e => ?_, fun i j a ds y _ e _ _ _ _ => ?_⟩
  · obtain ⟨v, e1, e2⟩ := vrs_get w (get i x e)
    refine ⟨v, ?_, ?_⟩
    · unfold L2.start
      have hi : i < vs.length := (List.getElem?_eq_some_iff.mp e1).1
      rw [List.getElem?_append_left (by simpa using hi), List.getElem?_map, e1]; rfl
    · cases x with
      | mt ds => exact e2.elim
      | dat d => exact e2
      | vw ds => exact e2
      | deck _ => exact e2
      | md _ _ => exact e2.elim
  · obtain ⟨v, e1, e2⟩ := vrs_get w (get i _ e)
    exact e2.elim
/-- THE RULE for a def: its body over data -/
theorem fnd {P : Program} {w : World} {K : PySem.W.Frag} {mg : Str → Option Value} {base : Heap} {x qual : Str} {st : Stmt} {f : Addr} {fd : FuncData} {N ps : List Str} {k : Nat} (c : DSpec) (F : Fun K x qual st f fd) (S : FnScope N ps (defScope st))
    (hb : ∀ (cdv : Value) (A : Around) (outer : List Env) (s : Shared) (H : Hp), A.guards = some [] → Room k (A.deeper (envOfC qual (defScope st) s.heap.objs.size f cdv)) → ∀ Y : Fx,
      ∃ t, DSs Y (cxOf CX0 P w K mg base N qual (defScope st) f cdv A outer s H E0).nox (defBody st) t ∧ ∀ as n R, as.length = ps.length → c as n R → t { nx := fun _ n' => R .none n', rt := R } (startR N as) n) : FnG P w K mg base (k + 1) f fd ps (spD K ps.length c) := by
  refine fng_of F S (fun vs H Q E ⟨δ, Fz, as, n, R, hl, w1, _⟩ => by rw [← Paired.length w1]; exact hl) fun cdv A outer s H vs Q hgd hr ⟨δ, Fz, as, n, R, hl, w1, s1, d1, o1, hc, hk⟩ => ?_
  obtain ⟨t, h1, h2⟩ := hb cdv A outer s H hgd hr ⟨Fz, H, δ⟩
  refine ⟨_, h1, ⟨Fz, H, δ⟩, Fz, startR N as, n, _, sr_start w1 s1 d1 o1, h2 as n R hl hc, ⟨fun F' H' σ' ρ' n' q r' => hk _ _ _ _ _ q (Base.gr o1 r'.b) r'.b.sub r'.b.dk (by simp [Rp]), fun d n' F' H' v q b q2 => hk _ _ _ _ _ q (Base.gr o1 b) b.sub b.dk q2, fun _ _ _ _ _ q _ => q.elim, fun _ _ _ _ _ q _ => q.elim⟩⟩
end DL
namespace DL
open PySem PySem.Spec PyProof.Rows L2
variable {X : Cx} {Y : Fx}
mutual
def sz : PyData → Nat
  | .none => 4
  | .bool _ => 5
  | .int i => i.natAbs.log2 + 4
  | .str s => 10 * s.length + 2
  | .list ds => szs ds + 3
  | .tuple ds => szs ds + 3
  | .dict kvs => szk kvs + 3
def szs : List PyData → Nat
  | [] => 0
  | d :: ds => sz d + 2 + szs ds
def szk : List (PyData × PyData) → Nat
  | [] => 0
  | (a, b) :: r => sz a + sz b + 4 + szk r
end
theorem slen_append (a b : Str) : (a ++ b).length = a.length + b.length := strLen_append a b
theorem textFrom_le : ∀ (ts : List Str) (k : Nat) (acc : Str), (textFrom k acc ts).length ≤ acc.length + (ts.map fun t => t.length + 2).sum
  | [], k, acc => by show acc.length ≤ _; simp
  | t :: r, k, acc => by
    have h := textFrom_le r (k + 1) (acc ++ (if k > 0 then ", " else "" : String) ++ t)
    have e : (acc ++ (if k > 0 then ", " else "" : String) ++ t).length ≤ acc.length + 2 + t.length := by
      rw [slen_append, slen_append]
      by_cases hk : k > 0
      · rw [if_pos hk]; exact Nat.le_of_eq rfl
      · rw [if_neg hk]; show acc.length + 0 + t.length ≤ _; omega
    show (textFrom (k + 1) (acc ++ (if k > 0 then ", " else "" : String) ++ t) r).length ≤ _
    simp only [List.map_cons, List.sum_cons]
    omega
theorem piled_le (ts : List Str) : piled ts = (ts.map fun t => t.length + 2).sum := by
  unfold piled
  induction ts with
  | nil => rfl
  | cons t r ih => simp [List.map_cons, List.sum_cons] at ih ⊢ <;> omega
theorem join_le (ts : List Str) : (Str.join ", " ts).length ≤ (ts.map fun t => t.length + 2).sum := by
  by_cases h : ts = []
  · subst h; exact Nat.le_refl 0
  · have := join_length_add ts h
    rw [piled_le] at this
    omega
theorem tupleText_le (ts : List Str) : (tupleText ts).length ≤ 3 + (ts.map fun t => t.length + 2).sum := by
  unfold tupleText
  rw [slen_append, slen_append]
  have h := join_le ts
  have h1 : (("(" : String) : Str).length = 1 := rfl
  split
  · have : ((",)" : String) : Str).length = 2 := rfl
    omega
  · have : ((")" : String) : Str).length = 1 := rfl
    omega
theorem listText_le (ts : List Str) : (listText ts).length ≤ 3 + (ts.map fun t => t.length + 2).sum := by
  unfold listText
  rw [slen_append]
  have h := textFrom_le ts 0 "["
  have h1 : (("[" : String) : Str).length = 1 := rfl
  have h2 : (("]" : String) : Str).length = 1 := rfl
  omega
theorem int_text_le (i : Int) : (Str.ofString (toString i)).length ≤ i.natAbs.log2 + 4 := by
  rw [PySem.ofString_length]
  have := PySem.int_text_length_le (a := i) (k := i.natAbs.log2 + 1) (by omega) (by omega)
  omega
mutual
theorem shown_le : ∀ d : PyData, d.canLay0 = true → d.shown.length ≤ sz d
  | .none, _ => by simp only [PyData.shown, sz]; decide
  | .bool b, _ => by cases b <;> (simp only [PyData.shown, sz]; decide)
  | .int i, _ => by simp only [PyData.shown, sz]; exact int_text_le i
  | .str s, h => by
    simp only [PyData.shown, sz]
    simp only [PyData.canLay0, PyData.strOk, Array.all_eq_true'] at h
    exact PySem.StrLaws.reprText_len s fun c hc => by
      have q := h c (by simpa using hc)
      simp at q; omega
  | .list ds, h => by
    simp only [PyData.shown, sz]
    have := shownAll_le ds (by simpa only [PyData.canLay0] using h)
    have := listText_le (PyData.shownAll ds)
    omega
  | .tuple ds, h => by
    simp only [PyData.shown, sz]
    have := shownAll_le ds (by simpa only [PyData.canLay0] using h)
    have := tupleText_le (PyData.shownAll ds)
    omega
  | .dict _, h => by simp [PyData.canLay0] at h
theorem shownAll_le : ∀ ds : List PyData, PyData.canLayAll0 ds = true → ((PyData.shownAll ds).map fun t => t.length + 2).sum ≤ szs ds
  | [], _ => by simp [PyData.shownAll, szs]
  | d :: ds, h => by
    simp only [PyData.canLayAll0, Bool.and_eq_true] at h
    have h1 := shown_le d h.1
    have h2 := shownAll_le ds h.2
    simp only [PyData.shownAll, szs, List.map_cons, List.sum_cons]
    omega
end
/-- what may be shown and compared -/
structure Tame (m k : Nat) (d : PyData) : Prop where
  sh : d.showable = true
  cl : d.canLay0 = true
  dp : d.depth ≤ k
  le : sz d ≤ m
theorem Tame.mono {m k m' k' : Nat} {d : PyData} (h : Tame m k d) (h1 : m ≤ m') (h2 : k ≤ k') : Tame m' k' d := ⟨h.sh, h.cl, Nat.le_trans h.dp h2, Nat.le_trans h.le h1⟩
theorem Tame.shaped {m k : Nat} {d : PyData} (h : Tame m k d) (hk : k ≤ 64) : Sh d := by
  unfold Sh SeqAt.shaped
  rw [Bool.and_eq_true]
  exact ⟨h.cl, decide_eq_true (Nat.le_trans h.dp hk)⟩
theorem tame_int {i : Int} {m : Nat} (h : i.natAbs < 2 ^ m) (hm : m ≤ 1000) (h0 : 0 < m) : Tame (m + 3) 0 (.int i) := by
  have hl : i.natAbs.log2 < m := by
    by_cases q : i.natAbs = 0
    · rw [q]; simpa using h0
    · exact (Nat.log2_lt q).mpr h
  exact ⟨by simp only [PyData.showable]; exact decide_eq_true (by omega), rfl, Nat.zero_le _, by simp only [sz]; omega⟩
theorem tame_str {s : Str} (h : PyData.strOk s = true) : Tame (10 * s.length + 2) 0 (.str s) := ⟨rfl, h, Nat.le_refl _, Nat.le_refl _⟩
theorem canAll {ds : List PyData} (h : ∀ d ∈ ds, d.canLay0 = true) : PyData.canLayAll0 ds = true := by
  induction ds with
  | nil => rfl
  | cons d ds ih => simp only [PyData.canLayAll0, Bool.and_eq_true]; exact ⟨h d (by simp), ih fun e he => h e (by simp [he])⟩
theorem showAll {ds : List PyData} (h : ∀ d ∈ ds, d.showable = true) : PyData.showableAll ds = true := by
  induction ds with
  | nil => rfl
  | cons d ds ih => simp only [PyData.showableAll, Bool.and_eq_true]; exact ⟨h d (by simp), ih fun e he => h e (by simp [he])⟩
theorem depthAll_le {k : Nat} {ds : List PyData} (h : ∀ d ∈ ds, d.depth ≤ k) : PyData.depthAll ds ≤ k := by
  induction ds with
  | nil => exact Nat.zero_le _
  | cons d ds ih => simp only [PyData.depthAll]; exact Nat.max_le.mpr ⟨h d (by simp), ih fun e he => h e (by simp [he])⟩
def tyD : PyData → String
  | .none => "NoneType"
  | .bool _ => "bool"
  | .int _ => "int"
  | .str _ => "str"
  | .list _ => "list"
  | .tuple _ => "tuple"
  | .dict _ => "dict"
def isiB (s t : String) : Bool := s == t || (s == "bool" && t == "int")
theorem tyD_of {K : PySem.W.Frag} {H : Hp} {d : PyData} {v : V} (h : Rp K H d v) (hn : isRefD d = false) : TyX K H v (.type (tyD d)) := by
  cases d <;> simp only [Rp] at h
  case none => subst h; exact .base .non
  case bool => subst h; exact .base (.bl _)
  case int => subst h; exact .base (.int _)
  case str => subst h; exact .base (.str _)
  case list => obtain ⟨a, xs, rfl, h1, _⟩ := h; exact .base (.lst h1)
  case tuple => obtain ⟨a, xs, rfl, h1, _⟩ := h; exact h1.elim (fun h => .base (.tup h)) fun ⟨o, q⟩ => .fTuple q
  case dict =>
    rcases h with ⟨a, xs, rfl, h1, _⟩ | ⟨a, e, rfl⟩ | ⟨_, _, _, e, _⟩
    · exact .base (.dK h1)
    · rw [e] at hn; cases hn
    · rw [e] at hn; cases hn
def isTy (t : String) : Prop := t = "int" ∨ t = "bool" ∨ t = "str" ∨ t = "tuple" ∨ t = "list"
theorem kit_isi {K : PySem.W.Frag} {t : String} (h : isTy t) (d : PyData) : PySem.W.kitOne K (.type (tyD d)) (.type t) = some (isiB (tyD d) t) := by
  rcases h with rfl | rfl | rfl | rfl | rfl <;> cases d <;> (simp only [tyD]; exact kit_ty (by decide +kernel))
def isDR (x : Dv) : Bool := x.isDk || isRefD x.toD
theorem isDR_dk {x : Dv} (h : isDR x = false) : x.isDk = false := (Bool.or_eq_false_iff.mp h).1
theorem isDR_rf {x : Dv} (h : isDR x = false) : isRefD x.toD = false := (Bool.or_eq_false_iff.mp h).2
def oIsi (t : String) (x : Dv) (R : PyData → Prop) : Prop := isDR x = false ∧ R (.bool (isiB (tyD x.toD) t))
theorem we_isi {e : Expr} {t : DTE} {T : String} {y : Str} {p p2 pos : Pos} (hT : isTy T) (hg : Gl X "isinstance") (hm : X.mg "isinstance" = none) (he : WE Y X e t) (hgT : Gl X y) (hmT : X.mg y = none) (hv : bootBuiltins y = some (.type T)) (hn : y ≠ "__name__" := by decide) (hdb : (y == ("__debug__" : Str)) = false := by decide)
    (h1 : starEach [e, .Name y p2] X.env = (false, eval e X.env) :: starEach [.Name y p2] X.env := by rfl) (h2 : starEach [.Name y p2] X.env = (false, eval (.Name y p2) X.env) :: starEach [] X.env := by rfl) (hpl : (backTo pos (starEach [.Name y p2] X.env)).any (·.1) = false := by rfl) :
    WE Y X (.Call (.Name "isinstance" p) [e, .Name y p2] [] pos) (dUn (oIsi T) t) :=
  pe_imp (pe_callB call_isi hg hm PyProof.Rows.boot_isinstance (pa_cons he (pa_cons (pe_bltn (v := .ty T) hgT hmT hv rfl hn hdb) pa_nil h2) h1) (by decide) (by decide) h1 hpl)
    (one (r := fun x H1 Q => rIsi X.K [x, .ty T] H1 Q) fun δ F H x v R Q hs hx ⟨hd, hr⟩ b => ⟨v, .ty T, _, _, _, rfl, .ty T, tyD_of (hx.rp hs (isDR_dk hd)) (isDR_rf hd), kit_isi hT _, b.bl hs hr⟩)
end DL
namespace DL
open PySem PySem.Spec PyProof.Rows L2
variable {X : Cx} {Y : Fx}
section
variable {prog : Program} {w : World} {A : Around} {E : Value → Shared → Prop} {s : Shared} {l : Addr} {its : List Value} {ns : List Int} {xs : Array (Int × Tok)} {Q : Value → Shared → Prop}
theorem iter_tupI {Q : Value → Shared → Prop} (hl : s.heap.IsTuple l (intItems xs))
    (h : ∀ s₂ : Shared, s₂ = { s with heap := s.heap.push { cls := .type "tuple_iterator", data := .fields #[.ref l, .int 0 0] } } →
      (s₂.heap.IsTupleIter s.heap.objs.size l 0 ∧ s₂.heap.IsTuple l (intItems xs)) → (∀ b ∈ [s.heap.objs.size, l], b < s₂.heap.objs.size) → l ≠ s.heap.objs.size → Q (.ref s.heap.objs.size) s₂) :
    wpAny (model prog w) A (pyIter (.ref l)) Q E s := by
  obtain ⟨o, e1, e2⟩ := id hl
  have hlt : l < s.heap.objs.size := Heap.lt_size e1
  refine wpAny_pyIter_tuple hl (h _ rfl ⟨⟨_, Heap.get?_push_size _ rfl, rfl, rfl⟩, ⟨o, Heap.get?_push_of_some _ e1, e2⟩⟩ (fun b hb => ?_) (Nat.ne_of_lt hlt))
  have hsz : ∀ (o : Obj), (s.heap.push o).objs.size = s.heap.objs.size + 1 := fun o => Heap.size_push _ _
  rw [hsz]
  rcases List.mem_cons.mp hb with e | hb
  · rw [e]; exact Nat.lt_succ_self _
  · rw [List.mem_singleton.mp hb]; exact Nat.lt_succ_of_lt hlt
theorem kept_tup {h' : Heap} (hk : ∀ b o, b ∉ [s.heap.objs.size] → (s.heap.push { cls := .type "tuple_iterator", data := .fields #[.ref l, .int 0 0] }).get? b = some o → h'.get? b = some o) :
    ∀ b o, s.heap.get? b = some o → h'.get? b = some o := fun b o e => by
  refine hk b o (fun hm => ?_) (Heap.get?_push_of_some _ e)
  have q := Heap.lt_size e
  rw [List.mem_singleton.mp hm] at q
  exact absurd q (Nat.lt_irrefl _)
theorem max_tupI (hh : A.handled = none) (hl : s.heap.IsTuple l its.toArray) (hi : IntsAre its ns) (hne : 0 < ns.length)
    (h : ∀ h' tk M t', (∀ b o, s.heap.get? b = some o → h'.get? b = some o) → M ∈ ns → (∀ a, a ∈ ns → a ≤ M) → Q (.int M t') { s with heap := h', toks := tk }) : wpAny (model prog w) A (call (.builtin "max") [.ref l]) Q E s := by
  obtain ⟨xs, e⟩ := hi.allInts.items
  have hn : numsOf (intItems xs).toList = ns := by rw [← e]; exact hi.numsOf
  rw [nums_intItems] at hn
  subst hn
  rw [e] at hl
  have hsz : 0 < xs.size := by simpa using hne
  refine call_max_walk (iter_tupI hl fun s₂ e st hfp hlI => ?_)
  subst e
  refine ⟨_, _, _, _, _, _, _, rfl, Walks.tuple (A := A.in1) hh _ l hlI (intItems xs), st, hfp, by simpa [intItems] using hsz, CmpOf.ints_gt (numAt xs) (fun _ _ => intItems_at), fun v h' tk hP hk => ?_⟩
  have hv : (intItems xs)[argBest (fun i j => decide (numAt xs i > numAt xs j)) (xs.size - 1)]? = some v := by simpa [intItems] using hP
  obtain ⟨t, rfl⟩ := intItems_at hv
  obtain ⟨h1, h2⟩ := argBest_gt (numAt xs) (xs.size - 1)
  refine h h' tk _ t (kept_tup hk) ?_ fun a ha => ?_
  · rw [numAt_eq]; exact PySem.getD_mem (by rw [List.length_map, Array.length_toList]; omega)
  · obtain ⟨j, hj, rfl⟩ := mem_getD ha
    rw [List.length_map, Array.length_toList] at hj
    rw [← numAt_eq]; exact h2 j (by omega)
theorem min_tupI (hh : A.handled = none) (hl : s.heap.IsTuple l its.toArray) (hi : IntsAre its ns) (hne : 0 < ns.length)
    (h : ∀ h' tk M t', (∀ b o, s.heap.get? b = some o → h'.get? b = some o) → M ∈ ns → (∀ a, a ∈ ns → M ≤ a) → Q (.int M t') { s with heap := h', toks := tk }) : wpAny (model prog w) A (call (.builtin "min") [.ref l]) Q E s := by
  obtain ⟨xs, e⟩ := hi.allInts.items
  have hn : numsOf (intItems xs).toList = ns := by rw [← e]; exact hi.numsOf
  rw [nums_intItems] at hn
  subst hn
  rw [e] at hl
  have hsz : 0 < xs.size := by simpa using hne
  refine call_min_walk (iter_tupI hl fun s₂ e st hfp hlI => ?_)
  subst e
  refine ⟨_, _, _, _, _, _, _, rfl, Walks.tuple (A := A.in1) hh _ l hlI (intItems xs), st, hfp, by simpa [intItems] using hsz, CmpOf.ints_lt (numAt xs) (fun _ _ => intItems_at), fun v h' tk hP hk => ?_⟩
  have hv : (intItems xs)[argBest (fun i j => decide (numAt xs i < numAt xs j)) (xs.size - 1)]? = some v := by simpa [intItems] using hP
  obtain ⟨t, rfl⟩ := intItems_at hv
  obtain ⟨h1, h2⟩ := argBest_lt (numAt xs) (xs.size - 1)
  refine h h' tk _ t (kept_tup hk) ?_ fun a ha => ?_
  · rw [numAt_eq]; exact PySem.getD_mem (by rw [List.length_map, Array.length_toList]; omega)
  · obtain ⟨j, hj, rfl⟩ := mem_getD ha
    rw [List.length_map, Array.length_toList] at hj
    rw [← numAt_eq]; exact h2 j (by omega)
end
section
def rBest (ge : Int → Int → Prop) (H : Hp) (vs : List V) (Q : VK) : Prop := ∃ (a : Addr) (ns : List Int), vs = [V.ref a] ∧ (H a = some (.lst (ns.map V.int)) ∨ Rd H a (.tup (ns.map V.int))) ∧ 0 < ns.length ∧ ∀ m, m ∈ ns → (∀ y, y ∈ ns → ge m y) → Q (.int m) H
def rMax2 (H : Hp) (vs : List V) (Q : VK) : Prop := (∃ i j, vs = [V.int i, V.int j] ∧ Q (.int (if j > i then j else i)) H) ∨ rBest (fun m y => y ≤ m) H vs Q
def rMin2 (H : Hp) (vs : List V) (Q : VK) : Prop := (∃ i j, vs = [V.int i, V.int j] ∧ Q (.int (if j < i then j else i)) H) ∨ rBest (fun m y => m ≤ y) H vs Q
theorem call_maxA (hc : X.calm = true) : CallR X (.builtin "max") (fun vs H Q => rMax2 H vs Q) := by
  refine CallR.or (call_max2 hc) ?_
  intro pins s σ H vs us Q I r ⟨a, ns, e, hs, hne, q⟩
  subst e
  rw [Vals.ref1 r]
  rcases hs with hs | hs
  · obtain ⟨its, rv, hl, _⟩ := I.list (SqL.of hs)
    exact max_raw (I.ok.hd hc) hl.isList rv.ints hne fun h' tk m t' hk h1 h2 => ⟨.int _, H, I.kept hk, ⟨_, rfl⟩, q m h1 h2⟩
  · obtain ⟨its, rv, hl, _⟩ := I.tuple (sqtR hs)
    exact max_tupI (I.ok.hd hc) (show s.heap.IsTuple a its.toArray from hl) rv.ints hne fun h' tk m t' hk h1 h2 => ⟨.int _, H, I.kept hk, ⟨_, rfl⟩, q m h1 h2⟩
theorem call_minA (hc : X.calm = true) : CallR X (.builtin "min") (fun vs H Q => rMin2 H vs Q) := by
  refine CallR.or (call_min2 hc) ?_
  intro pins s σ H vs us Q I r ⟨a, ns, e, hs, hne, q⟩
  subst e
  rw [Vals.ref1 r]
  rcases hs with hs | hs
  · obtain ⟨its, rv, hl, _⟩ := I.list (SqL.of hs)
    exact min_raw (I.ok.hd hc) hl.isList rv.ints hne fun h' tk m t' hk h1 h2 => ⟨.int _, H, I.kept hk, ⟨_, rfl⟩, q m h1 h2⟩
  · obtain ⟨its, rv, hl, _⟩ := I.tuple (sqtR hs)
    exact min_tupI (I.ok.hd hc) (show s.heap.IsTuple a its.toArray from hl) rv.ints hne fun h' tk m t' hk h1 h2 => ⟨.int _, H, I.kept hk, ⟨_, rfl⟩, q m h1 h2⟩
variable {K : PySem.W.Frag}
theorem seq_ints {δ : DkS} {F H : Hp} {x : Dv} {v : V} {ns : List Int} (hs : Same F H) (h : VR K δ F H x v) (e : seqD x.toD = some (ns.map .int)) : ∃ a, v = .ref a ∧ (H a = some (.lst (ns.map V.int)) ∨ Rd H a (.tup (ns.map V.int))) := by
  obtain ⟨a, us, rfl, h2, h3⟩ := h.seq hs e
  rw [h3.ints] at h2
  exact ⟨a, rfl, h2⟩
def oMax : DC := fun xs R => match xs with
  | [.dat (.int i), .dat (.int j)] => R (.int (if j > i then j else i))
  | [x] => ∃ ns : List Int, seqD x.toD = some (ns.map .int) ∧ 0 < ns.length ∧ ∀ m, m ∈ ns → (∀ y, y ∈ ns → y ≤ m) → R (.int m)
  | _ => False
def oMin : DC := fun xs R => match xs with
  | [.dat (.int i), .dat (.int j)] => R (.int (if j < i then j else i))
  | [x] => ∃ ns : List Int, seqD x.toD = some (ns.map .int) ∧ 0 < ns.length ∧ ∀ m, m ∈ ns → (∀ y, y ∈ ns → m ≤ y) → R (.int m)
  | _ => False
theorem ck_max : CallOk K (fun vs H Q => rMax2 H vs Q) oMax := fun δ F H xs vs R Q hs hv h b => by
  unfold oMax at h
  split at h
  · exact .inl ⟨_, _, vrs2 hv, b.int hs h⟩
  · obtain ⟨ns, e2, hne, hr⟩ := h
    obtain ⟨v, rfl, h1⟩ := vr1 hv
    obtain ⟨a, rfl, h2⟩ := seq_ints hs h1 e2
    exact .inr ⟨a, ns, rfl, h2, hne, fun m k1 k2 => b.int hs (hr m k1 k2)⟩
  · exact h.elim
theorem ck_min : CallOk K (fun vs H Q => rMin2 H vs Q) oMin := fun δ F H xs vs R Q hs hv h b => by
  unfold oMin at h
  split at h
  · exact .inl ⟨_, _, vrs2 hv, b.int hs h⟩
  · obtain ⟨ns, e2, hne, hr⟩ := h
    obtain ⟨v, rfl, h1⟩ := vr1 hv
    obtain ⟨a, rfl, h2⟩ := seq_ints hs h1 e2
    exact .inr ⟨a, ns, rfl, h2, hne, fun m k1 k2 => b.int hs (hr m k1 k2)⟩
  · exact h.elim
end
def oEqA (neg : Bool) : D2 := fun x y R =>
  match x.toD, y.toD with
  | .str s, .str t => R (.bool (if neg then !decide (s = t) else decide (s = t)))
  | d, e => x.isDk = false ∧ y.isDk = false ∧ Sh d ∧ Sh e ∧ R (.bool (if neg then !PyData.eqv d e else PyData.eqv d e))
theorem or_eqA (hu : X.A.units + 64 < cLine) : OpR X (compareOp .Eq) (fun x y H Q => rEqD X.K x y H Q ∨ rEq x y H Q) := OpR.or (op_eqD hu) op_eq
theorem or_neA (hu : X.A.units + 64 < cLine) : OpR X (compareOp .NotEq) (fun x y H Q => rNeD X.K x y H Q ∨ rNe x y H Q) := OpR.or (op_neD hu) op_ne
section
variable {K : PySem.W.Frag}
theorem VR.str {δ : DkS} {F H : Hp} {x : Dv} {v : V} {s : Str} (hs : Same F H) (h : VR K δ F H x v) (e : x.toD = .str s) : v = .str s := by
  have r := h.rp hs (notDeck_of e nofun)
  rw [e] at r
  simpa only [Rp] using r
theorem bi_eqA : BinOk K (fun x y H Q => rEqD K x y H Q ∨ rEq x y H Q) (oEqA false) := fun δ F H x y v u R Q hs hx hy h b => by
  unfold oEqA at h
  split at h
  · rename_i s t e1 e2
    have r1 := hx.str hs e1; have r2 := hy.str hs e2
    subst r1 r2
    refine .inr ⟨rfl, b.bl hs ?_⟩
    have e : decide (V.str s = V.str t) = decide (s = t) := by
      by_cases q : s = t
      · subst q; simp
      · rw [decide_eq_false q, decide_eq_false fun z => q (V.str.inj z)]
    rw [e]; exact h
  · exact .inl (bi_eq δ F H x y v u R Q hs hx hy h b)
theorem bi_neA : BinOk K (fun x y H Q => rNeD K x y H Q ∨ rNe x y H Q) (oEqA true) := fun δ F H x y v u R Q hs hx hy h b => by
  unfold oEqA at h
  split at h
  · rename_i s t e1 e2
    have r1 := hx.str hs e1; have r2 := hy.str hs e2
    subst r1 r2
    refine .inr ⟨rfl, b.bl hs ?_⟩
    have e : decide (V.str s = V.str t) = decide (s = t) := by
      by_cases q : s = t
      · subst q; simp
      · rw [decide_eq_false q, decide_eq_false fun z => q (V.str.inj z)]
    rw [e]; exact h
  · exact .inl (bi_ne δ F H x y v u R Q hs hx hy h b)
end
end DL
namespace DL
open PySem PySem.Spec PyProof.Rows L2
/-- at the law's entry only the script may be tracked, as a thing that nobody writes -/
def entryH (K : PySem.W.Frag) (a : Addr) (o : Obj) (vs : List V) : Hp := fun b => if b = a ∧ K.lookup a = none then some (.frz o (.lst vs)) else none
theorem entry_some {K : PySem.W.Frag} {a b : Addr} {o : Obj} {vs : List V} {u : HO} (h : entryH K a o vs b = some u) : b = a ∧ K.lookup a = none ∧ u = .frz o (.lst vs) := by
  unfold entryH at h
  by_cases q : b = a ∧ K.lookup a = none
  · rw [if_pos q] at h; cases h; exact ⟨q.1, q.2, rfl⟩
  · rw [if_neg q] at h; cases h
theorem entry_none {K : PySem.W.Frag} {a b : Addr} {o : Obj} {vs : List V} (h : b ≠ a) : entryH K a o vs b = none := if_neg fun q => h q.1
def spLaw (K : PySem.W.Frag) : Sp := fun vs H Q _ => ∃ (a : Addr) (ns : List Int), vs = [.ref a] ∧ SqL K H a (ns.map V.int) ∧ ns.length ≤ 63 ∧ (∀ b, H b = none ∨ ∃ o xs, H b = some (.frz o (.lst xs))) ∧ ∀ H', Q (.bl true) H'
theorem law_g {P : Program} {w : World} {K : PySem.W.Frag} {mg mb : Str → Option Value} {k : Nat} {fa a : Addr} {fd : FuncData} {x : Str} {s₁ : Shared} {vs : List Value} {ns : List Int}
    (KX : K.In s₁.heap) (hns : s₁.heap.Ns mainGlobals mg) (hb : s₁.heap.Ns builtinsNs mb) (hbb : ∀ x : Str, x ≠ "__name__" → mb x = bootBuiltins x) (hlim : s₁.heap.NoLimit) (hg : s₁.gens = #[])
    (ha : s₁.heap.get? a = some { cls := .type "list", data := .seq vs.toArray }) (hi : IntsAre vs ns) (hl : ns.length ≤ 63) (hr : Room k callerA)
    (F : ∀ base : Heap, K.In base → base.Ns mainGlobals mg → FnG P w K mg base k fa fd [x] (spLaw K)) (hbind : ∀ (s : Shared) (u : Value), BindsTo s fd ⟨[u], []⟩ [(x, u)]) :
    codeAny (model P w) callerA (.call (.ref fa) ⟨[.ref a], []⟩) (fun r s' => r = .ok (.ret (.bool true)) ∧ PySem.OldK s₁.heap s'.heap ∧ s'.os = s₁.os ∧ AllBare s'.gens) s₁ := by
  let ob : Obj := { cls := .type "list", data := .seq vs.toArray }
  let H := entryH K a ob (ns.map V.int)
  have rv := vals_ints hi
  have hl2 : ns.length ≤ sizeLine := Nat.le_trans hl (by decide)
  have only : ∀ b, H b = none ∨ ∃ o xs, H b = some (.frz o (.lst xs)) := fun b => by
    cases q : H b with
    | none => exact .inl rfl
    | some u => obtain ⟨_, _, rfl⟩ := entry_some q; exact .inr ⟨_, _, rfl⟩
  have script : SqL K H a (ns.map V.int) := by
    cases q : K.lookup a with
    | none => exact .inl (.inr ⟨ob, if_pos ⟨rfl, q⟩⟩)
    | some o =>
      have e := KX a o q
      rw [ha] at e
      cases e
      exact .inr ⟨_, vs.toArray, _, q, rfl, rfl, rfl, by rw [List.size_toArray, hi.length]; exact hl2, by simpa using rv⟩
  have hok : HOk P w H s₁.heap := fun b u q => by
    obtain ⟨rfl, _, rfl⟩ := entry_some q
    exact ⟨ha, by rw [List.length_map]; exact hl2, vs, _, rv, ha⟩
  have keepB : ∀ {b : Addr} {o : Obj}, s₁.heap.get? b = some o → H b = none → (hidT s₁.heap H).get? b = some o := fun e n => hidT_get e n
  have keepN : ∀ {b : Addr} {m : Str → Option Value}, s₁.heap.Ns b m → (hidT s₁.heap H).Ns b m := fun {b m} ⟨o, es, ep, e, d, r⟩ => by
    refine ⟨o, es, ep, keepB e (entry_none fun q => ?_), d, r⟩
    subst q
    rw [ha] at e; cases e; cases d
  have keepK : K.In (hidT s₁.heap H) := fun b o e => keepB (KX b o e) (by
    cases q : H b with
    | none => rfl
    | some u =>
      obtain ⟨rfl, q2, _⟩ := entry_some q
      rw [q2] at e; cases e)
  have lim2 : (hidT s₁.heap H).NoLimit := by
    obtain ⟨mc, h1, h2⟩ := hlim
    exact ⟨mc, keepN h1, h2⟩
  have e0 : Env0 P w K mg (hidT s₁.heap H) callerA [] s₁ H := by
    refine ⟨rfl, ⟨keepK, keepN hns, ⟨mb, keepN hb, hbb⟩, lim2⟩, fun b o e => of_hidT e, Nat.le_of_eq (hidT_size _ _), trivial, fun b hm => ?_, hok, .of_eq hg⟩
    exact absurd (show b ∈ ([] : List Addr) from hm) (by simp)
  have run := (F _ keepK (keepN hns)).run callerA [] s₁ H ⟨[.ref a], []⟩ [.ref a] [.ref a] (fun v _ => v = .bl true) rfl hr e0 (hbind s₁ (.ref a)) (.cons rfl .nil) ⟨a, ns, rfl, script, hl, only, fun _ => rfl⟩
  refine codeAny_mono run fun r s' h => ?_
  match r, h with
  | .ok (.ret u), ⟨v, H', os, bare, un, hok', r', q⟩ =>
    have q' : v = .bl true := q
    subst q'
    obtain rfl : u = Value.bool true := r'
    refine ⟨rfl, PySem.OldK.of_keep fun b o e => ?_, os, bare⟩
    cases q : H b with
    | none => exact un.keep b o e q (fun z => absurd (show b ∈ ([] : List Addr) from z) (by simp)) (by simp)
    | some u =>
      obtain ⟨rfl, _, rfl⟩ := entry_some q
      have e2 := (hok' b _ (un.frzs b _ _ q)).1
      rw [ha] at e; cases e
      exact e2
/-- the goal that the head leaves -/
theorem walk_g {l : PySem.W.OpenLaw} {k : Nat} {q : Program} {loose : List Str} {XP : (Str → Option Value) → Heap → Prop} {YP : World → Heap → Prop} {d : DefRec} {K : Params → PySem.W.Frag} {x : Str}
    (hn : l.most = some 63) (hdf : d.params.defaults = []) (hr : Room k callerA) (hY : ∀ (w : World) (h : Heap), YP w h → (K w.params).In h)
    (F : ∀ (w : World) (mg : Str → Option Value) (fa : Addr) (h : Heap), (K w.params).In h → h.Ns mainGlobals mg → mg d.name = some (.ref fa) →
      ∃ fd : FuncData, (∀ (s : Shared) (u : Value), BindsTo s fd ⟨[u], []⟩ [(x, u)]) ∧ ∀ base : Heap, (K w.params).In base → base.Ns mainGlobals mg → FnG l.prog w (K w.params) mg base k fa fd [x] (spLaw (K w.params))) :
    PySem.W.WalkO q loose XP YP l.row.toRowW d [] (fun f vs => PySem.call f vs) :=
  Att.attach_call hn hdf fun w s₀ s₁ mg mb fa o pm cd doc a vs ns G Y ho hd hcd hmg hobj hints hlen hg => by
    have KX := hY w _ Y
    obtain ⟨fd, hb, hF⟩ := F w mg fa _ KX G.T.g hmg
    exact law_g KX G.T.g G.T.b G.T.builtins G.T.nolimit hg hobj hints hlen hr hF hb
end DL
namespace DL
open PySem PySem.Spec PyProof.Rows L2
variable {X : Cx} {Y : Fx}
/-- a, b = e -/
def dAsgG (g : DTG) (t : DTE) : DTS := fun E ρ n => t ρ n fun x n' => needD x fun d => g d ρ fun ρ' => E.nx ρ' n'
theorem ds_asgG {tg e : Expr} {t : DTE} {tG : TG} {g : DTG} {sl : List Nat} {pos : Pos} (he : WE Y X e t) (hg : DG X tg tG g sl) (hs : swapsWithSole [tg] e pos.line X.env = pure false := by rfl) (hw : swappedStores [tg] e X.env = pure none := by rfl)
    (h1 : (assignEach [tg] X.env).map (·.2) = [assign tg X.env] := by rfl) : DS Y X (.Assign [tg] e pos) (dAsgG g t) :=
  ps_imp (ps_asg he hg.1 hs hw h1) fun D σ H ⟨Z, F, ρ, n, E, r, ht, k⟩ => ⟨Z, F, ρ, n, _, r, ht, fun x n1 F1 H1 v hx g1 s1 d1 w1 => by
    obtain ⟨d, rfl, hx⟩ := needD_is hx
    exact hg.2.im _ _ _ _ _ _ _ _ _ _ _ (r.step g1 s1 d1) w1 hx fun σ' ρ' h r' _ => k.nx _ _ _ _ _ h r'⟩
/-- a loop over a list or a tuple -/
theorem pi_seq {tg l : Expr} {tl : TE} (hl : PE X l tl) : PI X tg l (fun σ H R => tl σ H fun x H1 => ∃ a, x = .ref a ∧ ((∃ xs, H1 a = some (.lst xs) ∧ R (Itl X.K a) H1) ∨ ∃ xs, Rd H1 a (.tup xs) ∧ R (Itt X.K a) H1)) :=
  ⟨fun pins s σ H R I h => thn (hl.run pins s σ H _ I h) fun v s1 ⟨x, H1, I1, r1, a, e, q⟩ => by
    subst e
    cases r1
    have fresh : ∀ b ∈ [s1.heap.objs.size], FpOk X pins H1 b := fun b hb => by
      rw [List.mem_singleton.mp hb]
      exact I1.fpOk (Nat.le_refl _) (I1.hok.fresh (Nat.le_refl _))
    rcases q with ⟨xs, hq, q⟩ | ⟨xs, hq, q⟩
    · obtain ⟨its, rv, p, hz⟩ := I1.list (SqL.of hq)
      exact wpAny_pyIter_list p.isList ⟨_, [s1.heap.objs.size], _, _, H1, rfl, I1.kept (t' := s1.toks) fun b o e => Heap.get?_push_of_some _ e, turn_list a _, ⟨_, Heap.get?_push_size _ rfl, rfl, rfl⟩, fresh, q⟩
    · obtain ⟨its, rv, p, hz⟩ := I1.tuple (sqtR hq)
      exact wpAny_pyIter_tuple (show s1.heap.IsTuple a its.toArray from p) ⟨_, [s1.heap.objs.size], _, _, H1, rfl, I1.kept (t' := s1.toks) fun b o e => Heap.get?_push_of_some _ e, turn_tuple a _, ⟨_, Heap.get?_push_size _ rfl, rfl, rfl⟩, fresh, q⟩⟩
def dSrcS (t : DTE) : DSrc := fun ρ n R => t ρ n fun x n' => needD x fun d => ∃ ds, seqD d = some ds ∧ R ds n'
theorem di_seq {tg e : Expr} {t : DTE} (he : WE Y X e t) : DI Y X tg e (dSrcS t) := pi_imp (pi_seq he) fun σ H R ⟨Z, F, ρ, n, Q, r, ht, k⟩ =>
  ⟨Z, F, ρ, n, _, r, ht, fun x n1 F1 H1 v hx g1 s1 d1 w1 => by
    obtain ⟨d, rfl, hx⟩ := needD_is hx
    obtain ⟨ds, e, hx2⟩ : ∃ ds, seqD d = some ds ∧ _ := hx
    cases d with
    | list es =>
      cases e
      simp only [VR, Rp] at w1
      obtain ⟨a, vs, rfl, h1, h2⟩ := w1
      exact ⟨a, rfl, .inl ⟨vs, s1 _ _ h1, k _ _ _ _ _ hx2 g1 s1 d1 (itOk_list h1 h2)⟩⟩
    | tuple es =>
      cases e
      simp only [VR, Rp] at w1
      obtain ⟨a, vs, rfl, h1, h2⟩ := w1
      exact ⟨a, rfl, .inr ⟨vs, rdS s1 h1, k _ _ _ _ _ hx2 g1 s1 d1 (itOk_tup h1 h2)⟩⟩
    | _ => cases e⟩
/-- a, b = [..] through a pair -/
theorem ds_parT {i j : Nat} {x y : Str} {a b : Expr} {t u : DTE} {px py pt pos : Pos} {kt k2 pt2} (hc : X.calm = true) (hij : i ≠ j) (hp : PGs X [.Name x px, .Name y py] (gCons (gName i) (gCons (gName j) gNil))) (ha : XE Y X a t) (hb : XE Y X b u)
    (hw : swappedStores [.Tuple [.Name x px, .Name y py] kt pt] (.Tuple [a, b] k2 pt2) X.env = pure none)
    (hs : swapsWithSole [.Tuple [.Name x px, .Name y py] kt pt] (.Tuple [a, b] k2 pt2) pos.line X.env = pure false := by rfl)
    (hn : (assignEach [.Name x px, .Name y py] X.env).length = 2 := by rfl) (hst : (assignEach [.Name x px, .Name y py] X.env).findIdx? (·.1) = none := by rfl)
    (h0 : (assignEach [.Tuple [.Name x px, .Name y py] kt pt] X.env).map (·.2) = [assign (.Tuple [.Name x px, .Name y py] kt pt) X.env] := by rfl)
    (h1 : starEach [a, b] X.env = (false, eval a X.env) :: starEach [b] X.env := by rfl) (h2 : starEach [b] X.env = (false, eval b X.env) :: starEach [] X.env := by rfl) :
    DS Y X (.Assign [.Tuple [.Name x px, .Name y py] kt pt] (.Tuple [a, b] k2 pt2) pos) (dPar i j t u) :=
  ps_imp (ps_asg (pe_tup (xa_two ha hb h1 h2)) (pg_tup hc hp hn hst) hs hw h0) fun D σ H ⟨Z, F, ρ, n, E, r, ht, k⟩ =>
    ⟨Z, F, ρ, n, _, r, ht, fun x1 n1 F1 H1 v hx g1 s1 d1 w1 => ⟨Z, F1, ρ, n1, _, r.step g1 s1 d1, hx, fun y1 n2 F2 H2 w hy g2 s2 d2 w2 => by
      refine ⟨by show 2 ≤ sizeLine; decide, fun p hp => ⟨p, _, rfl, SqT.of upd_same, rfl, v, _, rfl, w, _, rfl, rfl, ?_⟩⟩
      have r2 := (r.step g1 s1 d1).step g2 s2 d2
      obtain ⟨g3, s3⟩ := Gp.newM (o := .tup [v, w]) hp s2
      have R2 := par_set hij r (r.step g1 s1 d1) r2 g2 w1 w2
      exact k.nx _ _ _ _ _ hy (R2.step g3.gr s3 (g3.dk r2.b))⟩⟩
def Has (P : Program) (w : World) (K : PySem.W.Frag) (mg : Str → Option Value) (base : Heap) (x : Str) (k : Nat) (ps : List Str) (c : DSpec) : Prop :=
  ∃ f fd, mg x = some (.ref f) ∧ PySem.W.keepIn K (.ref f) = true ∧ Binds K fd ps [] ∧ FnG P w K mg base k f fd ps (spD K ps.length c)
theorem we_has {k : Nat} {c : DSpec} {ps : List Str} {x : Str} {p pos : Pos} {e : Expr} {es : List Expr} {t : DTA} (h : Has X.prog X.w X.K X.mg X.base x k ps c) (hgd : X.A.guards = some []) (hr : Room k X.A) (hg : Gl X x)
    (ha : WA Y X (e :: es) t) (hdb : (x == ("__debug__" : Str)) = false := by decide) (he : starEach (e :: es) X.env = (false, eval e X.env) :: starEach es X.env := by rfl) (hpl : (backTo pos (starEach es X.env)).any (·.1) = false := by rfl) :
    WE Y X (.Call (.Name x p) (e :: es) [] pos) (dFn ps.length c t) := by
  obtain ⟨f, fd, h1, h2, h3, h4⟩ := h
  exact we_fn h4 hgd hr hg h1 h2 h3 ha hdb he hpl
theorem compR_fm {α : Type} (xs : List α) (enc : α → PyData) (p : α → Bool) (f : α → PyData) {n : Wo} {step : CStep} {R : List PyData → Wo → Prop} (hz : xs.length < sizeLine)
    (h : ∀ x ∈ xs, ∀ acc K, acc.length < sizeLine → K (if p x = true then acc ++ [f x] else acc) n → step (enc x) acc n K) (hR : R ((xs.filter p).map f) n) : CompR (xs.map enc) n step R := by
  refine ⟨fun k acc m => m = n ∧ acc = ((xs.take k).filter p).map f, ⟨rfl, rfl⟩, ?_, ?_⟩
  · rintro k x acc m hx ⟨rfl, rfl⟩
    rw [List.getElem?_map] at hx
    obtain ⟨z, hz2, rfl⟩ := Option.map_eq_some_iff.mp hx
    have hk : k < xs.length := (List.getElem?_eq_some_iff.mp hz2).1
    refine h z (List.mem_of_getElem? hz2) _ _ ?_ ⟨rfl, ?_⟩
    · rw [List.length_map]
      have := List.length_filter_le p (xs.take k)
      rw [List.length_take] at this
      omega
    · have e : xs.take (k + 1) = xs.take k ++ [z] := by
        rw [List.take_add_one, hz2]; rfl
      rw [e, List.filter_append, List.map_append]
      cases q : p z <;> simp [q]
  · rintro acc m ⟨rfl, rfl⟩
    rw [List.length_map, List.take_length]
    exact hR
/-- .. with draws within: each item as P says, the deck d draws further a turn -/
theorem compR_dr {m : Nat} (xs : List PyData) (P : PyData → Prop) (d : Nat) {n : Wo} {step : CStep} {R : List PyData → Wo → Prop} (hl : xs.length = m) (hz : m < sizeLine)
    (h : ∀ (k : Nat) x, xs[k]? = some x → k < m → ∀ acc K, acc.length = k → (∀ y, P y → K (acc ++ [y]) (n + (k + 1) * d)) → step x acc (n + k * d) K) (hR : ∀ ys, ys.length = m → (∀ y ∈ ys, P y) → R ys (n + m * d)) : CompR xs n step R := by
  refine ⟨fun k acc q => q = n + k * d ∧ acc.length = k ∧ ∀ y ∈ acc, P y, ⟨Wo.add0 n d, rfl, fun _ hy => (nomatch hy)⟩, ?_, ?_⟩
  · rintro k x acc q hx ⟨rfl, h1, h2⟩
    have hk : k < m := by rw [← hl]; exact (List.getElem?_eq_some_iff.mp hx).1
    refine h k x hx hk acc _ h1 fun y hy => ⟨rfl, by simp [h1], fun z hz => ?_⟩
    rcases List.mem_append.mp hz with q | q
    · exact h2 z q
    · rw [List.mem_singleton.mp q]; exact hy
  · rintro acc q ⟨rfl, h1, h2⟩
    rw [hl]
    exact hR acc (by rw [h1, hl]) h2
theorem forR_inv {xs : List PyData} {ρ : Rho} {n : Wo} {step : FStep} {Q : Rho → Wo → Prop} (I : Nat → Rho → Wo → Prop) (h0 : I 0 ρ n) (hs : ∀ (k : Nat) x ρ' n', xs[k]? = some x → I k ρ' n' → step x ρ' n' (I (k + 1))) (he : ∀ ρ' n', I xs.length ρ' n' → Q ρ' n') : ForR xs ρ n step Q := ⟨I, h0, hs, he⟩
end DL
namespace DL
open PySem PySem.Spec PyProof.Rows L2
variable {X : Cx} {Y : Fx}
def dCut (t u : DTS) : DTS := fun E ρ n => ∃ J : Rho → Wo → Prop, t { E with nx := J } ρ n ∧ ∀ ρ' n', J ρ' n' → u E ρ' n'
theorem dss_cut {st : Stmt} {rest : List Stmt} {t u : DTS} (h1 : DS Y X st t) (h2 : DSs Y X rest u) : DSs Y X (st :: rest) (dCut t u) :=
  pss_imp (pss_cons h1 h2) fun D σ H ⟨Z, F, ρ, n, E, r, ⟨J, ht, hJ⟩, k⟩ => ⟨Z, F, ρ, n, _, r, ht, ⟨fun F' H' σ' ρ' n' h r' => ⟨Z, F', ρ', n', E, r', hJ _ _ h, k⟩, k.rt, k.bk, k.ct⟩⟩
theorem ite_imp {c A B A' B' : Prop} [Decidable c] (h1 : A → A') (h2 : B → B') (h : if c then A else B) : if c then A' else B' := by
  by_cases q : c
  · rw [if_pos q] at h ⊢; exact h1 h
  · rw [if_neg q] at h ⊢; exact h2 h
/-- a comprehension of a test and an element that change nothing -/
theorem compR_p {α : Type} (xs : List α) (enc : α → PyData) (p : α → Bool) (f : α → PyData) {n : Wo} {step : CStep} {R : List PyData → Wo → Prop} (hz : xs.length < sizeLine)
    (h : ∀ x ∈ xs, ∀ acc K, (if p x = true then acc.length < sizeLine ∧ K (acc ++ [f x]) n else K acc n) → step (enc x) acc n K) (hR : R ((xs.filter p).map f) n) : CompR (xs.map enc) n step R :=
  compR_fm xs enc p f hz (fun x hx acc K ha hK => h x hx acc K (by
    by_cases q : p x = true
    · rw [if_pos q] at hK ⊢; exact ⟨ha, hK⟩
    · rw [if_neg q] at hK ⊢; exact hK)) hR
theorem compR_m {α : Type} (xs : List α) (enc : α → PyData) (f : α → PyData) {n : Wo} {step : CStep} {R : List PyData → Wo → Prop} (hz : xs.length < sizeLine)
    (h : ∀ x ∈ xs, ∀ acc K, acc.length < sizeLine → K (acc ++ [f x]) n → step (enc x) acc n K) (hR : R (xs.map f) n) : CompR (xs.map enc) n step R :=
  compR_fm xs enc (fun _ => true) f hz (fun x hx acc K ha hK => h x hx acc K ha (by simpa using hK)) (by rwa [List.filter_eq_self.mpr (fun _ _ => rfl)])
theorem atI_mem {α : Type} {xs : List α} {i : Int} (h0 : 0 ≤ i) (h1 : i < xs.length) : ∃ d, atI xs i = some d ∧ d ∈ xs := by
  have hi : i.toNat < xs.length := by omega
  refine ⟨xs[i.toNat], ?_, List.getElem_mem _⟩
  unfold atI ixN
  rw [if_pos h0, if_pos h1]
  simp [hi]
theorem rngD_mem {lo : Int} {n : Nat} {k : Nat} {x : PyData} (h : (rngD lo n)[k]? = some x) : x = .int (lo + (k : Int)) ∧ k < n := rngD_get h
theorem line1000 {n : Nat} (h : n ≤ 1000) : n ≤ sizeLine := Nat.le_trans h (by decide)
def Wo.z : Wo := ⟨0, fun _ => none, fun _ => none⟩
theorem pss_any {α : Type} {X : Cx} {st : List Stmt} {t : α → TS} (h : ∀ a, PSs X st (t a)) : PSs X st (fun D σ H => ∃ a, t a D σ H) := ⟨fun p s σ H D I ⟨a, w⟩ => (h a).run p s σ H D I w⟩
section
variable {P : Program} {w : World} {K : PySem.W.Frag} {mg : Str → Option Value} {base : Heap}
theorem law_start {N : List Str} {kd : Bool} {st1 : Stmt} {rest : List Stmt} {sLaw : Stmt} {f : Addr} {fd : FuncData} {k m : Nat} {spD0 : PySem.W.Frag → Sp}
    (F : Fun K "law" "law" sLaw f fd) (S : FnScope N ["script"] (defScope sLaw)) (hbody : defBody sLaw = st1 :: rest) (hN : N.length = m + 2)
    (hsp : ∀ (a : Addr) (ns : List Int) (H : Hp) (Q : VK), SqL K H a (ns.map V.int) → ns.length ≤ 63 → (∀ (H' : Hp) (δ : DkS) (p : Addr), Same H H' → IsDk kd δ p → δ.at0 H' 0 → (∀ b, b ∈ δ.own → H' b ≠ none) → Q (.ref p) H') → spD0 K [.ref a] H Q E0)
    (h : ∀ (cdv : Value) (A : Around) (outer : List Env) (s : Shared) (H : Hp), A.guards = some [] → Room k (A.deeper (envOfC "law" (defScope sLaw) s.heap.objs.size f cdv)) →
      PS (cxOf CX0 P w K mg base N "law" (defScope sLaw) f cdv A outer s H E0).nox st1 (tAsg (fun σ H Q => tCons (tVar 0) tNil σ H fun vs H1 => spD0 K vs H1 Q E0) (gName 1)) ∧
      ∀ Y : Fx, ∃ t, DSs Y (cxOf CX0 P w K mg base N "law" (defScope sLaw) f cdv A outer s H E0).nox rest t ∧ t { nx := fun _ _ => False, rt := fun d _ => d = .bool true } (none :: some (.deck kd) :: List.replicate m none) Wo.z) :
    FnG P w K mg base (k + 1) f fd ["script"] (spLaw K) := by
  refine fng_of F S (fun vs H Q E ⟨a, ns, e, _⟩ => by rw [e]; rfl) fun cdv A outer s H vs Q hgd hr ⟨a, ns, e, hS, hlen, _, hk⟩ => ?_
  subst e
  obtain ⟨h1, h0⟩ := h cdv A outer s H hgd hr
  rw [hbody]
  refine ⟨_, pss_cons h1 (pss_any fun Y => (h0 Y).choose_spec.1), ?_⟩
  have hst : L2.start N [V.ref a] = some (.ref a) :: none :: List.replicate m none := by
    unfold L2.start
    rw [hN]
    rfl
  refine ⟨.ref a, by rw [hst]; rfl, hsp a ns H _ hS hlen fun H' δ p hs hd hat hne => ?_⟩
  refine ⟨⟨fun _ => none, H', δ⟩, ?_⟩
  obtain ⟨h2, h3⟩ := (h0 ⟨fun _ => none, H', δ⟩).choose_spec
  refine ⟨⟨fun _ => none, H', δ⟩, fun _ => none, none :: some (.deck kd) :: List.replicate m none, Wo.z, _, ⟨⟨fun _ _ q => (by cases q), ⟨hat, fun _ _ e => (nomatch e), fun _ _ e => (nomatch e)⟩, fun b hb => ⟨rfl, hne b hb⟩, Same.refl _, fun _ _ q => q, fun _ _ _ q _ => q, fun _ _ _ _ q => ⟨_, q⟩⟩, rfl, rfl, Gr.refl, ?_, fun i x q => ?_, fun i j b ds y _ q _ _ _ _ => ?_⟩, h3, ⟨fun _ _ _ _ _ q _ => q.elim, fun d n' F2 H2 v q _ r => ?_, fun _ _ _ _ _ q _ => q.elim, fun _ _ _ _ _ q _ => q.elim⟩⟩
  · rw [hst]; simp
  · rw [hst]
    have rep : ∀ (j : Nat) (z : Dv), (List.replicate m (none : Option Dv))[j]? ≠ some (some z) := fun j z e => by
      rw [List.getElem?_replicate] at e
      split at e <;> cases e
    match i, q with
    | 1, q => cases q; exact ⟨.ref p, rfl, p, rfl, hd⟩
    | j + 2, q => exact absurd q (rep j x)
  · have rep : ∀ (j : Nat) (z : Dv), (List.replicate m (none : Option Dv))[j]? ≠ some (some z) := fun j z e => by
      rw [List.getElem?_replicate] at e
      split at e <;> cases e
    match i, q with
    | j + 2, q => exact absurd q (rep j _)
  · have q' : d = .bool true := q
    subst q'
    simp only [Rp] at r
    subst r
    exact hk _
end
end DL
namespace DL
open PySem PySem.Spec PyProof.Rows L2
section
variable {prog : Program} {w : World} {A : Around} {E : Value → Shared → Prop} {s : Shared}
theorem back_adjust (n : Nat) : Builtin.Slice.sliceAdjust none none (-1) (n : Int) = ((n : Int) - 1, -1) := rfl
theorem back_places (n : Nat) : Builtin.Slice.slicePlaces ((n : Int) - 1) (-1) (-1) = n := by
  show (if (-1 : Int) > 0 then _ else (if (n : Int) - 1 > -1 then ((n : Int) - 1 - -1 - 1) / (- -1) + 1 else 0)).toNat = n
  rw [if_neg (by decide)]
  by_cases h : (n : Int) - 1 > -1
  · rw [if_pos h, show (- -1 : Int) = 1 by decide, Int.ediv_one]; omega
  · rw [if_neg h]; omega
theorem back_applied {sl : Addr} {vl vu vs : Value} {n : Nat} {Q : Int × Int × Nat → Shared → Prop} (hs : s.heap.IsSliceOf sl vl vu vs) (pl : IsPart vl none) (pu : IsPart vu none) (ps : IsPart vs (some (-1))) (h : Q ((n : Int) - 1, -1, n) s) :
    wpAny (model prog w) A (Builtin.Slice.sliceApplied (.ref sl) (pure (n : Int))) Q E s := by
  obtain ⟨os, g1, g2, g3⟩ := id hs
  unfold Builtin.Slice.sliceApplied Builtin.Slice.sliceFields
  refine wpAny_bind (wpAny_bind (wpAny_field g1 g3 (x := vl) rfl (wpAny_bind (wpAny_field g1 g3 (x := vu) rfl (wpAny_bind (wpAny_field g1 g3 (x := vs) rfl (wpAny_pure ?_)))))))
  refine wpAny_bind (HT.slicePart_ ps ?_)
  show wpAny _ _ (if ((-1 : Int) == 0) = true then _ else _) _ _ s
  rw [if_neg (by decide)]
  refine wpAny_bind (HT.slicePart_ pl (wpAny_bind (HT.slicePart_ pu (wpAny_bind (wpAny_pure ?_)))))
  show wpAny _ _ (match Builtin.Slice.sliceAdjust none none (-1) (n : Int) with | (lo, hi) => pure (lo, (-1 : Int), Builtin.Slice.slicePlaces lo hi (-1))) _ _ s
  rw [back_adjust n]
  show wpAny _ _ (pure ((n : Int) - 1, (-1 : Int), Builtin.Slice.slicePlaces ((n : Int) - 1) (-1) (-1))) _ _ s
  rw [back_places]
  exact wpAny_pure h
theorem back_pick (xs : Array Value) : ((List.range xs.size).filterMap fun (m : Nat) => xs[((xs.size : Int) - 1 + (m : Int) * -1).toNat]?).toArray = xs.toList.reverse.toArray := by
  have e : ((List.range xs.size).filterMap fun (m : Nat) => xs[((xs.size : Int) - 1 + (m : Int) * -1).toNat]?) = ((List.range xs.size).map fun k => xs.size - 1 - k).filterMap (xs[·]?) := by
    rw [List.filterMap_map]
    congr 1
    funext m
    have : ((xs.size : Int) - 1 + (m : Int) * -1).toNat = xs.size - 1 - m := by omega
    rw [this]
    rfl
  rw [e, PySem.W.krv_range, List.filterMap_reverse, PySem.W.krv_all]
theorem getItem_back {t sl : Addr} {items : Array Value} {vl vu vs : Value} {Q : Value → Shared → Prop} (ht : IsTup s.heap t items) (hs : s.heap.IsSliceOf sl vl vu vs) (pl : IsPart vl none) (pu : IsPart vu none) (ps : IsPart vs (some (-1)))
    (h : Q (.ref s.heap.objs.size) { s with heap := s.heap.push { cls := .type "tuple", data := .seq items.toList.reverse.toArray } }) (hsz : items.size ≤ sizeLine) : wpAny (model prog w) A (getItem (.ref t) (.ref sl)) Q E s := by
  have hok : sizeOk (.seq items.toList.reverse.toArray) := by
    show items.toList.reverse.toArray.size ≤ sizeLine
    rw [List.size_toArray, List.length_reverse, Array.length_toList]; exact hsz
  obtain ⟨os, g1, g2, g3⟩ := id hs
  have hT : s.TypeIs (.ref sl) "slice" := ⟨os, g1, g2⟩
  unfold getItem
  (try with_reducible refine wpAny_holding ?_); (first | refine wpAny_bind (wpAny_pure ?_) | skip)
  refine wpAny_bind (wpAny_sequenceKey ht.typeIs (by decide) (wpAny_bind (wpAny_callSpecial?_slot (name := Str.ofString "__getitem__") ht.typeIs PyProof.Rows.slot_tuple_getitem (wpAny_call_entry PyProof.Rows.slot_tuple_getitem ht.typeIs entry_tuple_getitem ?_ (args_tuple_getitem _ _)))))
  show wpAny _ _ (Builtin.Tuple.tupleItemsOf (.ref t) >>= _) _ _ s
  refine wpAny_bind (tupleItemsOf_ ht (wpAny_bind (wpAny_typeOf hT ?_)))
  rw [if_pos (by decide)]
  refine wpAny_bind (back_applied hs pl pu ps ?_)
  have hno : ¬ (((items.size : Int) - 1 == 0 && (-1 : Int) == 1 && items.size == items.size) = true) := by
    intro q
    rw [Bool.and_eq_true, Bool.and_eq_true] at q
    exact absurd q.1.2 (by decide)
  show wpAny _ _ (if ((items.size : Int) - 1 == 0 && (-1 : Int) == 1 && items.size == items.size) = true then _ else _) _ _ s
  rw [if_neg hno, back_pick]
  first
    | exact wpAny_bind (m := Builtin.Tuple.tupleExact _) (wpAny_newObj_type (wpAny_pure ⟨_, rfl, wpAny_pure h⟩) hok)
    | exact wpAny_bind (m := Builtin.Tuple.tupleExact _) (wpAny_newObj_type (wpAny_bind (wpAny_pure (wpAny_pure ⟨_, rfl, wpAny_pure h⟩))) hok)
    | exact wpAny_bind (wpAny_bind (m := Builtin.Tuple.tupleExact _) (wpAny_newObj_type (wpAny_pure (wpAny_pure ⟨_, rfl, wpAny_pure h⟩)) hok))
    | exact wpAny_bind (wpAny_bind (m := Builtin.Tuple.tupleExact _) (wpAny_newObj_type (wpAny_pure ⟨_, rfl, wpAny_pure h⟩) hok))
end
def tRevS (K : PySem.W.Frag) (te : TE) : TE := fun σ H Q => te σ H fun x H1 => ∃ a xs, x = .ref a ∧ SqT K H1 a xs ∧ ∀ p, H1 p = none → Q (.ref p) (upd H1 p (.tup xs.reverse))
variable {X : Cx} {Y : Fx}
theorem pe_revS {e : Expr} {te : TE} {k : Nat} {p1 p2 p3 pos : Pos} (he : PE X e te) : PE X (.Subscript e (.Slice none none (some (.UnaryOp .USub (.Constant (.int 1) k p1) p2)) p3) pos) (tRevS X.K te) := ⟨fun pins s σ H Q I h => by
  refine Subscript_ (thn (he.run pins s σ H _ I h) fun v s1 ⟨x, H1, I1, r1, a, xs, ex, hx, q⟩ => ?_)
  subst ex
  cases r1
  have hst : PO X (some (.UnaryOp .USub (.Constant (.int 1) k p1) p2)) (tPart (tUn (rU fun i => .int (-i)) (tC (.int 1)))) := po_some (pe_un un_neg pe_int)
  refine wpAny_Slice (thn (po_none.run pins s1 σ H1 (fun o Hb => o = none ∧ Hb = H1) I1 ⟨rfl, rfl⟩) fun vl s2 ⟨l, H2, I2, pl, el, e2⟩ => ?_)
  subst el e2
  refine thn (po_none.run pins s2 σ H2 (fun o Hb => o = none ∧ Hb = H2) I2 ⟨rfl, rfl⟩) fun vu s3 ⟨u, H3, I3, pu, eu, e3⟩ => ?_
  subst eu e3
  refine thn (hst.run pins s3 σ H3 (fun o Hb => o = some (-1) ∧ Hb = H3) I3 ⟨1, rfl, -1, rfl, rfl, rfl⟩) fun vs s4 ⟨o, H4, I4, ps, eo, e4⟩ => ?_
  subst eo e4
  have I5 : Inv X pins σ H4 { s4 with heap := s4.heap.push { cls := .type "slice", data := .fields #[vl, vu, vs] } } := I4.kept (t' := s4.toks) fun b ob q => Heap.get?_push_of_some _ q
  obtain ⟨its, r, ht, hz⟩ := I5.tuple hx
  have hlen := r.length
  show wpAny (model X.prog X.w) X.A (subscriptTail e (.Slice none none (some (.UnaryOp .USub (.Constant (.int 1) k p1) p2)) p3) (.ref a) (.ref s4.heap.objs.size)) (EP X pins σ Q) X.xe { s4 with heap := s4.heap.push { cls := .type "slice", data := .fields #[vl, vu, vs] } }
  refine tail_any (ops := [.ref a, .ref s4.heap.objs.size]) ht.typeIs (PyProof.Rows.slot_tuple_getitem.lookup) ?_ (by with_unfolding_all rfl)
  refine getItem_back ht (Heap.IsSliceOf.new _ vl vu vs) pl pu ps ?_ (by rw [List.size_toArray]; omega)
  refine ⟨.ref _, _, I5.laid (t' := s4.toks) (o := .tup xs.reverse) (fun b ob q => Heap.get?_push_of_some _ q) (Nat.le_refl _) ?_, rfl, q _ (I5.hok.fresh (Nat.le_refl _))⟩
  exact ⟨by rw [List.length_reverse]; exact hz, _, r.reverse, IsTup.new _ _⟩⟩
def oRevS (x : Dv) (R : PyData → Prop) : Prop := ∃ ds, x.toD = .tuple ds ∧ R (.tuple ds.reverse)
theorem we_revT {e : Expr} {t : DTE} {pos p1 p2 p3 : Pos} {k : Nat} (he : WE Y X e t) : WE Y X (.Subscript e (.Slice none none (some (.UnaryOp .USub (.Constant (.int 1) k p1) p2)) p3) pos) (dUn oRevS t) :=
  pe_imp (pe_revS he) (one (r := fun x H1 Q => ∃ a xs, x = .ref a ∧ SqT X.K H1 a xs ∧ ∀ p, H1 p = none → Q (.ref p) (upd H1 p (.tup xs.reverse))) fun δ F H x v R Q hs hx ⟨ds, e, hr⟩ b => by
    obtain ⟨a, xs, rfl, h1, h2⟩ := hx.tpl hs e
    exact ⟨a, xs, rfl, sqtR (rdS hs h1), fun p hp => b.tup hs hr h2.rev hp⟩)
end DL
namespace DL
open PySem PySem.Spec PyProof.Rows L2
open Sem (wp) in
open AutoSeq1 (wpAny_loadPart') in
theorem meets_enumT (l : Addr) (items : Array Value) (n : Nat) (dct : Option Addr) (sl : Array (Option Value)) :
    Meets (Builtin.«enumerate.__new__» ⟨[.type "enumerate", .ref l], []⟩) (fun _ R s => s.heap.get? l = some { cls := .type "tuple", dict := dct, data := .seq items n, slots := sl } ∧
      R (.ok (.ret (.ref (s.heap.push { cls := .type "tuple_iterator", data := .fields #[.ref l, .int 0 0] }).objs.size)))
        { s with heap := (s.heap.push { cls := .type "tuple_iterator", data := .fields #[.ref l, .int 0 0] }).push { cls := .type "enumerate", data := .fields #[.none, .bool false, .ref s.heap.objs.size, rawInt 0, .none, .none] } }) :=
  .of_wp fun prog w A R s h => by
    obtain ⟨hp, g, d, tk, os⟩ := s; obtain ⟨hl, h⟩ := h
    have hsub := sub_enumerate
    have hL : Heap.IsTuple (Shared.heap ⟨hp, g, d, tk, os⟩) l items := ⟨_, hl, rfl, n, rfl⟩
    wp_walk using wpAny_loadPart' hl
    refine wpAny_stack_any fun st => wpAny_pure ?_
    split
    · rename_i c _ _ _ _ _
      cases (c == Value.type "enumerate")
      · wp_walk using wpAny_loadPart' hl, wpAny_pyIter_tuple hL
        exact ⟨_, rfl, h⟩
      · wp_walk using wpAny_loadPart' hl, wpAny_pyIter_tuple hL
        exact ⟨_, rfl, h⟩
    · wp_walk using wpAny_loadPart' hl, wpAny_pyIter_tuple hL
      exact ⟨_, rfl, h⟩
section
variable {prog : Program} {w : World} {A : Around} {E : Value → Shared → Prop} {s : Shared}
theorem call_enumT {l : Addr} {items : Array Value} {Q : Value → Shared → Prop} (hL : s.heap.IsTuple l items)
    (h : ∀ h', IsEnum h' (s.heap.objs.size + 1) s.heap.objs.size 0 .none → h'.IsTupleIter s.heap.objs.size l 0 → (∀ b o, s.heap.get? b = some o → h'.get? b = some o) → Q (.ref (s.heap.objs.size + 1)) { s with heap := h' }) :
    wpAny (model prog w) A (call (.type "enumerate") [.ref l]) Q E s := by
  obtain ⟨⟨c, dct, dt, sl⟩, hl, hc, n, hd⟩ := hL
  replace hc : c = .type "tuple" := hc
  replace hd : dt = .seq items n := hd
  subst hc hd
  refine callType_new F.called_enumerate (by decide) (F.typeCall_enumerate_1 _) (F.newCall_enumerate_1 _) (fun obj => F.args_object_init_2 obj _) F.entry_enumerate_new (meets_enumT l items n dct sl) ⟨hl, ?_⟩
  have hz : (s.heap.push { cls := .type "tuple_iterator", data := .fields #[.ref l, .int 0 0] }).objs.size = s.heap.objs.size + 1 := Heap.size_push ..
  show _ ∧ _
  rw [hz]
  have he : IsEnum ((s.heap.push { cls := .type "tuple_iterator", data := .fields #[.ref l, .int 0 0] }).push { cls := .type "enumerate", data := .fields #[.none, .bool false, .ref s.heap.objs.size, rawInt 0, .none, .none] }) (s.heap.objs.size + 1) s.heap.objs.size 0 .none := by
    have z := Heap.get?_push_size (s.heap.push { cls := .type "tuple_iterator", data := .fields #[.ref l, .int 0 0] }) (o := { cls := .type "enumerate", data := .fields #[.none, .bool false, .ref s.heap.objs.size, rawInt 0, .none, .none] }) rfl
    rw [hz] at z; exact z
  exact ⟨⟨_, he, rfl⟩, h _ he ⟨_, Heap.get?_push_of_some _ (Heap.get?_push_size _ rfl), rfl, rfl⟩ fun b o x => Heap.get?_push_of_some _ (Heap.get?_push_of_some _ x)⟩
theorem enumT_end {e it t : Addr} {i : Nat} {c : Int} {items : Array Value} {old : Value} {Q : Option Value → Shared → Prop} (hh : A.handled = none) (he : IsEnum s.heap e it c old) (hit : s.heap.IsTupleIter it t i) (ht : s.heap.IsTuple t items) (hx : items[i]? = none)
    (hQ : ∀ h', Heap.ExtBut it s.heap h' → Q none { s with heap := h' }) : wpAny (model prog w) A (pyNext (.ref e)) Q E s := by
  have hT : s.TypeIs (.ref e) "enumerate" := ⟨_, he, rfl⟩
  unfold pyNext
  refine wpAny_bind (wpAny_attempt (wpAny_callSpecial?_slot (name := Str.ofString "__next__") hT F.slot_enumerate_next (wpAny_call_entry F.slot_enumerate_next hT F.entry_enumerate_next ?_ (F.args_enumerate_next_1 _))))
  show wpAny _ _ (field (.ref e) 2 >>= _) _ _ _
  refine wpAny_bind (wpAny_field he rfl (x := .ref it) rfl (wpAny_bind (wpAny_nextOf_tuple_end hh hit ht hx fun h' x he' ⟨o, ho, hc⟩ => ?_)))
  exact wpAny_bind (wpAny_isInstance (T := "StopIteration") (b := true) ⟨o, ho, hc⟩ isSubtype_stop (wpAny_pure (hQ _ he')))
end
/-- the tuple at a, each item in a new pair -/
def ItET (K : PySem.W.Frag) (a : Addr) : It :=
  ⟨fun i H => ∃ (xs : List V) (x : V), SqT K H a xs ∧ xs[i]? = some x, fun i H v H' => ∃ T x, v = .ref T ∧ H T = none ∧ H' = upd H T (.tup [.int (i : Nat), x]) ∧ ∀ xs, SqT K H a xs → xs[i]? = some x, fun i H => ∃ xs : List V, SqT K H a xs ∧ xs.length ≤ i⟩
theorem turn_enumT {P : Program} {w : World} {K : PySem.W.Frag} {elts : List Expr} {kk : Nat} {tpos : Pos} (a e it : Addr) (hai : a ≠ it) (hae : a ≠ e) :
    Turn P w K (.Tuple elts kk tpos) (ItET K a) [e, it] e (fun i h => (∃ old, IsEnum h e it ((i : Nat) : Int) old) ∧ h.IsTupleIter it a i ∧ e ≠ it) where
  mem := by simp
  obj := fun i h st b hb => by
    obtain ⟨⟨old, he⟩, ⟨o, ho, hc, hd⟩, _⟩ := st
    rcases (show b = e ∨ b = it by simpa using hb) with z | z
    · rw [z]; exact ⟨_, he, fun v q => nomatch q⟩
    · rw [z]; exact ⟨o, ho, fun v q => by rw [hd] at q; cases q⟩
  keep := fun i h h' st k => let ⟨⟨old, he⟩, hi, hne⟩ := st; ⟨⟨old, k e (by simp) _ he⟩, hi.at fun o q => k it (by simp) o q, hne⟩
  item := by
    intro X hP hw hK hc i pins s σ H E I hf st hg
    subst hP hw hK
    obtain ⟨⟨old, he⟩, hit, hne⟩ := st
    obtain ⟨xs, x, hq, hx⟩ := hg
    obtain ⟨its, rv, p, hz⟩ := I.tuple hq
    obtain ⟨u, hu, ru⟩ := rv.get hx
    have hel : e < s.heap.objs.size := Heap.lt_size he
    have hil : it < s.heap.objs.size := by obtain ⟨_, q, _⟩ := hit; exact Heap.lt_size q
    have hin : i < its.toArray.size := by
      have := (List.getElem?_eq_some_iff.mp hu).1
      simpa using this
    refine wpAny_pyNext_enum_itemC (fp := [it, a]) (Draws.tuple (A := X.A.in1) (I.ok.hd hc) it a hai its.toArray) he (i := i) ⟨hit, p⟩ hin hne (by simp; exact ⟨hne, Ne.symm hae⟩) fun y h' tk hy ho hst hT hsz hk => ?_
    have ey : y = u := by
      have : its.toArray[i]? = some u := by simpa using hu
      rw [hy] at this; exact Option.some.inj this
    subst ey
    refine ⟨_, rfl, wpAny_letOwnedTupleGo_enum (s := { s with heap := h', toks := tk + 1 }) ho fun h'' he' sb => ?_⟩
    have hT2 : h''.get? s.heap.objs.size = some { cls := .type "tuple", data := .seq #[.int i tk, y] } := (sb.2 _ (Nat.ne_of_gt hel)).trans hT
    have new : ObjOk X.prog X.w (upd H s.heap.objs.size (.tup [.int (i : Nat), x])) h'' s.heap.objs.size (.tup [.int (i : Nat), x]) := ⟨by show 2 ≤ sizeLine; decide, [.int i tk, y], .cons ⟨_, rfl⟩ (.cons ru .nil), ⟨_, hT2, rfl, _, rfl⟩⟩
    have I1 : Inv X pins σ (upd H s.heap.objs.size (.tup [.int (i : Nat), x])) { s with heap := h'', toks := tk + 1 } :=
      I.turnedNew (ch := [e, it]) (fun b ob hb q => (sb.2 b (fun z => hb (by simp [z]))).trans (hk b ob (fun z => hb (by simp [z])) (fun z => hb (by simp [z])) q)) hf (Nat.le_refl _) new
    refine ⟨.ref s.heap.objs.size, _, I1, rfl, ⟨_, x, rfl, I.hok.fresh (Nat.le_refl _), rfl, fun ys hy => by rw [I.tuple_inj hy hq]; exact hx⟩, ⟨⟨y, ?_⟩, hst.1.at fun o q => (sb.2 it (Ne.symm hne)).trans q, hne⟩, fun b hb => ?_⟩
    · rw [show ((i + 1 : Nat) : Int) = (i : Int) + 1 by omega]
      exact he'
    · have hb' : b < s.heap.objs.size := by
        rcases (show b = e ∨ b = it by simpa using hb) with z | z
        · rw [z]; exact hel
        · rw [z]; exact hil
      rw [upd_ne (Nat.ne_of_lt hb')]
      exact (hf b hb).1
  done := by
    intro X hP hw hK hc i pins s σ H E I hf st hg
    subst hP hw hK
    obtain ⟨⟨old, he⟩, hit, hne⟩ := st
    obtain ⟨xs, hq, hx⟩ := hg
    obtain ⟨its, rv, p, hz⟩ := I.tuple hq
    obtain ⟨f0, f1, f2, f3, f4, f5⟩ := hf it (by simp)
    have hl := rv.length
    exact enumT_end (A := X.A) (I.ok.hd hc) he hit p (by simp; omega) fun h' eb => ⟨rfl, I.turned (t' := s.toks) (fun b o hb q => eb b o hb q) f0 f1 f3 f4 f5⟩
  self := fun A i s Q E st h => let ⟨⟨_, he⟩, _⟩ := st; wpAny_pyIter_enum he h
/-- enumerate of a list or a tuple -/
def iEnA (K : PySem.W.Frag) (ta : TA) : TI := fun σ H R => ta σ H fun vs H1 => ∃ a, vs = [.ref a] ∧ ((∃ xs, H1 a = some (.lst xs) ∧ R (Ite K a) H1) ∨ ∃ xs, Rd H1 a (.tup xs) ∧ R (ItET K a) H1)
variable {X : Cx} {Y : Fx}
theorem pi_enA {e : Expr} {ta : TA} {p pos tpos : Pos} {elts : List Expr} {kk : Nat} (hg : Gl X "enumerate") (hm : X.mg "enumerate" = none) (ha : PA X [e] ta) (hs : starEach [e] X.env = [(false, eval e X.env)] := by rfl) :
    PI X (.Tuple elts kk tpos) (.Call (.Name "enumerate" p) [e] [] pos) (iEnA X.K ta) := ⟨fun pins s σ H R I h => by
  refine Call_ (ld_blt I hg hm boot_enumerate (PyProof.Rows.callWith_type1 (thn (ha.run pos pins s σ H _ I h) fun us s1 ⟨vs, H1, I1, r1, a, ex, q⟩ => ?_) hs rfl))
  subst ex
  cases r1 with
  | cons r rr =>
    cases rr
    cases r
    have fresh : ∀ b ∈ [s1.heap.objs.size + 1, s1.heap.objs.size], FpOk X pins H1 b := fun b hb => by
      have hle : s1.heap.objs.size ≤ b := by
        rcases (show b = s1.heap.objs.size + 1 ∨ b = s1.heap.objs.size by simpa using hb) with z | z <;> omega
      exact I1.fpOk hle (I1.hok.fresh hle)
    rcases q with ⟨xs, hq, q⟩ | ⟨xs, hq, q⟩
    · obtain ⟨its, rv, p', hz⟩ := I1.list (SqL.of hq)
      refine call_enumerate_list p'.isList fun h' he hit hsz hk => wpAny_pyIter_enum he ?_
      exact ⟨s1.heap.objs.size + 1, [s1.heap.objs.size + 1, s1.heap.objs.size], _, _, H1, rfl, I1.kept (t' := s1.toks) hk, turn_enum a (s1.heap.objs.size + 1) s1.heap.objs.size, ⟨⟨.none, he⟩, hit, Nat.succ_ne_self _⟩, fresh, q⟩
    · obtain ⟨its, rv, p', hz⟩ := I1.tuple (sqtR hq)
      obtain ⟨ol, hol, _⟩ := id (show s1.heap.IsTuple a its.toArray from p')
      have hlt := Heap.lt_size hol
      refine call_enumT (show s1.heap.IsTuple a its.toArray from p') fun h' he hit hk => wpAny_pyIter_enum he ?_
      exact ⟨s1.heap.objs.size + 1, [s1.heap.objs.size + 1, s1.heap.objs.size], _, _, H1, rfl, I1.kept (t' := s1.toks) hk, turn_enumT a (s1.heap.objs.size + 1) s1.heap.objs.size (Nat.ne_of_lt hlt) (Nat.ne_of_lt (Nat.lt_succ_of_lt hlt)), ⟨⟨.none, he⟩, hit, Nat.succ_ne_self _⟩, fresh, q⟩⟩
theorem itOk_enT {K : PySem.W.Frag} {F : Hp} {a : Addr} {vs : List V} {ds : List PyData} (h : Rd F a (.tup vs)) (r : Rps K F ds vs) : ItOk K (ItET K a) F (enumD ds) where
  go := fun i H s hi => by
    rw [enumD_length] at hi
    exact ⟨vs, vs[i]'(by rw [← r.length]; exact hi), sqtR (rdS s h), by simp⟩
  stop := fun i H s hi => ⟨vs, sqtR (rdS s h), by rw [← r.length, ← enumD_length]; exact hi⟩
  yld := fun i H v H' x ⟨T, y, e1, e2, e3, e4⟩ s hx => by
    obtain ⟨d, q1, q2⟩ := enumD_get hx
    obtain ⟨w, q3, q4⟩ := r.get q1
    rw [e4 vs (sqtR (rdS s h))] at q3; cases q3
    exact .inr ⟨T, _, _, e1, e2, e3, q2, rps_cons (by simp [Rp]) (rps_cons q4 rps_nil)⟩
def dEnA (t : DTA) : DSrc := fun ρ n R => t ρ n fun xs n' => ∃ d ds, xs = [.dat d] ∧ seqD d = some ds ∧ R (enumD ds) n'
theorem di_enumA {e : Expr} {t : DTA} {p pos tpos : Pos} {elts : List Expr} {kk : Nat} (hg : Gl X "enumerate") (hm : X.mg "enumerate" = none) (ha : WA Y X [e] t) (hs : starEach [e] X.env = [(false, eval e X.env)] := by rfl) :
    DI Y X (.Tuple elts kk tpos) (.Call (.Name "enumerate" p) [e] [] pos) (dEnA t) :=
  pi_imp (pi_enA hg hm ha hs) fun σ H R ⟨Z, F, ρ, n, Q, r, ht, k⟩ => ⟨Z, F, ρ, n, _, r, ht, fun xs n1 F1 H1 vs ⟨d, ds, e, e2, hx⟩ g1 s1 d1 w1 => by
    subst e
    obtain ⟨v, rfl, w2⟩ := vr1 w1
    have w3 : Rp X.K F1 d v := w2
    cases d with
    | list es =>
      cases e2
      simp only [Rp] at w3
      obtain ⟨a, vs, rfl, h1, h2⟩ := w3
      exact ⟨a, rfl, .inl ⟨vs, s1 _ _ h1, k _ _ _ _ _ hx g1 s1 d1 (itOk_enum h1 h2)⟩⟩
    | tuple es =>
      cases e2
      simp only [Rp] at w3
      obtain ⟨a, vs, rfl, h1, h2⟩ := w3
      exact ⟨a, rfl, .inr ⟨vs, rdS s1 h1, k _ _ _ _ _ hx g1 s1 d1 (itOk_enT h1 h2)⟩⟩
    | _ => cases e2⟩
end DL
namespace DL
open PySem PySem.Spec PyProof.Rows L2
variable {X : Cx} {Y : Fx}
theorem Rps.erase {K : PySem.W.Frag} {F : Hp} : ∀ {ds : List PyData} {vs : List V} (j : Nat), Rps K F ds vs → Rps K F (ds.eraseIdx j) (vs.eraseIdx j)
  | [], _, _, h => by simp only [Rps] at h; subst h; simp [Rps]
  | d :: ds, _, 0, h => by
    simp only [Rps] at h
    obtain ⟨v, r, rfl, h1, h2⟩ := h
    exact h2
  | d :: ds, _, j + 1, h => by
    simp only [Rps] at h
    obtain ⟨v, r, rfl, h1, h2⟩ := h
    exact rps_cons h1 (Rps.erase j h2)
def prD (p : Int × Int) : PyData := .tuple [.int p.1, .int p.2]
def oSortP : DCM := fun xs R => ∃ x, ∃ ps : List (Int × Int), xs = [x] ∧ x.toD = .list (ps.map prD) ∧ ∀ qs : List (Int × Int), qs.Perm ps → qs.Pairwise (fun p q => p.1 < q.1 ∨ (p.1 = q.1 ∧ p.2 ≤ q.2)) → R (qs.map prD)
/-- sorted of a list of pairs of ints, frozen ones too -/
def rSortedPR (K : PySem.W.Frag) : List V → Hp → VK → Prop := fun vs H Q => ∃ (a : Addr) (xs : List V) (k : V → Int × Int), vs = [V.ref a] ∧ SqL K H a xs ∧ (∀ x ∈ xs, ∃ t, x = V.ref t ∧ Rd H t (.tup [.int (k x).1, .int (k x).2])) ∧
  ∀ ys p, SrtO.Srtd (ltP k) ys → SrtO.Stb (ltP k) ys xs → H p = none → Q (.ref p) (upd H p (.lst ys))
theorem cr_sortedPO {X : Cx} : CallR X (.builtin "sorted") (rSortedPR X.K) := by
  intro pins s σ H vs us Q I r h
  obtain ⟨a, xs, k, rfl, hs, hx, q⟩ := h
  obtain ⟨its, rv, hl, hz⟩ := I.list hs
  obtain ⟨u, rfl, ru⟩ := vals1 r
  obtain rfl : u = Value.ref a := ru
  obtain ⟨e1, e2⟩ := refs_back rv fun x m => by
    obtain ⟨t, e, _⟩ := hx x m
    exact ⟨t, e⟩
  refine SrtO.sorted_pairsO (k := fun u => k (backV u)) hl.isList (by rw [← rv.length]; exact hz) (fun v hv => ?_) fun h' d out h1 h2 kp hd hn => ?_
  · obtain ⟨t, rfl⟩ := e2 v hv
    have hm : V.ref t ∈ xs := by rw [e1]; exact List.mem_map.mpr ⟨_, hv, rfl⟩
    obtain ⟨t', e, ht⟩ := hx _ hm
    cases e
    obtain ⟨its2, r2, ⟨o, ho, hc, n, hd⟩, _⟩ := I.tuple (sqtR ht)
    obtain ⟨u1, u2, rfl, ri, rj⟩ := vals2 r2
    obtain ⟨t1, rfl⟩ := ri
    obtain ⟨t2, rfl⟩ := rj
    exact ⟨t, o, t1, t2, n, rfl, ho, hc, hd⟩
  · have h3 : ∀ u ∈ out, ∃ a, u = Value.ref a := fun u hu => e2 u (h2.perm.mem_iff.mp hu)
    obtain ⟨n, hn⟩ := hn
    have hb : SrtO.Stb (ltP k) (out.map backV) xs := by
      rw [e1]
      exact SrtO.Stb.map (ltP_swo k) backV h2
    refine ⟨.ref d, upd H d (.lst (out.map backV)), I.laid (t' := s.toks) kp hd ⟨?_, out, n, vals_back h3, hn⟩, rfl, q _ d (SrtO.srtd_map h1) hb (I.hok.fresh hd)⟩
    rw [hb.len]
    exact hz
def keyV (F : Hp) (x : V) : Int × Int := match x with
  | .ref t => match F t with
    | some (.tup [.int a, .int b]) => (a, b)
    | some (.frz _ (.tup [.int a, .int b])) => (a, b)
    | _ => (0, 0)
  | _ => (0, 0)
theorem key_of {K : PySem.W.Frag} {F : Hp} {p : Int × Int} {v : V} (h : Rp K F (prD p) v) : ∃ t, v = .ref t ∧ Rd F t (.tup [.int p.1, .int p.2]) ∧ keyV F v = p := by
  unfold prD at h
  simp only [Rp] at h
  obtain ⟨a, xs, rfl, h1, h2⟩ := h
  obtain ⟨u, w, rfl, h3, h4⟩ := rps2 h2
  simp only [Rp] at h3 h4
  subst h3 h4
  exact ⟨a, rfl, h1, by
    show (match F a with | some (.tup [.int x, .int y]) => (x, y) | some (.frz _ (.tup [.int x, .int y])) => (x, y) | _ => (0, 0)) = p
    rcases h1 with h1 | ⟨o, h1⟩ <;> rw [h1]⟩
theorem keys_of {K : PySem.W.Frag} {F : Hp} : ∀ {ps : List (Int × Int)} {vs : List V}, Rps K F (ps.map prD) vs → vs.map (keyV F) = ps ∧ ∀ v ∈ vs, Rp K F (prD (keyV F v)) v
  | [], _, h => by simp only [List.map_nil, Rps] at h; subst h; exact ⟨rfl, fun _ z => (nomatch z)⟩
  | p :: ps, _, h => by
    simp only [List.map_cons, Rps] at h
    obtain ⟨v, r, rfl, h1, h2⟩ := h
    obtain ⟨_, _, _, e⟩ := key_of h1
    obtain ⟨i1, i2⟩ := keys_of h2
    refine ⟨by rw [List.map_cons, e, i1], fun u hu => ?_⟩
    rcases List.mem_cons.mp hu with rfl | hu
    · rw [e]; exact h1
    · exact i2 u hu
theorem rps_keys {K : PySem.W.Frag} {F : Hp} : ∀ {vs : List V}, (∀ v ∈ vs, Rp K F (prD (keyV F v)) v) → Rps K F ((vs.map (keyV F)).map prD) vs
  | [], _ => rps_nil
  | v :: vs, h => rps_cons (h v (by simp)) (rps_keys fun u hu => h u (by simp [hu]))
theorem ck_sortP {K : PySem.W.Frag} : CallOkM K (rSortedPR K) oSortP := fun δ F H xs vs R Q hs hv ⟨x, ps, e, e2, hr⟩ b => by
  subst e
  obtain ⟨v, rfl, h1⟩ := vr1 hv
  obtain ⟨a, us, rfl, h2, h3⟩ := h1.lst hs e2
  obtain ⟨k1, k2⟩ := keys_of h3
  refine ⟨a, us, keyV F, rfl, SqL.of h2, fun x hx => ?_, fun ys p hsd hst hp => ?_⟩
  · obtain ⟨t, e3, e4, e5⟩ := key_of (k2 x hx)
    exact ⟨t, e3, rdS hs e4⟩
  · have hm : ∀ v ∈ ys, Rp K F (prD (keyV F v)) v := fun v hv => k2 v (hst.perm.mem_iff.mp hv)
    refine b ((ys.map (keyV F)).map prD) ys p (hr _ ?_ ?_) hp (rps_keys hm)
    · rw [← k1]; exact hst.perm.map _
    · rw [List.pairwise_map]
      refine List.Pairwise.imp (fun {u w} h => ?_) hsd
      have := SrtO.lexB_no.mp h
      omega
end DL
namespace DL
open PySem PySem.Spec PyProof.Rows L2
variable {X : Cx} {Y : Fx}
structure ItOkV (K : PySem.W.Frag) (δ : DkS) (J : It) (F1 H1 : Hp) (xs : List PyData) : Prop where
  go : ∀ (i : Nat) H, (∀ a o, a ∉ δ.own → H1 a = some o → isIns o = false → H a = some o) → Same F1 H → i < xs.length → J.go i H
  stop : ∀ (i : Nat) H, (∀ a o, a ∉ δ.own → H1 a = some o → isIns o = false → H a = some o) → Same F1 H → xs.length ≤ i → J.stop i H
  yld : ∀ (i : Nat) H v H' x, J.yld i H v H' → (∀ a o, a ∉ δ.own → H1 a = some o → isIns o = false → H a = some o) → ∀ F2, Same F1 F2 → Same F2 H → xs[i]? = some x → ∃ F3, Gp F2 H F3 H' ∧ Same F3 H' ∧ Rp K F3 x v
theorem ItOk.toV {K : PySem.W.Frag} {δ : DkS} {J : It} {F1 H1 : Hp} {xs : List PyData} (h : ItOk K J F1 xs) : ItOkV K δ J F1 H1 xs :=
  ⟨fun i H _ s q => h.go i H s q, fun i H _ s q => h.stop i H s q, fun i H v H' x hy _ F2 s1 s2 hx => h.use s1 s2 hy hx⟩
theorem itOkV_list {K : PySem.W.Frag} {δ : DkS} {F H1 : Hp} {a : Addr} {vs : List V} {ds : List PyData} (h : H1 a = some (.lst vs)) (na : a ∉ δ.own) (r : Rps K F ds vs) : ItOkV K δ (Itl K a) F H1 ds where
  go := fun i H k s hi => ⟨vs, vs[i]'(by rw [← r.length]; exact hi), SqL.of (k _ _ na h rfl), by simp⟩
  stop := fun i H k s hi => ⟨vs, SqL.of (k _ _ na h rfl), by rw [← r.length]; exact hi⟩
  yld := fun i H v H' x ⟨e, y⟩ k F2 s1 s2 hx => by
    have h1 := y vs (SqL.of (k _ _ na h rfl))
    obtain ⟨w, e1, e2⟩ := r.get hx
    rw [h1] at e1; cases e1
    subst e
    exact ⟨F2, Gp.refl, s2, Rp.mono s1 x v e2⟩
def upIv (Y : Fx) (K : PySem.W.Frag) (t : DSrc) : TI := fun σ H R => ∃ Z F ρ n Q, SR Y K Z F H σ ρ n ∧ t ρ n Q ∧
  ∀ xs n' F' H' J, Q xs n' → Gr Z.δ F H F' H' → Same F' H' → Z.δ.at_ K F' H' n' → ItOkV K Z.δ J F' H' xs → R J H'
abbrev DIv (Y : Fx) (X : Cx) (tg iter : Expr) (t : DSrc) : Prop := PI X tg iter (upIv Y X.K t)
theorem div_of {tg iter : Expr} {t : DSrc} (h : DI Y X tg iter t) : DIv Y X tg iter t := pi_imp h fun σ H R ⟨Z, F, ρ, n, Q, r, ht, k⟩ => ⟨Z, F, ρ, n, Q, r, ht, fun xs n' F' H' J q g s d w => k xs n' F' H' J q g s d w.toV⟩
def dSrcV (t : DTE) : DSrc := fun ρ n R => t ρ n fun x n' => ∃ ds, seqD x.toD = some ds ∧ R ds n'
theorem di_seqV {tg e : Expr} {t : DTE} (he : WE Y X e t) : DIv Y X tg e (dSrcV t) := pi_imp (pi_seq he) fun σ H R ⟨Z, F, ρ, n, Q, r, ht, k⟩ =>
  ⟨Z, F, ρ, n, _, r, ht, fun x n1 F1 H1 v ⟨ds, e, hx⟩ g1 s1 d1 w1 => by
    cases x with
    | dat d =>
      cases d with
      | list es =>
        cases e
        simp only [VR, Rp] at w1
        obtain ⟨a, vs, rfl, h1, h2⟩ := w1
        exact ⟨a, rfl, .inl ⟨vs, s1 _ _ h1, k _ _ _ _ _ hx g1 s1 d1 (itOk_list h1 h2).toV⟩⟩
      | tuple es =>
        cases e
        simp only [VR, Rp] at w1
        obtain ⟨a, vs, rfl, h1, h2⟩ := w1
        exact ⟨a, rfl, .inr ⟨vs, rdS s1 h1, k _ _ _ _ _ hx g1 s1 d1 (itOk_tup h1 h2).toV⟩⟩
      | _ => cases e
    | vw es =>
      cases e
      obtain ⟨a, vs, rfl, h1, h2, h3⟩ := w1
      exact ⟨a, rfl, .inl ⟨vs, h1, k _ _ _ _ _ hx g1 s1 d1 (itOkV_list h1 h3 h2)⟩⟩
    | mt es => exact w1.elim
    | deck b => cases e
    | md _ _ => exact w1.elim⟩
theorem comp_imv {K : PySem.W.Frag} {s : DSrc} {t : TG} {g : DTG} {sl : List Nat} {tt : DTT} {te : DTE} {vs : List Nat} (hg : GOk K t g sl) (hv : ∀ i ∈ sl, i ∈ vs) : ∀ σ H Q, upM Y K (mComp s g tt te vs) σ H Q → tLc (upIv Y K s) t (upT Y K tt) (up Y K te) vs σ H Q :=
  fun σ H Q ⟨Z, F, ρ, n, R, r, ht, k⟩ => ⟨Z, F, ρ, n, _, r, ht, fun xs n1 F1 H1 J ⟨⟨I, h0, hstep, hend⟩⟩ g1 s1 d1 w1 => by
    have r1 := r.step g1 s1 d1
    intro D hD
    have hD0 : H D = none := by
      cases e : H D with
      | none => rfl
      | some o => exact absurd hD (g1.dH D (by rw [e]; nofun))
    have nD : D ∉ Z.δ.own := fun q => (r1.b.dkF D q).2 hD
    refine ⟨fun i m H2 => m = xs.length - i ∧ i ≤ xs.length ∧ ∃ F2 acc n2 us, Gr Z.δ F1 H1 F2 H2 ∧ Same F2 H2 ∧ Z.δ.at_ K F2 H2 n2 ∧ F2 D = none ∧ H2 D = some (.lst us) ∧ Rps K F2 acc us ∧ I i acc n2, ⟨xs.length, by simp, Nat.zero_le _, ?_⟩, ?_⟩
    · obtain ⟨g2, s2⟩ := Gp.newM (o := .lst []) hD s1
      exact ⟨F1, [], n1, [], g2.gr, s2, g2.dk r1.b, s1.free hD, upd_same, rps_nil, h0⟩
    · rintro i m H2 ⟨rfl, hi, F2, acc, n2, us, g2, s2, d2, f2, hD2, ra, h2⟩
      by_cases hlt : i < xs.length
      · refine .inr ⟨w1.go i H2 g2.kH (g2.sF.trans s2) hlt, fun H' => ∃ F2 acc n2 us, Gr Z.δ F1 H1 F2 H' ∧ Same F2 H' ∧ Z.δ.at_ K F2 H' n2 ∧ F2 D = none ∧ H' D = some (.lst us) ∧ Rps K F2 acc us ∧ I (i + 1) acc n2, fun H' q => ⟨xs.length - (i + 1), by omega, rfl, hlt, q⟩, fun v H3 hy => ?_⟩
        obtain ⟨x, hx⟩ : ∃ x, xs[i]? = some x := ⟨xs[i], by simp [hlt]⟩
        obtain ⟨F3, g3, s3, r3⟩ := w1.yld i H2 v H3 x hy g2.kH F2 g2.sF s2 hx
        have gg3 := g2.trans (g3.gr (δ := Z.δ))
        have r2 := (r1.step g2 s2 d2)
        have d3 := g3.dk r2.b
        have rw3 := (r1.step gg3 s3 d3).wipe vs
        have hD3 : H3 D = some (.lst us) := g3.sH _ _ hD2
        have f3 : F3 D = none := g3.nF D (by rw [hD2]; nofun) f2
        refine hg.im _ _ _ _ _ _ _ _ _ _ _ rw3 r3 (hstep i x acc n2 hx h2) fun σ4 ρ4 h4 r4 hw => ⟨by rw [hw vs hv, wipe_idem], ?_⟩
        refine ⟨Z, F3, ρ4, n2, _, r4, h4, fun b m5 F5 H5 h5 g5 s5 d5 => ?_⟩
        have hD5 : H5 D = some (.lst us) := g5.kH _ _ nD hD3 rfl
        have f5 : F5 D = none := g5.nF D (by rw [hD3]; nofun) f3
        have ra5 : Rps K F5 acc us := Rps.mono (g3.sF.trans g5.sF) acc us ra
        cases b with
        | false => exact ⟨F5, acc, m5, us, gg3.trans g5, s5, d5, f5, hD5, ra5, h5⟩
        | true =>
          refine ⟨Z, F5, ρ4, m5, _, r4.step g5 s5 d5, h5, fun y m6 F6 H6 v6 h6 g6 s6 d6 w6 => ?_⟩
          obtain ⟨d, rfl, hl, h6⟩ := needD_is h6
          have hD6 : H6 D = some (.lst us) := g6.kH _ _ nD hD5 rfl
          have f6 : F6 D = none := g6.nF D (by rw [hD5]; nofun) f5
          have ra6 : Rps K F6 acc us := Rps.mono g6.sF acc us ra5
          refine ⟨us, hD6, by rw [← ra.length]; exact hl, F6, acc ++ [d], m6, us ++ [v6], ?_, ?_, ?_, f6, upd_same, ra6.append (rps_cons w6 rps_nil), h6⟩
          · have gg6 := (gg3.trans g5).trans g6
            exact gg6.chg hD
          · exact fun a o e => by rw [upd_ne (ne_of_none e f6)]; exact s6 _ _ e
          · exact d6.chg nD hD6 rfl
      · have e : i = xs.length := by omega
        subst e
        exact .inl ⟨w1.stop _ H2 g2.kH (g2.sF.trans s2) (Nat.le_refl _), k _ _ _ _ _ _ (hend _ _ h2) (g1.trans g2) s2 d2 hD0 f2 hD2 ra⟩⟩
theorem me_compV {elt tg iter : Expr} {ifs : List Expr} {scope : Scope} {own : List (Str × Nat)} {pos : Pos} {s : DSrc} {t : TG} {g : DTG} {sl : List Nat} {tt : DTT} {te : DTE} (hc : X.calm = true) (hN : X.N.Nodup) (hi : DIv Y X tg iter s) (ok : BlkOk X.N X.env.scope scope own)
    (hk : GOk X.K t g sl) (hg : ∀ (s : Shared) (H : Hp) (C : Addr) (cl : List (Str × Addr)) (fp : List Addr), PG (X.blk s H scope (compEnvC scope cl C X.env) fp) tg t) (ht : ∀ (s : Shared) (H : Hp) (C : Addr) (cl : List (Str × Addr)) (fp : List Addr), WTs Y (X.blk s H scope (compEnvC scope cl C X.env) fp) ifs tt)
    (he : ∀ (s : Shared) (H : Hp) (C : Addr) (cl : List (Str × Addr)) (fp : List Addr), WE Y (X.blk s H scope (compEnvC scope cl C X.env) fp) elt te) (hv : ∀ i ∈ sl, i ∈ own.map (·.2)) (hs : ∀ x, foldedSetIterable iter X.env x = pure x := by intro _; rfl) :
    ME Y X (.ListComp elt [⟨tg, iter, ifs, 0⟩] scope pos) (mComp s g tt te (own.map (·.2))) :=
  pe_imp (pe_lc hc hN hi ok hg ht he hs) (comp_imv hk hv)
/-- name = [..] on one line -/
theorem ds_setLcV {i : Nat} {y : Str} {py : Pos} {elt tg iter : Expr} {ifs : List Expr} {scope : Scope} {own : List (Str × Nat)} {pos spos : Pos} {s : DSrc} {t : TG} {g : DTG} {sl : List Nat} {tt : DTT} {te : DTE} {u : DTE} (hc : X.calm = true) (hN : X.N.Nodup) (hy : X.N[i]? = some y) (hyl : X.env.scope.names.lookup y = some .local)
    (hsw : swapsWith (.ListComp elt [⟨tg, iter, ifs, 0⟩] scope pos) (some (.Name y py)) spos.line X.env = pure true) (hi : DIv Y X tg iter s) (ok : BlkOk X.N X.env.scope scope own)
    (hk : GOk X.K t g sl) (hg : ∀ (s : Shared) (H : Hp) (C : Addr) (cl : List (Str × Addr)) (fp : List Addr), PG (X.blk s H scope (compEnvC scope cl C X.env) fp) tg t) (ht : ∀ (s : Shared) (H : Hp) (C : Addr) (cl : List (Str × Addr)) (fp : List Addr), WTs Y (X.blk s H scope (compEnvC scope cl C X.env) fp) ifs tt)
    (he : ∀ (s : Shared) (H : Hp) (C : Addr) (cl : List (Str × Addr)) (fp : List Addr), WE Y (X.blk s H scope (compEnvC scope cl C X.env) fp) elt te) (hv : ∀ i ∈ sl, i ∈ own.map (·.2))
    (hu : ∀ σ H Q, upX Y X.K u σ H Q → upM Y X.K (mComp s g tt te (own.map (·.2))) σ H Q) (hs : ∀ x, foldedSetIterable iter X.env x = pure x := by intro _; rfl) :
    DS Y X (.Assign [.Name y py] (.ListComp elt [⟨tg, iter, ifs, 0⟩] scope pos) spos) (dAsg i u) :=
  ps_imp (ps_setLc hc hN hy hyl hsw hi ok hg ht he hs) fun D σ H h => by
    have h2 := asg_im D σ H h
    exact comp_imv hk hv _ _ _ (hu _ _ _ h2)
end DL
namespace DL
open PySem PySem.Spec PyProof.Rows L2
variable {X : Cx} {Y : Fx}
theorem Rps.dropLast {K : PySem.W.Frag} {F : Hp} {ds : List PyData} {vs : List V} (h : Rps K F ds vs) : Rps K F ds.dropLast vs.dropLast := by
  rw [List.dropLast_eq_take, List.dropLast_eq_take, h.length]
  exact Rps.take _ h
end DL
namespace DL
open PySem PySem.Spec PyProof.Rows L2
variable {X : Cx} {Y : Fx}
theorem Rps.strs {K : PySem.W.Frag} {F : Hp} : ∀ {ss : List Str} {vs : List V}, Rps K F (ss.map PyData.str) vs → vs = ss.map V.str
  | [], _, h => by simpa only [List.map_nil, Rps] using h
  | n :: ss, _, h => by
    simp only [List.map_cons, Rps, Rp] at h
    obtain ⟨v, r, rfl, rfl, h2⟩ := h
    rw [Rps.strs h2]; rfl
end DL
namespace DL
open PySem PySem.Spec PyProof.Rows L2
theorem in5 {z TI TO i1 i2 c : Addr} : c ∈ [z, TI, TO, i1, i2] ↔ (c = z ∨ c = TI ∨ c = TO ∨ c = i1 ∨ c = i2) := by simp
variable {X : Cx} {Y : Fx}
end DL
set_option maxHeartbeats 4000000
namespace DL
open PySem PySem.Spec PyProof.Rows L2
variable {X : Cx} {Y : Fx}
def oAddS : D2 := fun x y R => ∃ a b : Str, x = .dat (.str a) ∧ y = .dat (.str b) ∧ a.length + b.length ≤ sizeLine ∧ R (.str (a ++ b))
abbrev rAddS : R2 := fun x y H Q => ∃ i j, x = .str i ∧ y = .str j ∧ i.length + j.length ≤ sizeLine ∧ Q (.str (i ++ j)) H
theorem bi_addS {K : PySem.W.Frag} : BinOk K rAddS oAddS := fun δ F H x y v u R Q hs hx hy ⟨a, b, e1, e2, hl, hr⟩ bk => by
  subst e1 e2
  simp only [VR, Rp] at hx hy
  exact ⟨a, b, hx, hy, hl, bk.here hs hr (by simp [Rp])⟩
def oStr : DC := fun xs R => ∃ i : Int, xs = [.dat (.int i)] ∧ i.natAbs.log2 < 1920 ∧ R (.str (toString i))
theorem cr_str {K : PySem.W.Frag} : CallOk K (fun xs H Q => ∃ i, xs = [.int i] ∧ i.natAbs.log2 < 1920 ∧ Q (.str (toString i)) H) oStr := fun δ F H xs vs R Q hs hv ⟨i, e, hl, hr⟩ bk => by
  subst e
  obtain ⟨v, rfl, h⟩ := vr1 hv
  simp only [VR, Rp] at h
  subst h
  exact ⟨i, rfl, hl, bk.here hs hr (by simp [Rp])⟩
theorem we_gstr {x : Str} {i : Str} {t : Tok} {pos : Pos} (hg : Gl X x) (hm : X.mg x = some (.str i t)) (hd : (x == ("__debug__" : Str)) = false := by decide) : WE Y X (.Name x pos) (dC (.str i)) :=
  we_c (pe_glob (v := .str i) hg hm ⟨_, rfl⟩ hd) fun _ => by simp [Rp]
def dJoin (t u : DTE) : DTE := fun ρ n R => t ρ n fun x n1 => ∃ a : Str, x = .dat (.str a) ∧ u ρ n1 fun y n2 => ∃ ys : List Str, y = .dat (.list (ys.map .str)) ∧ (ys.map (·.length)).sum + ys.length * a.length ≤ 16777216 ∧ R (.dat (.str (Txt.join a ys))) n2
theorem we_join {o e : Expr} {t u : DTE} {apos pos : Pos} (ho : WE Y X o t) (he : WE Y X e u) (h1 : starEach [e] X.env = [(false, eval e X.env)] := by rfl)
    (h2 : attributeBase o "join" X.env (eval o X.env) = eval o X.env := by rfl) (h3 : (apos.endLine == pos.line) = true := by rfl) : WE Y X (.Call (.Attribute o "join" apos) [e] [] pos) (dJoin t u) :=
  pe_imp (pe_join ho he h1 h2 h3) fun σ H Q ⟨Z, F, ρ, n, R, r, ht, k⟩ => ⟨Z, F, ρ, n, _, r, ht, fun x n1 F1 H1 v ⟨a, e1, hx⟩ g1 s1 d1 w1 => by
    subst e1
    simp only [VR, Rp] at w1
    subst w1
    refine ⟨⟨a, rfl⟩, Z, F1, ρ, n1, _, r.step g1 s1 d1, hx, fun y n2 F2 H2 u2 ⟨ys, e2, hb, hy⟩ g2 s2 d2 w2 => ?_⟩
    subst e2
    simp only [VR, Rp] at w2
    obtain ⟨p, vs, rfl, p1, p2⟩ := w2
    rw [p2.strs] at p1
    exact ⟨a, p, ys, rfl, rfl, .inl (SqL.of (s2 _ _ p1)), hb, k _ _ _ _ _ hy (g1.trans g2) s2 d2 (by simp [VR, Rp])⟩⟩
def dFmt (t : DTE) : DTE := fun ρ n R => t ρ n fun x n1 => ∃ y : Str, x = .dat (.str y) ∧ y.length ≤ sizeLine ∧ R (.dat (.str y)) n1
theorem we_fmt {e : Expr} {t : DTE} {pos : Pos} (h : WE Y X e t) : WE Y X (.FormattedValue e (-1) none pos) (dFmt t) :=
  pe_imp (pe_fmt h) fun σ H Q ⟨Z, F, ρ, n, R, r, ht, k⟩ => ⟨Z, F, ρ, n, _, r, ht, fun x n1 F1 H1 v ⟨a, e1, hl, hx⟩ g1 s1 d1 w1 => by
    subst e1
    simp only [VR, Rp] at w1
    subst w1
    exact .inl ⟨a, rfl, hl, k _ _ _ _ _ hx g1 s1 d1 (by simp [VR, Rp])⟩⟩
def dJs : List DTE → Str → List (Option Dv) → Wo → (Str → Wo → Prop) → Prop
  | [], acc, _, n, R => R acc n
  | t :: ts, acc, ρ, n, R => t ρ n fun x n1 => ∃ y : Str, x = .dat (.str y) ∧ (acc ++ y).length ≤ sizeLine ∧ dJs ts (acc ++ y) ρ n1 R
inductive WJ Y (X : Cx) : List Expr → List DTE → Prop
  | nil : WJ Y X [] []
  | cons {e : Expr} {t : DTE} {es : List Expr} {ts : List DTE} (h : WE Y X e t) (hs : WJ Y X es ts) : WJ Y X (e :: es) (t :: ts)
theorem WJ.pj {es : List Expr} {ts : List DTE} (h : WJ Y X es ts) : PJ X es (ts.map (up Y X.K)) := by
  induction h with
  | nil => exact .nil
  | cons h _ ih => exact .cons h ih
theorem js_up {K : PySem.W.Frag} {Q : Str → Hp → Prop} : ∀ (ts : List DTE) (acc : Str) {Z F H σ ρ n} {R : Str → Wo → Prop}, SR Y K Z F H σ ρ n → dJs ts acc ρ n R →
    (∀ out n' F' H', R out n' → Gr Z.δ F H F' H' → Same F' H' → Z.δ.at_ K F' H' n' → Q out H') → tJs (ts.map (up Y K)) acc σ H Q
  | [], acc, Z, F, H, σ, ρ, n, R, r, h, k => k _ _ _ _ h Gr.refl r.b.sub r.b.dk
  | t :: ts, acc, Z, F, H, σ, ρ, n, R, r, h, k =>
    ⟨Z, F, ρ, n, _, r, h, fun x n1 F1 H1 v ⟨y, e, hl, hx⟩ g1 s1 d1 w1 => by
      subst e
      simp only [VR, Rp] at w1
      subst w1
      exact ⟨y, rfl, hl, js_up ts (acc ++ y) (r.step g1 s1 d1) hx fun out n' F' H' hr g2 s2 d2 => k out n' F' H' hr (g1.trans g2) s2 d2⟩⟩
def dFs (ts : List DTE) : DTE := fun ρ n R => dJs ts Str.empty ρ n fun out n1 => R (.dat (.str out)) n1
theorem we_fstr {v1 v2 : Expr} {rest : List Expr} {ts : List DTE} {pos : Pos} (h : WJ Y X (v1 :: v2 :: rest) ts) : WE Y X (.JoinedStr (v1 :: v2 :: rest) pos) (dFs ts) :=
  pe_imp (pe_joined h.pj) fun σ H Q ⟨Z, F, ρ, n, R, r, ht, k⟩ => js_up ts Str.empty r ht fun out n' F' H' hr g s d => k _ _ _ _ _ hr g s d (by simp [VR, Rp])
def dOrS (t u : DTE) : DTE := fun ρ n R => t ρ n fun x n1 => ∃ s : Str, x = .dat (.str s) ∧ s.length ≤ sizeLine ∧ if s.length = 0 then u ρ n1 R else R (.dat (.str s)) n1
theorem we_orS {a b : Expr} {rest : List Expr} {t u : DTE} {pos : Pos} (ha : WE Y X a t) (hb : WE Y X (.BoolOp .Or (b :: rest) pos) u) : WE Y X (.BoolOp .Or (a :: b :: rest) pos) (dOrS t u) :=
  pe_imp (pe_orT ha hb) fun σ H Q ⟨Z, F, ρ, n, R, r, ht, k⟩ => ⟨Z, F, ρ, n, _, r, ht, fun x n1 F1 H1 v ⟨s, e, hl, hx⟩ g1 s1 d1 w1 => by
    subst e
    simp only [VR, Rp] at w1
    subst w1
    refine ⟨((s.length : Int) != 0), ⟨hl, rfl⟩, ?_⟩
    by_cases h0 : s.length = 0
    · rw [if_pos h0] at hx
      rw [if_neg (by simp [h0])]
      exact ⟨Z, F1, ρ, n1, _, r.step g1 s1 d1, hx, fun y n2 F2 H2 v2 hy g2 s2 d2 w2 => k _ _ _ _ _ hy (g1.trans g2) s2 d2 w2⟩
    · rw [if_neg h0] at hx
      rw [if_pos (by simp; omega)]
      exact k _ _ _ _ _ hx g1 s1 d1 (by simp [VR, Rp])⟩
def dThaw (i : Nat) (t : DTS) : DTS := fun E ρ n => ∃ ds, ρ[i]? = some (some (.mt ds)) ∧ t E (ρ.set i (some (.dat (.list ds)))) n
theorem dss_thaw {i : Nat} {sts : List Stmt} {t : DTS} (h : DSs Y X sts t) : DSs Y X sts (dThaw i t) :=
  pss_imp h fun D σ H ⟨Z, F, ρ, n, E, r, ⟨ds, e, hx⟩, k⟩ => by
    obtain ⟨F', a, e1, r', _⟩ := r.freeze e
    exact ⟨Z, F', _, n, E, r', hx, k⟩
end DL
namespace DL
open PySem PySem.Spec PyProof.Rows L2
variable {X : Cx} {Y : Fx}
/-- what may be shown, with dicts -/
structure TameE (m k : Nat) (d : PyData) : Prop where
  sh : d.showable = true
  dp : d.depth ≤ k
  le : d.shown.length ≤ m
theorem TameE.mono {m k m' k' : Nat} {d : PyData} (h : TameE m k d) (h1 : m ≤ m') (h2 : k ≤ k') : TameE m' k' d := ⟨h.sh, Nat.le_trans h.dp h2, Nat.le_trans h.le h1⟩
theorem Tame.e {m k : Nat} {d : PyData} (h : Tame m k d) : TameE m k d := ⟨h.sh, h.dp, Nat.le_trans (shown_le d h.cl) h.le⟩
theorem texts_le {m : Nat} : ∀ {ds : List PyData}, (∀ d ∈ ds, d.shown.length ≤ m) → ((PyData.shownAll ds).map fun t => t.length + 2).sum ≤ ds.length * (m + 2)
  | [], _ => by simp [PyData.shownAll]
  | d :: ds, h => by
    have h1 := h d (by simp)
    have h2 := texts_le (ds := ds) fun e he => h e (by simp [he])
    simp only [PyData.shownAll, List.map_cons, List.sum_cons, List.length_cons, Nat.add_mul]
    omega
theorem tameE_tuple {m k l : Nat} {ds : List PyData} (h : ∀ d ∈ ds, TameE m k d) (hl : ds.length ≤ l) : TameE (l * (m + 2) + 3) (k + 1) (.tuple ds) :=
  ⟨by simp only [PyData.showable]; exact showAll fun d hd => (h d hd).sh, by simp only [PyData.depth]; exact Nat.succ_le_succ (depthAll_le fun d hd => (h d hd).dp), by
    simp only [PyData.shown]
    have := texts_le fun d hd => (h d hd).le
    have := Nat.mul_le_mul_right (m + 2) hl
    have := tupleText_le (PyData.shownAll ds)
    omega⟩
end DL
set_option maxHeartbeats 4000000
namespace DL
open PySem PySem.Spec PyProof.Rows L2
/-- the pairs that were given out -/
def ZPairs (S : Nat) (xs ys : Array Value) (i : Nat) (h : Heap) : Prop := ∀ j, j < i → ∃ x y, xs[j]? = some x ∧ ys[j]? = some y ∧ IsPair h (S + 1 + j) x y
theorem ZPairs.keep {S i : Nat} {xs ys : Array Value} {h h' : Heap} (p : ZPairs S xs ys i h) (k : ∀ b o, S < b → h.get? b = some o → h'.get? b = some o) : ZPairs S xs ys i h' := fun j hj => by
  obtain ⟨x, y, e1, e2, e3⟩ := p j hj
  exact ⟨x, y, e1, e2, k _ _ (by omega) e3⟩
end DL
set_option maxHeartbeats 4000000
set_option maxHeartbeats 4000000
set_option maxHeartbeats 4000000
namespace DL
open PySem PySem.Spec PyProof.Rows L2
theorem fng_false {P : Program} {w : World} {K : PySem.W.Frag} {mg : Str → Option Value} {base : Heap} {k m : Nat} {f : Addr} {fd : FuncData} {ps : List Str} : FnG P w K mg base k f fd ps (spD K m fun _ _ _ => False) :=
  ⟨fun _ _ _ _ ⟨_, _, _, _, _, _, _, _, _, _, h, _⟩ => h.elim, fun _ _ _ _ _ _ _ _ _ _ _ _ _ ⟨_, _, _, _, _, _, _, _, _, _, h, _⟩ => h.elim⟩
theorem Has.mono {P : Program} {w : World} {K : PySem.W.Frag} {mg : Str → Option Value} {base : Heap} {x : Str} {j k : Nat} {ps : List Str} {c : DSpec} (h : Has P w K mg base x j ps c) (hj : j ≤ k) : Has P w K mg base x k ps c := by
  obtain ⟨f, fd, h1, h2, h3, h4⟩ := h
  exact ⟨f, fd, h1, h2, h3, h4.mono hj⟩
/-- from a step to every depth -/
theorem has_rec {P : Program} {w : World} {K : PySem.W.Frag} {mg : Str → Option Value} {base : Heap} {x : Str} {L : Nat} {ps : List Str} {c : Nat → DSpec} {f : Addr} {fd : FuncData} (h0 : c 0 = fun _ _ _ => False) (h1 : mg x = some (.ref f)) (h2 : PySem.W.keepIn K (.ref f) = true) (h3 : Binds K fd ps [])
    (step : ∀ j, Has P w K mg base x (L + j) ps (c j) → FnG P w K mg base (L + j + 1) f fd ps (spD K ps.length (c (j + 1)))) : ∀ j, Has P w K mg base x (L + j) ps (c j)
  | 0 => ⟨f, fd, h1, h2, h3, by rw [h0]; exact fng_false⟩
  | j + 1 => ⟨f, fd, h1, h2, h3, step j (has_rec h0 h1 h2 h3 step j)⟩
end DL
set_option maxHeartbeats 4000000
namespace DL
open PySem PySem.Spec PyProof.Rows L2
structure FnGX (P : Program) (w : World) (K : PySem.W.Frag) (mg : Str → Option Value) (base : Heap) (k : Nat) (f : Addr) (fd : FuncData) (ps : List Str) (sp : Sp) : Prop where
  len : ∀ vs H Q E, sp vs H Q E → vs.length = ps.length
  run : ∀ (A : Around) (outer : List Env) (s : Shared) (H : Hp) (args : Args) (us : List Value) (vs : List V) (Q : VK) (E : XK), A.guards = some [] → Room k A → Env0 P w K mg base A outer s H →
    BindsTo s fd args (ps.zip us) → Vals vs us → sp vs H Q E → codeAny (model P w) A (.call (.ref f) args) (CR (L2.CX P w) outer P w H s Q E) s
section
variable {P : Program} {w : World} {K : PySem.W.Frag} {mg : Str → Option Value} {base : Heap} {j k : Nat} {f : Addr} {fd : FuncData} {ps : List Str} {sp : Sp}
theorem FnGX.mono (F : FnGX P w K mg base j f fd ps sp) (h : j ≤ k) : FnGX P w K mg base k f fd ps sp :=
  ⟨F.len, fun A outer s H args us vs Q E hg hr => F.run A outer s H args us vs Q E hg (hr.mono h)⟩
theorem fngx_of {x qual : Str} {st : Stmt} {N : List Str} (F : Fun K x qual st f fd) (S : FnScope N ps (defScope st)) (len : ∀ vs H Q E, sp vs H Q E → vs.length = ps.length)
    (hb : ∀ (cdv : Value) (A : Around) (outer : List Env) (s : Shared) (H : Hp) (vs : List V) (Q : VK) (E : XK), A.guards = some [] → Room k (A.deeper (envOfC qual (defScope st) s.heap.objs.size f cdv)) → sp vs H Q E →
      ∃ t, PSs (cxOf (L2.CX P w) P w K mg base N qual (defScope st) f cdv A outer s H E) (defBody st) t ∧ t { nx := fun _ H' => Q .non H', rt := Q } (start N vs) H) : FnGX P w K mg base (k + 1) f fd ps sp := by
  refine ⟨len, fun A outer s H args us vs Q E hgd hr e0 hbi rv hsp => ?_⟩
  obtain ⟨oc, od, kV, doc, pm, an, cdv, ct, osl, rfl, lk, hcd⟩ := F.ex
  have hl := len _ _ _ _ hsp
  have kin : K.In s.heap := e0.mod.kin.keeps fun b o e => (e0.bs b o e).1
  have lim : s.heap.NoLimit := e0.mod.nolimit.keeps fun b o e => (e0.bs b o e).1
  refine Att.call_fn kin lim lk hcd hr.depth hbi (List.all_eq_true.mpr fun ⟨y, u⟩ hy => ?_) (fun s1 x => ?_) S.co S.gen S.kind
  · rcases S.par y (List.of_mem_zip hy).1 with q | q <;> simp [q]
  · obtain ⟨t, ht, hq⟩ := hb cdv A outer s H vs Q E hgd (hr.deeper _) hsp
    have I := inv_start (CX := L2.CX P w) (P := P) (w := w) (E := E) S hr.hd e0 hl rv x
    refine wpAny_mono (ht.run [] s1 (start N vs) H _ I hq) (fun fl s' hs => ?_) fun e s' hs => hs
    have fin : ∀ {σ' : L2.St} {H' : Hp} {v : V} {u : Value}, Inv (cxOf (L2.CX P w) P w K mg base N qual (defScope st) f cdv A outer s H E) [] σ' H' s' → RelV v u → Q v H' → CE outer P w H s Q u s' :=
      fun J r q => ⟨_, _, J.os, J.bare, J.base, J.hok, r, q⟩
    cases fl with
    | ret u =>
      obtain ⟨v, σ', H', J, r, q⟩ := hs
      exact fin J r q
    | next =>
      obtain ⟨σ', H', J, q⟩ := hs
      exact fin (v := V.non) (u := Value.none) J rfl q
    | brk => obtain ⟨_, _, _, q⟩ := hs; exact q.elim
    | cont => obtain ⟨_, _, _, q⟩ := hs; exact q.elim
end
section
variable {X : Cx} {k : Nat} {f : Addr} {fd : FuncData} {ps : List Str} {sp : Sp}
theorem runx {pins : List (Addr × Obj)} {σ : L2.St} {H : Hp} {s : Shared} {Q : VK} {E : XK} {us : List Value} {vs : List V} (F : FnGX X.prog X.w X.K X.mg X.base k f fd ps sp) (hgd : X.A.guards = some []) (hr : Room k X.A) (hb : Binds X.K fd ps [])
    (hx : PassesAt (L2.CX X.prog X.w) X σ E) (I : Inv X pins σ H s) (r : Vals vs us) (h : sp vs H Q E) : wpAny (model X.prog X.w) X.A (call (.ref f) us) (EP X pins σ Q) X.xe s := by
  have hl : (us ++ []).length = ps.length := by rw [List.append_nil, ← r.length]; exact F.len _ _ _ _ h
  have hbi := hb s us I.kIn hl
  rw [List.append_nil] at hbi
  refine wpAny_call (codeAny_mono (F.run X.A X.stack s H ⟨us, []⟩ us vs Q E hgd hr I.env0 hbi r h) fun q s' hq => ?_)
  cases q with
  | error e => exact hx pins H s e s' I hq
  | ok fl =>
    cases fl with
    | ret u => exact I.after hq
    | next => exact hq.elim
    | brk => exact hq.elim
    | cont => exact hq.elim
end
structure Ex where
  C : Addr
  fs : List (Str × PyData)
def ExR (K : PySem.W.Frag) (F : Hp) (ex : Ex) (cls : Value) (d : Option Addr) : Prop := cls = .ref ex.C ∧ XoAt K F ⟨cls, d, ex.fs⟩
theorem ExR.mono {K : PySem.W.Frag} {F F' : Hp} {ex : Ex} {cls : Value} {d : Option Addr} (h : ExR K F ex cls d) (e : Same F F') : ExR K F' ex cls d := ⟨h.1, h.2.mono e⟩
abbrev DSpecX := List Dv → Wo → (PyData → Wo → Prop) → (Ex → Wo → Prop) → Prop
def spDX (K : PySem.W.Frag) (m : Nat) (c : DSpecX) : Sp := fun vs H Q Eh => ∃ δ F as n R E, as.length = m ∧ VRs K δ F H as vs ∧ Same F H ∧ δ.at_ K F H n ∧ (∀ a, a ∈ δ.own → F a = none ∧ H a ≠ none) ∧ c as n R E ∧
  (∀ d n' F' H' v, R d n' → Gr δ F H F' H' → Same F' H' → δ.at_ K F' H' n' → Rp K F' d v → Q v H') ∧
  ∀ ex n' F' H' cls d, E ex n' → Gr δ F H F' H' → Same F' H' → δ.at_ K F' H' n' → ExR K F' ex cls d → Eh cls d H'
/-- what is wished of an error, at the slots -/
abbrev DW := Ex → Rho → Wo → Prop
def WOk (Y : Fx) (K : PySem.W.Frag) (dw : DW) (W : WX) : Prop := ∀ ex ρ n F H σ cls d Z, dw ex ρ n → SR Y K Z F H σ ρ n → ExR K F ex cls d → W cls d σ H
def dwN : DW := fun _ _ _ => False
theorem wok0 {Y : Fx} {K : PySem.W.Frag} : WOk Y K dwN (fun _ _ _ _ => False) := fun _ _ _ _ _ _ _ _ _ h _ _ => h
def dFnX (m : Nat) (c : DSpecX) (dw : DW) (t : DTA) : DTE := fun ρ n R => t ρ n fun as n1 => as.length = m ∧ c as n1 (fun d n2 => R (.dat d) n2) fun ex n2 => dw ex ρ n2
section
variable {X : Cx} {Y : Fx}
theorem callX_im {m : Nat} {c : DSpecX} {dw : DW} {W : WX} {t : DTA} (ok : WOk Y X.K dw W) : ∀ σ H Q, up Y X.K (dFnX m c dw t) σ H Q → (upA Y X.K t) σ H fun vs H1 => spDX X.K m c vs H1 Q (L2.WE W σ) :=
  fun σ H Q ⟨Z, F, ρ, n, R, r, ht, k⟩ => ⟨Z, F, ρ, n, _, r, ht, fun as n1 F1 H1 vs ⟨hl, hx⟩ g1 s1 d1 w1 => by
    have r1 := r.step g1 s1 d1
    exact ⟨Z.δ, F1, as, n1, _, _, hl, w1, s1, d1, r1.b.dkF, hx, fun d n2 F2 H2 v h2 g2 s2 d2 w2 => k _ _ _ _ _ h2 (g1.trans g2) s2 d2 w2, fun ex n2 F2 H2 cls d h2 g2 s2 d2 w2 => ok _ _ _ _ _ _ _ _ _ h2 (r1.step g2 s2 d2) w2⟩⟩
theorem we_fnX {k m : Nat} {c : DSpecX} {dw : DW} {W : WX} {f : Addr} {fd : FuncData} {ps : List Str} {x : Str} {p pos : Pos} {e : Expr} {es : List Expr} {t : DTA} (tk : Takes X W) (ok : WOk Y X.K dw W) (F : FnGX X.prog X.w X.K X.mg X.base k f fd ps (spDX X.K m c)) (hgd : X.A.guards = some []) (hr : Room k X.A) (hg : Gl X x) (hm : X.mg x = some (.ref f)) (hk : PySem.W.keepIn X.K (.ref f) = true) (hb : Binds X.K fd ps [])
    (ha : WA Y X (e :: es) t) (hdb : (x == ("__debug__" : Str)) = false := by decide) (he : starEach (e :: es) X.env = (false, eval e X.env) :: starEach es X.env := by rfl) (hpl : (backTo pos (starEach es X.env)).any (·.1) = false := by rfl) :
    WE Y X (.Call (.Name x p) (e :: es) [] pos) (dFnX m c dw t) :=
  ⟨fun pins s σ H Q I h => wpAny_Call_Name_kw (ld_glob I hg hm (PySem.W.callWith_K (h₀ := X.base) I.ok.mod.kin hk (thn (ha.run pos pins s σ H _ I (callX_im ok σ H Q h)) fun us s1 ⟨vs, H1, I1, r, q⟩ => ⟨I1.kIn, runx F hgd hr hb (passAt tk σ) I1 r q⟩) he hpl) hdb)⟩
end
/-- THE RULE for a def that may raise: its body over data -/
theorem fndX {P : Program} {w : World} {K : PySem.W.Frag} {mg : Str → Option Value} {base : Heap} {x qual : Str} {st : Stmt} {f : Addr} {fd : FuncData} {N ps : List Str} {k : Nat} (c : DSpecX) (F : Fun K x qual st f fd) (S : FnScope N ps (defScope st))
    (hb : ∀ (cdv : Value) (A : Around) (outer : List Env) (s : Shared) (H : Hp) (Eh : XK), A.guards = some [] → Room k (A.deeper (envOfC qual (defScope st) s.heap.objs.size f cdv)) → ∀ (Y : Fx) (E : Ex → Wo → Prop), WOk Y K (fun ex _ n => E ex n) (fun cls d _ H => Eh cls d H) →
      Takes (cxOf (L2.CX P w) P w K mg base N qual (defScope st) f cdv A outer s H Eh) (fun cls d _ H => Eh cls d H) →
      ∃ t, DSs Y (cxOf (L2.CX P w) P w K mg base N qual (defScope st) f cdv A outer s H Eh) (defBody st) t ∧ ∀ as n R, as.length = ps.length → c as n R E → t { nx := fun _ n' => R .none n', rt := R } (startR N as) n) : FnGX P w K mg base (k + 1) f fd ps (spDX K ps.length c) := by
  refine fngx_of F S (fun vs H Q E ⟨δ, Fz, as, n, R, E', hl, w1, _⟩ => by rw [← Paired.length w1]; exact hl) fun cdv A outer s H vs Q Eh hgd hr ⟨δ, Fz, as, n, R, E, hl, w1, s1, d1, o1, hc, hk, hx⟩ => ?_
  obtain ⟨t, h1, h2⟩ := hb cdv A outer s H Eh hgd hr ⟨Fz, H, δ⟩ E (fun ex ρ n' F' H' σ cls d Z he r hd => hx _ _ _ _ _ _ he r.gr r.b.sub (by have q := r.b.dk; rw [r.de] at q; exact q) hd) (takes_of rfl rfl rfl rfl)
  exact ⟨_, h1, ⟨Fz, H, δ⟩, Fz, startR N as, n, _, sr_start w1 s1 d1 o1, h2 as n R hl hc, ⟨fun F' H' σ' ρ' n' q r' => hk _ _ _ _ _ q (Base.gr o1 r'.b) r'.b.sub r'.b.dk (by simp [Rp]), fun d n' F' H' v q b q2 => hk _ _ _ _ _ q (Base.gr o1 b) b.sub b.dk q2, fun _ _ _ _ _ q _ => q.elim, fun _ _ _ _ _ q _ => q.elim⟩⟩
end DL
set_option maxHeartbeats 4000000
namespace DL
open PySem PySem.Spec PyProof.Rows L2
section
variable {K : PySem.W.Frag} {F : Hp}
theorem FsR.lookup {f : Str} {d : PyData} : ∀ {fs : List (Str × PyData)} {vs : List (Str × V)}, FsR K F fs vs → fs.lookup f = some d → ∃ v, vs.lookup f = some v ∧ Rp K F d v
  | [], _, .nil, h => by cases h
  | (g, x) :: fs, _, .cons (b := (g', v)) (l₂ := vs) hr ht, h => by
    obtain ⟨e, hr⟩ := hr
    have e : g = g' := e
    subst e
    by_cases q : f = g
    · subst q
      have h2 : List.lookup f ((f, x) :: fs) = some x := by simp [List.lookup]
      rw [h2] at h
      cases h
      exact ⟨v, by simp [List.lookup], hr⟩
    · have q2 : (f == g) = false := by simpa using q
      have h2 : List.lookup f ((g, x) :: fs) = List.lookup f fs := by simp [List.lookup, q2]
      rw [h2] at h
      obtain ⟨w, e1, e2⟩ := FsR.lookup ht h
      exact ⟨w, by simp only [List.lookup, q2]; exact e1, e2⟩
theorem VR.ref {δ : DkS} {H : Hp} {a : Addr} {v : V} (h : VR K δ F H (.dat (refD a)) v) : v = .ref a := Rp.ref (K := K) (F := F) h
theorem FsR.length {fs : List (Str × PyData)} {vs : List (Str × V)} (h : FsR K F fs vs) : fs.length = vs.length := Paired.length h
end
end DL
set_option maxHeartbeats 4000000
namespace DL
open PySem PySem.Spec PyProof.Rows L2
/-- what the __init__ of an error class with one field keeps -/
def spEI (C : Addr) (f : Str) : Sp := fun vs H Q _ => ∃ a v, vs = [.ref a, v] ∧ H a = some (exo a C none) ∧ ∀ dx, H dx = none → dx ≠ a → Q .non (upd (upd H dx (exd dx [(f, v)])) a (exo a C (some dx)))
theorem heap_back {H : Hp} {a d : Addr} {o u w x : HO} (ha : H a = none) (hne : d ≠ a) : upd (del (upd (upd (upd H a o) d u) a w) a) d x = upd H d x := by
  funext b
  by_cases h1 : b = d
  · subst h1; rw [upd_same, upd_same]
  · rw [upd_ne h1, upd_ne h1]
    by_cases h2 : b = a
    · subst h2; rw [del_same, ha]
    · rw [del_ne h2, upd_ne h2, upd_ne h1, upd_ne h2]
/-- what an error class of one field must have -/
structure ErrC (P : Program) (w : World) (K : PySem.W.Frag) (mg : Str → Option Value) (base : Heap) (x : Str) (C : Addr) (f : Str) : Prop where
  g : mg x = some (.ref C)
  T : OexC K C
  i : ∃ fI fd ps, PySem.W.findIn K (.ref C) "__init__" = some (some (.ref fI)) ∧ PySem.W.typeIn K (.ref fI) = some (.type "function") ∧ FnOk P w K mg base CX0 1 fI fd ps (spEI C f) ∧ Binds K fd ps []
section
variable {X : Cx} {Y : Fx} {dw : DW} {W : WX}
def dRaise (C : Addr) (f : Str) (dw : DW) (t : DTE) : DTS := fun _ ρ n => t ρ n fun x n1 => needD x fun d => dw ⟨C, [(f, d)]⟩ ρ n1
theorem ds_raise {C : Addr} {x f : Str} {e : Expr} {t : DTE} {p pos pos2 : Pos} (hc : X.calm = true) (tk : Takes X W) (ok : WOk Y X.K dw W) (T : ErrC X.prog X.w X.K X.mg X.base x C f) (hr : Room 2 X.A) (hg : Gl X x) (ha : WE Y X e t)
    (hdb : (x == ("__debug__" : Str)) = false := by decide) (he : starEach [e] X.env = (false, eval e X.env) :: starEach [] X.env := by rfl) (hpl : (backTo pos (starEach [] X.env)).any (·.1) = false := by rfl) :
    DS Y X (.Raise (some (.Call (.Name x p) [e] [] pos)) none pos2) (dRaise C f dw t) := by
  obtain ⟨fI, fd, ps, i1, i2, i3, i4⟩ := T.i
  refine ps_imp (ps_raise hc tk (pmk_oex (k := 1) (ds := []) (dvs := []) T.T i1 i2 i3 hr i4 .nil pass0 hg T.g (pa_cons ha pa_nil he) hdb he hpl)) fun D σ H ⟨Z, F, ρ, n, E, r, ht, k⟩ => ?_
  refine ⟨Z, F, ρ, n, _, r, ht, fun y n1 F1 H1 v hy g1 s1 d1 w1 => ?_⟩
  obtain ⟨d, rfl, hy⟩ := needD_is hy
  refine ⟨(by decide : 1 ≤ 1000), fun a ha => ⟨a, v, rfl, upd_same, fun dx h1 h2 => ?_⟩⟩
  have hd1 : H1 dx = none := by rw [upd_ne h2] at h1; exact h1
  refine ⟨rfl, dx, [(f, v)], upd_same, by rw [upd_ne h2]; exact upd_same, hd1, ?_⟩
  rw [heap_back ha h2]
  have r1 := r.step g1 s1 d1
  obtain ⟨g2, s2⟩ := Gp.new (o := .xd [(f, v)]) hd1 s1
  exact ok _ _ _ _ _ _ _ _ _ hy (r1.step g2.gr s2 (g2.dk r1.b)) ⟨rfl, .inr ⟨dx, _, rfl, upd_same, .cons ⟨rfl, Rp.mono g2.sF d v w1⟩ .nil⟩⟩
/-- an error is caught -/
def caught (a : Addr) (ex : Ex) (d : Option Addr) (n : Wo) : Wo := n.putX a ⟨.ref ex.C, d, ex.fs⟩
theorem at_caught {K : PySem.W.Frag} {δ : DkS} {F H : Hp} {n : Wo} {a : Addr} {ex : Ex} {d : Option Addr} (h : δ.at_ K F H n) (hx : XoAt K F ⟨.ref ex.C, d, ex.fs⟩) : δ.at_ K F H (caught a ex d n) :=
  ⟨h.1, h.2.1, fun b x e => by
    have e : (if b = a then some ⟨.ref ex.C, d, ex.fs⟩ else n.xs b) = some x := e
    by_cases q : b = a
    · rw [if_pos q] at e; cases e; exact hx
    · rw [if_neg q] at e; exact h.2.2 b x e⟩
/-- the ends of a suite, where slot i is emptied -/
def endsX (i : Nat) (E : DEnds) : DEnds := { nx := fun ρ n => E.nx (ρ.set i none) n, rt := E.rt, bk := fun ρ n => E.bk (ρ.set i none) n, ct := fun ρ n => E.ct (ρ.set i none) n }
theorem SR.clear {K : PySem.W.Frag} {Z : Fx} {F H : Hp} {σ : L2.St} {ρ : Rho} {n : Wo} (r : SR Y K Z F H σ ρ n) (i : Nat) : SR Y K Z F H (σ.set i none) (ρ.set i none) n where
  b := r.b
  de := r.de
  he := r.he
  gr := r.gr
  len := by simp [r.len]
  slot := fun j x e => by
    by_cases q : i = j
    · subst q
      by_cases hl : i < ρ.length
      · rw [List.getElem?_set_self hl] at e; cases e
      · rw [List.getElem?_eq_none (by rw [List.length_set]; omega)] at e; cases e
    · rw [List.getElem?_set_ne q] at e
      obtain ⟨v, e1, e2⟩ := r.slot j x e
      exact ⟨v, by rw [List.getElem?_set_ne q]; exact e1, e2⟩
  apart := fun j k a ds y hjk e1 e2 e3 hy e4 => by
    have nz : ∀ {m : Nat} {z : Dv}, (ρ.set i none)[m]? = some (some z) → i ≠ m ∧ ρ[m]? = some (some z) := fun {m z} e => by
      by_cases q : i = m
      · subst q
        by_cases hl : i < ρ.length
        · rw [List.getElem?_set_self hl] at e; cases e
        · rw [List.getElem?_eq_none (by rw [List.length_set]; omega)] at e; cases e
      · rw [List.getElem?_set_ne q] at e; exact ⟨q, e⟩
    obtain ⟨n1, e1⟩ := nz e1
    obtain ⟨n3, e3⟩ := nz e3
    rw [List.getElem?_set_ne n1] at e2
    rw [List.getElem?_set_ne n3] at e4
    exact r.apart j k a ds y hjk e1 e2 e3 hy e4
theorem ends_x {K : PySem.W.Frag} {Z : Fx} {E : DEnds} {D : Ends} {i : Nat} (k : EndsOk Y K Z E D) : EndsOk Y K Z (endsX i E) { nx := fun σ' H' => D.nx (σ'.set i none) H', rt := D.rt, bk := fun σ' H' => D.bk (σ'.set i none) H', ct := fun σ' H' => D.ct (σ'.set i none) H' } :=
  ⟨fun F H σ ρ n h r => k.nx _ _ _ _ _ h (r.clear i), k.rt, fun F H σ ρ n h r => k.bk _ _ _ _ _ h (r.clear i), fun F H σ ρ n h r => k.ct _ _ _ _ _ h (r.clear i)⟩
/-- a def's entry, moved to where F stands -/
def Fx.at_ (Y : Fx) (F : Hp) : Fx := ⟨F, Y.H0, Y.δ⟩
theorem SlotV.re {K : PySem.W.Frag} {Z Z' : Fx} {F H : Hp} {x : Dv} {v : V} (h0 : Z.H0 = Z'.H0) (hd : Z.δ = Z'.δ) (h : SlotV K Z F H x v) : SlotV K Z' F H x v := by
  cases x with
  | mt ds =>
    obtain ⟨a, vs, e, h1, h2, h3, h4, h5⟩ := h
    exact ⟨a, vs, e, by rw [← h0]; exact h1, h2, h3, h4, by rw [← hd]; exact h5⟩
  | md a ks =>
    obtain ⟨e, h1, h2, h3, h4⟩ := h
    exact ⟨e, by rw [← h0]; exact h1, h2, h3, by rw [← hd]; exact h4⟩
  | dat d => exact h
  | vw ds =>
    obtain ⟨a, vs, e, h1, h2, h3⟩ := h
    exact ⟨a, vs, e, h1, h2, by rw [← hd]; exact h3⟩
  | deck k =>
    obtain ⟨a, e, h1⟩ := h
    exact ⟨a, e, by rw [← hd]; exact h1⟩
theorem SR.enter {K : PySem.W.Frag} {Z : Fx} {F H : Hp} {σ : L2.St} {ρ : Rho} {n : Wo} (r : SR Y K Z F H σ ρ n) : SR (Y.at_ F) K (Y.at_ F) F H σ ρ n where
  b := by
    have hd := r.de
    have h0 := r.he
    refine ⟨r.b.sub, ?_, ?_, Same.refl _, fun _ _ h => h, r.gr.kH, r.gr.iH⟩
    · show Y.δ.at_ K F H n
      rw [← hd]; exact r.b.dk
    · intro a ha
      exact r.b.dkF a (by rw [hd]; exact ha)
  de := rfl
  he := rfl
  gr := ⟨Same.refl _, fun _ _ h => h, r.gr.kH, r.gr.iH, r.gr.dH⟩
  len := r.len
  slot := fun i x e => by
    obtain ⟨v, e1, e2⟩ := r.slot i x e
    exact ⟨v, e1, e2.re r.he r.de⟩
  apart := r.apart
theorem Base.exit {K : PySem.W.Frag} {Z Z1 : Fx} {F H F2 H2 : Hp} {σ : L2.St} {ρ : Rho} {n n2 : Wo} (r : SR Y K Z F H σ ρ n) (hd : Z1.δ = Y.δ) (h0 : Z1.H0 = Y.H0) (g : Gr Y.δ F Y.H0 F2 H2) (b : Base K Z1 F2 H2 n2) : Base K Z F2 H2 n2 :=
  ⟨b.sub, by rw [r.de, ← hd]; exact b.dk, fun a ha => b.dkF a (by rw [hd, ← r.de]; exact ha), r.b.gF.trans g.sF, fun a h1 h2 => g.nF a (by rw [← r.he]; exact h1) (r.b.gN a h1 h2), fun a o na e hi => g.kH a o (by rw [← r.de]; exact na) (by rw [← r.he]; exact e) hi, fun a C dx fs e => g.iH a C dx fs (by rw [← r.he]; exact e)⟩
theorem SR.exit {K : PySem.W.Frag} {Z Z1 : Fx} {F H F2 H2 : Hp} {σ σ2 : L2.St} {ρ ρ2 : Rho} {n n2 : Wo} (r : SR Y K Z F H σ ρ n) (q : SR (Y.at_ F) K Z1 F2 H2 σ2 ρ2 n2) : SR Y K Z F2 H2 σ2 ρ2 n2 where
  b := Base.exit r q.de q.he q.gr q.b
  de := r.de
  he := r.he
  gr := ⟨r.gr.sF.trans q.gr.sF, fun a h1 h2 => q.gr.nF a h1 (r.gr.nF a h1 h2), q.gr.kH, q.gr.iH, q.gr.dH⟩
  len := q.len
  slot := fun i x e => by
    obtain ⟨v, e1, e2⟩ := q.slot i x e
    exact ⟨v, e1, e2.re (q.he.trans r.he.symm) (q.de.trans r.de.symm)⟩
  apart := q.apart
theorem ends_in {K : PySem.W.Frag} {Z : Fx} {F H : Hp} {σ : L2.St} {ρ : Rho} {n : Wo} {E : DEnds} {D : Ends} (r : SR Y K Z F H σ ρ n) (k : EndsOk Y K Z E D) : EndsOk (Y.at_ F) K (Y.at_ F) E D :=
  ⟨fun _ _ _ _ _ h q => k.nx _ _ _ _ _ h (r.exit q), fun d n2 F2 H2 v h b q => k.rt _ _ _ _ _ h (Base.exit (Z1 := Y.at_ F) r rfl rfl ⟨b.gF, b.gN, b.gH, b.gI, fun a h => b.gD a h⟩ b) q, fun _ _ _ _ _ h q => k.bk _ _ _ _ _ h (r.exit q), fun _ _ _ _ _ h q => k.ct _ _ _ _ _ h (r.exit q)⟩
theorem pss_ex {α : Sort _} {st : List Stmt} {Q : α → Prop} {t : α → TS} (h : ∀ a, Q a → PSs X st (t a)) : PSs X st (fun D σ H => ∃ a, Q a ∧ t a D σ H) := ⟨fun p s σ H D I ⟨a, q, w⟩ => (h a q).run p s σ H D I w⟩
end
end DL
set_option maxHeartbeats 4000000
set_option maxHeartbeats 4000000
namespace DL
open PySem PySem.Spec PyProof.Rows L2
def HasX (P : Program) (w : World) (K : PySem.W.Frag) (mg : Str → Option Value) (base : Heap) (x : Str) (k : Nat) (ps : List Str) (c : DSpecX) : Prop :=
  ∃ f fd, mg x = some (.ref f) ∧ PySem.W.keepIn K (.ref f) = true ∧ Binds K fd ps [] ∧ FnGX P w K mg base k f fd ps (spDX K ps.length c)
section
variable {X : Cx} {Y : Fx} {dw : DW} {W : WX}
theorem we_hasX {k : Nat} {c : DSpecX} {ps : List Str} {x : Str} {p pos : Pos} {e : Expr} {es : List Expr} {t : DTA} (tk : Takes X W) (ok : WOk Y X.K dw W) (h : HasX X.prog X.w X.K X.mg X.base x k ps c) (hgd : X.A.guards = some []) (hr : Room k X.A) (hg : Gl X x)
    (ha : WA Y X (e :: es) t) (hdb : (x == ("__debug__" : Str)) = false := by decide) (he : starEach (e :: es) X.env = (false, eval e X.env) :: starEach es X.env := by rfl) (hpl : (backTo pos (starEach es X.env)).any (·.1) = false := by rfl) :
    WE Y X (.Call (.Name x p) (e :: es) [] pos) (dFnX ps.length c dw t) := by
  obtain ⟨f, fd, h1, h2, h3, h4⟩ := h
  exact we_fnX tk ok h4 hgd hr hg h1 h2 h3 ha hdb he hpl
/-- .. in a try: statement whose body is one expression that may raise -/
theorem names_own {x : Str} {C : Addr} (hg : Gl X x) (hm : X.mg x = some (.ref C)) (hdb : (x == ("__debug__" : Str)) = false := by decide) : Names X x (.ref C) := ⟨hg, hdb, .inl hm⟩
end
def inCls (st : Stmt) (j : Nat) : Stmt := match st with
  | .ClassDef _ _ _ b _ _ _ _ _ _ _ => b.getD j (.Pass ⟨0, 0, 0, 0⟩)
  | _ => .Pass ⟨0, 0, 0, 0⟩
end DL
set_option maxHeartbeats 4000000
set_option maxHeartbeats 4000000
set_option maxHeartbeats 4000000
set_option maxHeartbeats 4000000
namespace LkE
open PySem PySem.W PySem.Calls PyProof.Rows PySem.HandSPX
open Builtin Builtin.ObjectAttr
abbrev bare (C : Addr) (od : Option Addr) (fv : Array Value) : Obj := { cls := .ref C, dict := od, data := .fields fv }
end LkE
set_option maxHeartbeats 4000000
set_option maxHeartbeats 4000000
set_option maxHeartbeats 4000000
namespace DL
open PySem PySem.Spec PyProof.Rows L2
theorem flying_keeps {base : Heap} {l : List Env} {e : Addr} {Z : Obj → Prop} {h h' : Heap} (f : HandSPX.FlyingZ base l e Z h) (k : ∀ q o, h.get? q = some o → h'.get? q = some o) : HandSPX.FlyingZ base l e Z h' := by
  obtain ⟨a1, a2, a3, oe, vs, T, oT, ts, b1, b2, b3, b4, b5, b6, b7, b8, b9⟩ := f
  exact ⟨fun b o q => k _ _ (a1 b o q), a2, a3.of_keeps fun b o e _ => ⟨o, k _ _ e, rfl⟩, oe, vs, T, oT, ts, k _ _ b1, b2, b3, b4, b5, b6, k _ _ b7, b8, b9⟩
inductive Tst (X : Cx) : Expr → (Value → Option Bool) → Prop
  | one {x : Str} {c : Value} {np : Pos} (h : Names X x c) : Tst X (.Name x np) (fun cls => PySem.W.exmOne X.K cls c)
  | two {x1 x2 : Str} {c1 c2 : Value} {p1 p2 tp : Pos} {kk} (h1 : Names X x1 c1) (h2 : Names X x2 c2) : Tst X (.Tuple [.Name x1 p1, .Name x2 p2] kk tp) (fun cls => PySem.W.exmAny X.K cls [c1, c2])
  | three {x1 x2 x3 : Str} {c1 c2 c3 : Value} {p1 p2 p3 tp : Pos} {kk} (h1 : Names X x1 c1) (h2 : Names X x2 c2) (h3 : Names X x3 c3) : Tst X (.Tuple [.Name x1 p1, .Name x2 p2, .Name x3 p3] kk tp) (fun cls => PySem.W.exmAny X.K cls [c1, c2, c3])
section
variable {X : Cx}
theorem ld_names {X : Cx} {E : Value → Shared → Prop} {pins : List (Addr × Obj)} {s : Shared} {σ : L2.St} {H : Hp} {x : Str} {c : Value} {pos : Pos} {Q : Value → Shared → Prop} (I : Inv X pins σ H s) (hc : Names X x c) (h : Q c s) : wpAny (model X.prog X.w) X.A (eval (.Name x pos) X.env) Q E s := by
  obtain ⟨hg, hdbg, hm | ⟨hm, hv, hnn⟩⟩ := hc
  · exact ld_glob I hg hm h hdbg
  · exact ld_blt I hg hm hv h hnn hdbg
theorem Tst.run {t : Expr} {f : Value → Option Bool} (T : Tst X t f) {a : Addr} {pn : List (Addr × Obj)} {pins : List (Addr × Obj)} {σ : L2.St} {H : Hp} {s : Shared} {cls : Value} {b : Bool} {Q : Bool → Shared → Prop} {E : Value → Shared → Prop} (I : Inv (X.suite a pn) pins σ H s)
    (LT : PySem.W.Looks (model X.prog X.w) s.heap (typeOf (.ref a)) cls) (hb : f cls = some b) (q : ∀ h', (∀ q o, s.heap.get? q = some o → h'.get? q = some o) → Q b { s with heap := h' }) :
    wpAny (model X.prog X.w) (X.A.mark (some (.ref a))) (eval t X.env) (fun c s₁ => wpAny (model X.prog X.w) (X.A.mark (some (.ref a))) (excMatches (.ref a) c) Q E s₁) E s := by
  have ld : ∀ {E : Value → Shared → Prop} {x : Str} {c : Value} {p : Pos} {Q : Value → Shared → Prop}, Names X x c → Q c s → wpAny (model X.prog X.w) (X.A.mark (some (.ref a))) (eval (.Name x p) X.env) Q E s := fun h q => ld_names (X := X.suite a pn) I h q
  cases T with
  | one h => exact ld h ((PySem.W.exm_one I.kIn LT hb).here (q _ fun _ _ z => z))
  | @two x1 x2 c1 c2 p1 p2 tp kk h1 h2 =>
    refine wpAny_Tuple ?_
    refine wpAny_items_cons (ld h1 ?_)
    refine wpAny_items_cons (ld h2 ?_)
    refine wpAny_items_nil ⟨by size_fits, ?_⟩
    have kp : ∀ q o, s.heap.get? q = some o → (s.heap.push { cls := .type "tuple", data := .seq [c1, c2].toArray }).get? q = some o := fun _ _ z => Heap.get?_push_of_some _ z
    exact (PySem.W.exm_tup2 (I.kIn.keeps kp) (LT.keeps kp) (Heap.get?_push_size s.heap rfl) hb).here (q _ kp)
  | @three x1 x2 x3 c1 c2 c3 p1 p2 p3 tp kk h1 h2 h3 =>
    refine wpAny_Tuple ?_
    refine wpAny_items_cons (ld h1 ?_)
    refine wpAny_items_cons (ld h2 ?_)
    refine wpAny_items_cons (ld h3 ?_)
    refine wpAny_items_nil ⟨by size_fits, ?_⟩
    have kp : ∀ q o, s.heap.get? q = some o → (s.heap.push { cls := .type "tuple", data := .seq [c1, c2, c3].toArray }).get? q = some o := fun _ _ z => Heap.get?_push_of_some _ z
    exact (PySem.W.exm_tup3 (I.kIn.keeps kp) (LT.keeps kp) (Heap.get?_push_size s.heap rfl) hb).here (q _ kp)
def endsT (i : Nat) (D : Ends) : Ends := { nx := fun σ' H' => D.nx (σ'.set i none) H', rt := D.rt, bk := fun σ' H' => D.bk (σ'.set i none) H', ct := fun σ' H' => D.ct (σ'.set i none) H' }
structure Cz where
  f : Value → Option Bool
  i : Option Nat
  ts : Addr → Value → Option Addr → TS
def wG (Wout : WX) (D : Ends) : List Cz → WX
  | [] => Wout
  | ⟨f, none, ts⟩ :: r => fun cls d σ H => ∃ b, f cls = some b ∧ (b = true → ∀ a, H a = none → ts a cls d D σ H) ∧ (b = false → wG Wout D r cls d σ H)
  | ⟨f, some i, ts⟩ :: r => fun cls d σ H => ∃ b, f cls = some b ∧ (b = true → ∀ a, H a = none → ts a cls d (endsT i D) (σ.set i (some (.ref a))) H) ∧ (b = false → wG Wout D r cls d σ H)
inductive HdsG (X : Cx) : List ExceptHandler → List Cz → Prop
  | nil : HdsG X [] []
  | bare {t : Expr} {f : Value → Option Bool} {ts : Addr → Value → Option Addr → TS} {b₀ : Stmt} {suite : List Stmt} {pos' : Pos} {hds : List ExceptHandler} {l : List Cz} (T : Tst X t f)
      (hsu : ∀ (a : Addr) (oe : Obj) (cls : Value) (d : Option Addr) (pn : List (Addr × Obj)), Zc cls d oe → (∃ vs, oe.data = .fields vs) → PSs (X.suite a ((a, oe) :: pn)) (b₀ :: suite) (ts a cls d)) (r : HdsG X hds l) :
      HdsG X (.ExceptHandler (some t) none (b₀ :: suite) pos' :: hds) (⟨f, none, ts⟩ :: l)
  | as {t : Expr} {n : Str} {i : Nat} {f : Value → Option Bool} {ts : Addr → Value → Option Addr → TS} {b₀ : Stmt} {suite : List Stmt} {pos' : Pos} {hds : List ExceptHandler} {l : List Cz} (T : Tst X t f) (hN : X.N.Nodup) (hi : X.N[i]? = some n) (hln : X.env.kindOf n = some .local)
      (hsu : ∀ (a : Addr) (oe : Obj) (cls : Value) (d : Option Addr) (pn : List (Addr × Obj)), Zc cls d oe → (∃ vs, oe.data = .fields vs) → PSs (X.suite a ((a, oe) :: pn)) (b₀ :: suite) (ts a cls d)) (r : HdsG X hds l) :
      HdsG X (.ExceptHandler (some t) (some n) (b₀ :: suite) pos' :: hds) (⟨f, some i, ts⟩ :: l)
variable {body : List Stmt} {h₀ : ExceptHandler} {hds : List ExceptHandler} {l : List Cz} {pos : Pos} {tb : WX → TS} {Wout : WX}
theorem ps_try_g (hs : X.stack = X.env :: X.outer) (hf : X.env.frame = some X.env.locals) (tk : Takes X Wout)
    (hb : ∀ (W : WX) (pn : List (Addr × Obj)) (xe : Value → Shared → Prop), Takes (X.tr pn xe) W → PassesOwn (model X.prog X.w) X.A X.env xe → PSs (X.tr pn xe) body (tb W))
    (hh : HdsG X (h₀ :: hds) l) : PS X (.Try body (h₀ :: hds) [] [] pos) (fun D σ H => tb (wG Wout D l) D σ H) := by
  refine ⟨fun pins s σ H D I h => ?_⟩
  have ok := I.ok
  have hfr : X.A.frames = some (X.env :: X.outer) := by rw [ok.frames, hs]
  refine wpAny_Try_except ?_
  refine wpAny_mono ((hb (wG Wout D l) (X.pn ++ pins) (fun e s₁ => wpAny (model X.prog X.w) X.A (noteFrame e X.env) (fun _ s₂ => wpAny (model X.prog X.w) X.A (setFlight e none) (fun _ s₃ =>
    wpAny (model X.prog X.w) X.A (handleBy e X.env (h₀ :: hds)) (SP X pins D) X.xe s₃) X.xe s₂) X.xe s₁) (fun u s' xx => ?_) PassesOwn.looking).run [] s σ H D (I.toTry _) h) (fun f s1 hsp => ?_) (fun e s1 he => he)
  · -- the catch
    obtain ⟨a, B, sI, pins', σ', H', cls, d, rfl, J', nb, up, sky, na, os, ag, w⟩ := xx
    have J : Inv X pins σ' H' sI := J'.ofTry ok
    have sky' : Sky B (X.env :: X.outer) a (Zc cls d) X.env.locals s'.heap := by rw [← hs]; exact sky
    show wpAny (model X.prog X.w) X.A (noteFrame (.ref a) X.env) _ _ _
    refine Sky.land Zc.steady hfr hf sky' fun h3 fl3 up3 => ?_
    have notFr : ∀ {h : Heap} {o : Obj} {vs : Array Value}, h.FunFrames B (X.env :: X.outer) → h.get? a = some o → o.data = .fields vs → a ∉ frs (X.env :: X.outer) := fun {h o vs} ff e dd hm => by
      obtain ⟨_, o', e', hnf⟩ := ff.mem hm
      rw [e] at e'; cases e'
      exact hnf _ dd
    have go : ∀ {hds' : List ExceptHandler} {l' : List Cz}, HdsG X hds' l' → ∀ h3, HandSPX.FlyingZ B (X.env :: X.outer) a (Zc cls d) h3 → s'.heap.UpToSlots h3 → wG Wout D l' cls d σ' H' →
        wpAny (model X.prog X.w) X.A (handleBy (.ref a) X.env hds') (SP X pins D) X.xe { s' with heap := h3 } := by
      intro hds' l' hk
      induction hk with
      | nil =>
        intro h3 fl3 up3 w
        have J3 : Inv X pins σ' H' { s' with heap := h3 } := J.landed nb fl3.1 (up.trans up3) os ag
        refine wpAny_handleBy_nil ?_
        obtain ⟨k1, k2, k3, oe, vs, T, oT, ts', he, hz, hd, h1, hr⟩ := id fl3
        unfold PySem.passOn
        refine wpAny_bind (wpAny_field he hd h1 ?_)
        rw [if_neg (show ¬ ((Value.ref T == Value.none) = true) from by simp)]
        have fin : wpAny (model X.prog X.w) X.A (setFlight (.ref a) X.env.frame) (fun _ s4 => wpAny (model X.prog X.w) X.A (throw (.ref a) : Sem Flow) (SP X pins D) X.xe s4) X.xe { s' with heap := h3 } := by
          rw [hf]
          refine HandSPX.setFlight_upZ fl3 fun h4 hh4 up4 => wpAny_throw (tk _ _ ?_)
          exact ⟨a, B, sI, pins, σ', H', cls, d, rfl, J, nb, (up.trans up3).trans up4, .inr (.inr (by rw [hs]; exact hh4)), na, os, ag, w⟩
        first
          | exact wpAny_bind (wpAny_pure (wpAny_bind fin))
          | exact wpAny_bind fin
      | @bare t f ts b₀ suite pos' hds2 l2 T hsu r ih =>
        intro h3 fl3 up3 w
        have J3 : Inv X pins σ' H' { s' with heap := h3 } := J.landed nb fl3.1 (up.trans up3) os ag
        obtain ⟨oe3, vs3, he3, hz3, hd3⟩ := fl3.there
        have nfr := notFr fl3.2.2.1 he3 hd3
        have nL : a ≠ X.env.locals := fun z => nfr (List.mem_filterMap.mpr ⟨X.env, List.mem_cons_self, by rw [hf, z]⟩)
        have nF : a ∉ X.fs := fun hm => by
          obtain ⟨e, he, q⟩ := List.mem_filterMap.mp hm
          exact nfr (List.mem_filterMap.mpr ⟨e, List.mem_cons_of_mem _ he, q⟩)
        have S3 := J3.suite he3 hd3 na nL nF
        obtain ⟨b, hb1, hyes, hno⟩ := w
        have LT : PySem.W.Looks (model X.prog X.w) h3 (typeOf (.ref a)) cls := fun A Q E s k q => wpAny_typeOf_ref (k _ _ he3) (by rw [hz3.1]; exact q)
        refine wpAny_handleBy_cons (codeAny_handlers_test (T.run S3 LT hb1 fun h5 kp => ?_)) (by intro q; cases q)
        have fl5 := flying_keeps fl3 kp
        have up5 := up3.trans (Heap.UpToSlots.of_keeps kp)
        cases b with
        | true =>
          refine codeAny_handlers_suite ?_
          refine HandSPX.lands_againZ fl5 fun h4 fl4 up4 => ?_
          have J4 : Inv X pins σ' H' { s' with heap := h4 } := J.landed nb fl4.1 ((up.trans up5).trans up4) os ag
          obtain ⟨oe4, vs4, he4, hz4, hd4⟩ := fl4.there
          have S4 := J4.suite he4 hd4 na nL nF
          refine wpAny_mono ((hsu a oe4 cls d (X.pn ++ pins) hz4 ⟨_, hd4⟩).run [] _ _ H' _ S4 (hyes rfl a na)) (fun f s6 hsp => ?_) (fun _ _ z => False.elim z)
          cases f with
          | next =>
            obtain ⟨σ6, H6, S6, q6⟩ := hsp
            exact ⟨_, _, S6.unsuite ok, q6⟩
          | brk =>
            obtain ⟨σ6, H6, S6, q6⟩ := hsp
            exact ⟨_, _, S6.unsuite ok, q6⟩
          | cont =>
            obtain ⟨σ6, H6, S6, q6⟩ := hsp
            exact ⟨_, _, S6.unsuite ok, q6⟩
          | ret u =>
            obtain ⟨v6, σ6, H6, S6, r6, q6⟩ := hsp
            exact ⟨_, _, _, S6.unsuite ok, r6, q6⟩
        | false =>
          show wpAny _ X.A (handleBy (.ref a) X.env hds2) _ _ _
          exact ih h5 fl5 up5 (hno rfl)
      | @as t n i f ts b₀ suite pos' hds2 l2 T hN hi hln hsu r ih =>
        intro h3 fl3 up3 w
        have hloc : Loc X.env.scope n := .inl hln
        have J3 : Inv X pins σ' H' { s' with heap := h3 } := J.landed nb fl3.1 (up.trans up3) os ag
        obtain ⟨oe3, vs3, he3, hz3, hd3⟩ := fl3.there
        have nfr := notFr fl3.2.2.1 he3 hd3
        have nL : a ≠ X.env.locals := fun z => nfr (List.mem_filterMap.mpr ⟨X.env, List.mem_cons_self, by rw [hf, z]⟩)
        have nF : a ∉ X.fs := fun hm => by
          obtain ⟨e, he, q⟩ := List.mem_filterMap.mp hm
          exact nfr (List.mem_filterMap.mpr ⟨e, List.mem_cons_of_mem _ he, q⟩)
        have S3 := J3.suite he3 hd3 na nL nF
        obtain ⟨b, hb1, hyes, hno⟩ := w
        have LT : PySem.W.Looks (model X.prog X.w) h3 (typeOf (.ref a)) cls := fun A Q E s k q => wpAny_typeOf_ref (k _ _ he3) (by rw [hz3.1]; exact q)
        refine wpAny_handleBy_cons (codeAny_handlers_test (T.run S3 LT hb1 fun h5 kp => ?_)) (by intro q; cases q)
        have fl5 := flying_keeps fl3 kp
        have up5 := up3.trans (Heap.UpToSlots.of_keeps kp)
        cases b with
        | true =>
          refine codeAny_handlers_suite_as ?_
          refine HandSPX.lands_againZ fl5 fun h4 fl4 up4 => ?_
          have J4 : Inv X pins σ' H' { s' with heap := h4 } := J.landed nb fl4.1 ((up.trans up5).trans up4) os ag
          obtain ⟨oe4, vs4, he4, hz4, hd4⟩ := fl4.there
          have S4 := J4.suite he4 hd4 na nL nF
          refine store_ok (X := X.suite a ((a, oe4) :: (X.pn ++ pins))) (v := .ref a) S4 hN hi hloc rfl (fun s5 S5 => ?_) (.inr hln)
          refine wpAny_mono ((hsu a oe4 cls d (X.pn ++ pins) hz4 ⟨_, hd4⟩).run [] s5 _ H' _ S5 (hyes rfl a na)) (fun f s6 hsp => ?_) (fun _ _ z => False.elim z)
          have end_ : ∀ {σ6 : L2.St} {H6 : Hp} {Q : Shared → Prop}, Inv (X.suite a ((a, oe4) :: (X.pn ++ pins))) [] σ6 H6 s6 → (∀ s7, Inv X pins (σ6.set i none) H6 s7 → Q s7) →
              wpAny (model X.prog X.w) X.A (do bindName X.env n .none; unbindBehindTheSuite X.env n pos') (fun _ s7 => Q s7) X.xe s6 := fun {σ6 H6 Q} S6 hq => gone_ok (S6.unsuite ok) hN hi hln hq
          cases f with
          | next =>
            obtain ⟨σ6, H6, S6, q6⟩ := hsp
            exact end_ S6 fun s7 J7 => ⟨_, _, J7, q6⟩
          | brk =>
            obtain ⟨σ6, H6, S6, q6⟩ := hsp
            exact end_ S6 fun s7 J7 => ⟨_, _, J7, q6⟩
          | cont =>
            obtain ⟨σ6, H6, S6, q6⟩ := hsp
            exact end_ S6 fun s7 J7 => ⟨_, _, J7, q6⟩
          | ret u =>
            obtain ⟨v6, σ6, H6, S6, r6, q6⟩ := hsp
            exact end_ S6 fun s7 J7 => ⟨_, _, _, J7, r6, q6⟩
        | false =>
          show wpAny _ X.A (handleBy (.ref a) X.env hds2) _ _ _
          exact ih h5 fl5 up5 (hno rfl)
    exact go hh h3 fl3 up3 w
  · cases f with
    | next =>
      obtain ⟨σ', H', J', q⟩ := hsp
      exact wpAny_execs_nil ⟨σ', H', J'.ofTry ok, q⟩
    | brk =>
      obtain ⟨σ', H', J', q⟩ := hsp
      exact ⟨σ', H', J'.ofTry ok, q⟩
    | cont =>
      obtain ⟨σ', H', J', q⟩ := hsp
      exact ⟨σ', H', J'.ofTry ok, q⟩
    | ret u =>
      obtain ⟨v, σ', H', J', r, q⟩ := hsp
      exact ⟨v, σ', H', J'.ofTry ok, r, q⟩
end
structure Dz where
  f : Value → Option Bool
  i : Option Nat
  ts : Addr → Value → Option Addr → DTS
def dwG (dwo : DW) (E : DEnds) : List Dz → DW
  | [] => dwo
  | ⟨f, none, ts⟩ :: r => fun ex ρ n => ∃ b, f (.ref ex.C) = some b ∧ (b = true → ∀ a d, ts a (.ref ex.C) d E ρ (caught a ex d n)) ∧ (b = false → dwG dwo E r ex ρ n)
  | ⟨f, some i, ts⟩ :: r => fun ex ρ n => ∃ b, f (.ref ex.C) = some b ∧ (b = true → ∀ a d, ts a (.ref ex.C) d (endsX i E) (ρ.set i (some (.dat (refD a)))) (caught a ex d n)) ∧ (b = false → dwG dwo E r ex ρ n)
def dTryG (l : List Dz) (tb : DW → DTS) (dwo : DW) : DTS := fun E ρ n => tb (dwG dwo E l) E ρ n
inductive HdsD (Y : Fx) (X : Cx) : List ExceptHandler → List Dz → Prop
  | nil : HdsD Y X [] []
  | bare {t : Expr} {f : Value → Option Bool} {ts : Addr → Value → Option Addr → DTS} {b₀ : Stmt} {suite : List Stmt} {pos' : Pos} {hds : List ExceptHandler} {l : List Dz} (T : Tst X t f)
      (hsu : ∀ (a : Addr) (oe : Obj) (cls : Value) (d : Option Addr) (pn : List (Addr × Obj)), Zc cls d oe → (∃ vs, oe.data = .fields vs) → DSs Y (X.suite a ((a, oe) :: pn)) (b₀ :: suite) (ts a cls d)) (r : HdsD Y X hds l) :
      HdsD Y X (.ExceptHandler (some t) none (b₀ :: suite) pos' :: hds) (⟨f, none, ts⟩ :: l)
  | as {t : Expr} {n : Str} {i : Nat} {f : Value → Option Bool} {ts : Addr → Value → Option Addr → DTS} {b₀ : Stmt} {suite : List Stmt} {pos' : Pos} {hds : List ExceptHandler} {l : List Dz} (T : Tst X t f) (hN : X.N.Nodup) (hi : X.N[i]? = some n) (hln : X.env.kindOf n = some .local)
      (hsu : ∀ (a : Addr) (oe : Obj) (cls : Value) (d : Option Addr) (pn : List (Addr × Obj)), Zc cls d oe → (∃ vs, oe.data = .fields vs) → DSs Y (X.suite a ((a, oe) :: pn)) (b₀ :: suite) (ts a cls d)) (r : HdsD Y X hds l) :
      HdsD Y X (.ExceptHandler (some t) (some n) (b₀ :: suite) pos' :: hds) (⟨f, some i, ts⟩ :: l)
def toCz (Y : Fx) (K : PySem.W.Frag) (z : Dz) : Cz := ⟨z.f, z.i, fun a cls d => upS Y K (z.ts a cls d)⟩
section
variable {X : Cx} {Y : Fx} {dw : DW} {W : WX}
theorem hdsD_g {hds : List ExceptHandler} {l : List Dz} (h : HdsD Y X hds l) : HdsG X hds (l.map (toCz Y X.K)) := by
  induction h with
  | nil => exact .nil
  | bare T hsu r ih => exact .bare T hsu ih
  | as T hN hi hln hsu r ih => exact .as T hN hi hln hsu ih
theorem ds_try_g {body : List Stmt} {h₀ : ExceptHandler} {hds : List ExceptHandler} {l : List Dz} {pos : Pos} {tb : DW → DTS} (tk : Takes X W) (ok : WOk Y X.K dw W)
    (hs : X.stack = X.env :: X.outer) (hf : X.env.frame = some X.env.locals)
    (hb : ∀ (Y1 : Fx) (W1 : WX) (pn : List (Addr × Obj)) (xe : Value → Shared → Prop) (dw1 : DW), Takes (X.tr pn xe) W1 → WOk Y1 X.K dw1 W1 → DSs Y1 (X.tr pn xe) body (tb dw1))
    (hh : HdsD Y X (h₀ :: hds) l) : DS Y X (.Try body (h₀ :: hds) [] [] pos) (dTryG l tb dw) :=
  ps_imp (ps_try_g (tb := fun W1 D σ H => ∃ q : Fx × DW, WOk q.1 X.K q.2 W1 ∧ upS q.1 X.K (tb q.2) D σ H) (Wout := W) hs hf tk
    (fun W1 pn xe tk1 _ => pss_ex (Q := fun q : Fx × DW => WOk q.1 X.K q.2 W1) fun q ok1 => hb q.1 W1 pn xe q.2 tk1 ok1) (hdsD_g hh)) fun D σ H ⟨Z, F, ρ, n, E, r, ht, k⟩ => by
    refine ⟨⟨Y.at_ F, dwG dw E l⟩, fun ex ρ1 n1 F1 H1 σ1 cls d Z1 h1 q1 hx1 => ?_, Y.at_ F, F, ρ, n, E, r.enter, ht, ends_in r k⟩
    have r1 := r.exit q1
    clear ht hh
    obtain ⟨hcls, hxo⟩ := hx1
    subst hcls
    have key : ∀ l : List Dz, dwG dw E l ex ρ1 n1 → wG W D (l.map (toCz Y X.K)) (.ref ex.C) d σ1 H1 := by
      intro l
      induction l with
      | nil => exact fun h1 => ok _ _ _ _ _ _ _ _ _ h1 r1 ⟨rfl, hxo⟩
      | cons z l ih =>
        intro h1
        obtain ⟨f, i, ts⟩ := z
        cases i with
        | none =>
          obtain ⟨b, hb1, hyes, hno⟩ := h1
          refine ⟨b, hb1, fun hbt a na => ?_, fun hbf => ih (hno hbf)⟩
          have r2 : SR Y X.K Z F1 H1 σ1 ρ1 (caught a ex d n1) := r1.step Gr.refl r1.b.sub (at_caught r1.b.dk hxo)
          exact ⟨Z, F1, _, _, _, r2, hyes hbt a d, k⟩
        | some i =>
          obtain ⟨b, hb1, hyes, hno⟩ := h1
          refine ⟨b, hb1, fun hbt a na => ?_, fun hbf => ih (hno hbf)⟩
          have r2 : SR Y X.K Z F1 H1 σ1 ρ1 (caught a ex d n1) := r1.step Gr.refl r1.b.sub (at_caught r1.b.dk hxo)
          exact ⟨Z, F1, _, _, _, r2.setD i (rp_ref (a := a)), hyes hbt a d, ends_x k⟩
    exact key l h1
end
end DL
set_option maxHeartbeats 4000000
set_option maxHeartbeats 4000000
set_option maxHeartbeats 4000000
set_option maxHeartbeats 4000000
set_option maxHeartbeats 4000000
namespace PySem
open Sem (wp)
end PySem
namespace L2
open PySem PySem.Spec PyProof.Rows GenW
end L2
set_option maxHeartbeats 4000000
namespace DL
open PySem PySem.Spec PyProof.Rows L2
section
variable {X : Cx} {Y : Fx}
structure FnNG (P : Program) (w : World) (K : PySem.W.Frag) (mg : Str → Option Value) (base : Heap) (k : Nat) (f : Addr) (fd : FuncData) (ps : List Str) (sp : Sp) : Prop where
  len : ∀ vs H Q E, sp vs H Q E → vs.length = ps.length
  run : ∀ (A : Around) (outer : List Env) (s : Shared) (H : Hp) (args : Args) (us : List Value) (vs : List V) (Q : VK), Room k A → Env0 P w K mg base A outer s H →
    BindsTo s fd args (ps.zip us) → Vals vs us → sp vs H Q E0 → codeAny (model P w) A (.call (.ref f) args) (CR CX0 outer P w H s Q E0) s
end
section
variable {X : Cx} {Y : Fx}
theorem FnNG.mono {P : Program} {w : World} {K : PySem.W.Frag} {mg : Str → Option Value} {base : Heap} {j k : Nat} {f : Addr} {fd : FuncData} {ps : List Str} {sp : Sp} (F : FnNG P w K mg base j f fd ps sp) (h : j ≤ k) : FnNG P w K mg base k f fd ps sp :=
  ⟨F.len, fun A outer s H args us vs Q hr => F.run A outer s H args us vs Q (hr.mono h)⟩
end
section
variable {X : Cx} {Y : Fx}
def HasNG (P : Program) (w : World) (K : PySem.W.Frag) (mg : Str → Option Value) (base : Heap) (x : Str) (k : Nat) (ps : List Str) (c : DSpec) : Prop :=
  ∃ f fd, mg x = some (.ref f) ∧ PySem.W.keepIn K (.ref f) = true ∧ Binds K fd ps [] ∧ FnNG P w K mg base k f fd ps (spD K ps.length c)
end
section
structure FnNX (P : Program) (w : World) (K : PySem.W.Frag) (mg : Str → Option Value) (base : Heap) (k : Nat) (f : Addr) (fd : FuncData) (ps : List Str) (sp : Sp) : Prop where
  len : ∀ vs H Q E, sp vs H Q E → vs.length = ps.length
  run : ∀ (A : Around) (outer : List Env) (s : Shared) (H : Hp) (args : Args) (us : List Value) (vs : List V) (Q : VK) (E : XK), Room k A → Env0 P w K mg base A outer s H →
    BindsTo s fd args (ps.zip us) → Vals vs us → sp vs H Q E → codeAny (model P w) A (.call (.ref f) args) (CR (L2.CX P w) outer P w H s Q E) s
end
section
variable {P : Program} {w : World} {K : PySem.W.Frag} {mg : Str → Option Value} {base : Heap} {k : Nat} {f : Addr} {fd : FuncData} {ps : List Str} {sp : Sp}
theorem FnNG.g (F : FnNG P w K mg base k f fd ps sp) : FnG P w K mg base k f fd ps sp := ⟨F.len, fun A outer s H args us vs Q _ hr => F.run A outer s H args us vs Q hr⟩
theorem FnNX.mono {j : Nat} (F : FnNX P w K mg base j f fd ps sp) (h : j ≤ k) : FnNX P w K mg base k f fd ps sp := ⟨F.len, fun A outer s H args us vs Q E hr => F.run A outer s H args us vs Q E (hr.mono h)⟩
end
end DL
set_option maxHeartbeats 4000000
namespace DL
open PySem PySem.Spec PyProof.Rows L2
/-- a generator def's contract: R, of all that is handed out -/
abbrev DSpecG := List Dv → Wo → (List PyData → Wo → Prop) → (Ex → Wo → Prop) → Prop
end DL
set_option maxHeartbeats 4000000
set_option maxHeartbeats 4000000
namespace DL
open PySem PySem.Spec PyProof.Rows L2
variable {X : Cx} {Y : Fx} {k : Nat} {f : Addr} {fd : FuncData} {ps : List Str} {PC : Addr → Prop} {m : Str} {c : Addr → DSpecG} {sp : SpG}
section
variable {P : Program} {w : World} {K : PySem.W.Frag} {mg : Str → Option Value} {base : Heap} {PC : Addr → Prop} {C : Addr} {nm m kw : Str} {k : Nat} {ps : List Str}
theorem HasNG.g {c : DSpec} (h : HasNG P w K mg base nm k ps c) : Has P w K mg base nm k ps c := let ⟨f, fd, h1, h2, h3, h4⟩ := h; ⟨f, fd, h1, h2, h3, h4.g⟩
end
end DL
set_option maxHeartbeats 4000000
set_option maxHeartbeats 4000000
namespace L2
open PySem PySem.Spec PyProof.Rows
end L2
set_option maxHeartbeats 0
namespace DL
open PySem PySem.Spec PyProof.Rows L2
def sizesD (xs : List Int) : PyData := .tuple (xs.map .int)
def hallD (feet pairs : List Int) : PyData := .tuple [sizesD feet, sizesD pairs]
/-- sizes from 1 to h -/
abbrev In1 (h : Int) (xs : List Int) : Prop := ∀ x ∈ xs, 1 ≤ x ∧ x ≤ h
theorem pick2 {a b : PyData} {r : Int} (h0 : 0 ≤ r) (h1 : r < 2) : ∃ d, atI [a, b] r = some d ∧ (d = a ∨ d = b) := by
  obtain ⟨d, h, hm⟩ := atI_mem (xs := [a, b]) h0 (by simpa using h1)
  exact ⟨d, h, by simpa using hm⟩
theorem pick3 {a b c : PyData} {r : Int} (h0 : 0 ≤ r) (h1 : r < 3) : ∃ d, atI [a, b, c] r = some d ∧ (d = a ∨ d = b ∨ d = c) := by
  obtain ⟨d, h, hm⟩ := atI_mem (xs := [a, b, c]) h0 (by simpa using h1)
  exact ⟨d, h, by simpa using hm⟩
/-- numbers as they were drawn -/
theorem ints_of {h : Int} : ∀ {ys : List PyData}, (∀ y ∈ ys, ∃ z : Int, y = .int z ∧ 1 ≤ z ∧ z ≤ h) → ∃ zs : List Int, ys = zs.map .int ∧ In1 h zs
  | [], _ => ⟨[], rfl, fun _ q => (by cases q)⟩
  | y :: ys, q => by
    obtain ⟨z, rfl, h1, h2⟩ := q y (by simp)
    obtain ⟨zs, rfl, h3⟩ := ints_of (ys := ys) fun x hx => q x (by simp [hx])
    exact ⟨z :: zs, rfl, fun x hx => by
      rcases List.mem_cons.mp hx with rfl | hx
      · exact ⟨h1, h2⟩
      · exact h3 x hx⟩
theorem map_get {α : Type} {xs : List α} {enc : α → PyData} {k : Nat} {x : PyData} (h : (xs.map enc)[k]? = some x) : ∃ z, xs[k]? = some z ∧ x = enc z := by
  rw [List.getElem?_map] at h
  obtain ⟨z, h1, h2⟩ := Option.map_eq_some_iff.mp h
  exact ⟨z, h1, h2.symm⟩
/-- the item at a place -/
def getI (xs : List Int) (j : Int) : Int := (xs[j.toNat]?).getD 0
def intsN (m : Nat) : List Int := (List.range m).map fun (k : Nat) => (k : Int)
theorem mem_intsN {m : Nat} {j : Int} (h : j ∈ intsN m) : 0 ≤ j ∧ j < m := by
  obtain ⟨k, hk, rfl⟩ := List.mem_map.mp h
  have := List.mem_range.mp hk
  omega
/-- one guest of a run by a list of liking -/
def stepF (feet pairs : List Int) (s : List Int × List (Int × Int)) (g : Int) : List Int × List (Int × Int) :=
  match s.1.filter fun j => decide (getI feet g ≤ getI pairs j) with
  | [] => (s.1, s.2 ++ [(g, -1)])
  | j :: _ => (s.1.erase j, s.2 ++ [(g, j)])
/-- the best of those seen -/
def bestS (key : Int → Int) (fits : Int → Bool) (b j : Int) : Int := if fits j = true then (if b = -1 ∨ key j < key b then j else b) else b
def stepL (key : Int → Int) (feet pairs : List Int) (s : List Int × List (Int × Int)) (g : Int) : List Int × List (Int × Int) :=
  (s.1.filter fun o => decide (o ≠ s.1.foldl (bestS key fun j => decide (getI feet g ≤ getI pairs j)) (-1)), s.2 ++ [(g, s.1.foldl (bestS key fun j => decide (getI feet g ≤ getI pairs j)) (-1))])
def ruled (key : Int → Int) (feet pairs order : List Int) : List (Int × Int) := (order.foldl (stepL key feet pairs) (intsN pairs.length, [])).2
theorem fold_take {α β : Type} {f : β → α → β} {b : β} {xs : List α} {k : Nat} {x : α} (h : xs[k]? = some x) : (xs.take (k + 1)).foldl f b = f ((xs.take k).foldl f b) x := by
  rw [List.take_add_one, h, List.foldl_append]; rfl
/-- what is best -/
def Lx (key : Int → Int) (a b : Int) : Prop := key a < key b ∨ (key a = key b ∧ a ≤ b)
theorem best_is (key : Int → Int) (fits : Int → Bool) : ∀ (l : List Int) (b : Int), (∀ x ∈ l, 0 ≤ x) → l.Pairwise (· < ·) → (b = -1 ∨ (0 ≤ b ∧ fits b = true ∧ ∀ x ∈ l, b < x)) →
    let r := l.foldl (bestS key fits) b
    (r = -1 ∧ b = -1 ∧ ∀ x ∈ l, fits x = false) ∨ ((r = b ∨ r ∈ l) ∧ 0 ≤ r ∧ fits r = true ∧ (∀ x ∈ l, fits x = true → Lx key r x) ∧ (b ≠ -1 → Lx key r b))
  | [], b, _, _, hb => by
    rcases hb with rfl | ⟨h1, h2, _⟩
    · exact .inl ⟨rfl, rfl, fun _ h => nomatch h⟩
    · exact .inr ⟨.inl rfl, h1, h2, fun _ h => (nomatch h), fun _ => .inr ⟨rfl, Int.le_refl _⟩⟩
  | y :: l, b, hn, hp, hb => by
    have hy : 0 ≤ y := hn y (by simp)
    obtain ⟨p1, p2⟩ := List.pairwise_cons.mp hp
    have hb' : bestS key fits b y = -1 ∨ (0 ≤ bestS key fits b y ∧ fits (bestS key fits b y) = true ∧ ∀ x ∈ l, bestS key fits b y < x) := by
      unfold bestS
      by_cases f : fits y = true
      · rw [if_pos f]
        by_cases c : b = -1 ∨ key y < key b
        · rw [if_pos c]; exact .inr ⟨hy, f, p1⟩
        · rw [if_neg c]
          rcases hb with rfl | ⟨h1, h2, h3⟩
          · exact absurd (.inl rfl) c
          · exact .inr ⟨h1, h2, fun x hx => h3 x (by simp [hx])⟩
      · rw [if_neg f]
        rcases hb with rfl | ⟨h1, h2, h3⟩
        · exact .inl rfl
        · exact .inr ⟨h1, h2, fun x hx => h3 x (by simp [hx])⟩
    have ih := best_is key fits l (bestS key fits b y) (fun x hx => hn x (by simp [hx])) p2 hb'
    show (let r := l.foldl (bestS key fits) (bestS key fits b y); _)
    simp only at ih ⊢
    rw [List.foldl_cons]
    rcases ih with ⟨e1, e2, e3⟩ | ⟨e1, e2, e3, e4, e5⟩
    · unfold bestS at e2
      by_cases f : fits y = true
      · rw [if_pos f] at e2
        by_cases c : b = -1 ∨ key y < key b
        · rw [if_pos c] at e2; omega
        · rw [if_neg c] at e2
          exact absurd (.inl e2) c
      · rw [if_neg f] at e2
        refine .inl ⟨e1, e2, fun x hx => ?_⟩
        rcases List.mem_cons.mp hx with rfl | hx
        · exact Bool.eq_false_iff.mpr f
        · exact e3 x hx
    · refine .inr ⟨?_, e2, e3, ?_, ?_⟩
      · have hq : bestS key fits b y = y ∨ bestS key fits b y = b := by
          unfold bestS
          split
          · split
            · exact .inl rfl
            · exact .inr rfl
          · exact .inr rfl
        rcases e1 with e1 | e1
        · rcases hq with hq | hq
          · exact .inr (by rw [e1, hq]; simp)
          · exact .inl (by rw [e1, hq])
        · exact .inr (by simp [e1])
      · intro x hx fx
        rcases List.mem_cons.mp hx with rfl | hx
        · have hb2 : Lx key (bestS key fits b x) x ∧ bestS key fits b x ≠ -1 := by
            unfold bestS
            rw [if_pos fx]
            by_cases c : b = -1 ∨ key x < key b
            · rw [if_pos c]; exact ⟨.inr ⟨rfl, Int.le_refl _⟩, by omega⟩
            · rw [if_neg c]
              rcases hb with rfl | ⟨h1, h2, h3⟩
              · exact absurd (.inl rfl) c
              · have := h3 x (by simp)
                have : ¬ key x < key b := fun q => c (.inr q)
                exact ⟨by unfold Lx; omega, by omega⟩
          have := e5 hb2.2
          have := hb2.1
          unfold Lx at *
          omega
        · exact e4 x hx fx
      · intro hne
        have hb2 : bestS key fits b y ≠ -1 ∧ Lx key (bestS key fits b y) b := by
          rcases hb with rfl | ⟨h1, h2, h3⟩
          · exact absurd rfl hne
          · unfold bestS
            by_cases f : fits y = true
            · rw [if_pos f]
              by_cases c : b = -1 ∨ key y < key b
              · rw [if_pos c]
                rcases c with c | c
                · exact absurd c hne
                · exact ⟨by omega, .inl c⟩
              · rw [if_neg c]; exact ⟨hne, .inr ⟨rfl, Int.le_refl _⟩⟩
            · rw [if_neg f]; exact ⟨hne, .inr ⟨rfl, Int.le_refl _⟩⟩
        have := e5 hb2.1
        have := hb2.2
        unfold Lx at *
        omega
theorem erase_filter {l : List Int} (h : l.Nodup) (j : Int) : l.erase j = l.filter fun o => decide (o ≠ j) := by
  rw [h.erase_eq_filter]
  congr 1
  funext o
  by_cases q : o = j <;> simp [q]
/-- the two ways step alike -/
theorem step_same (key : Int → Int) (feet pairs : List Int) (l1 l2 : List Int) (r : List (Int × Int)) (g : Int) (hp : l1.Perm l2) (hs : l1.Pairwise (Lx key)) (hl : l2.Pairwise (· < ·)) (hn : ∀ x ∈ l2, 0 ≤ x) :
    (stepF feet pairs (l1, r) g).2 = (stepL key feet pairs (l2, r) g).2 ∧ (stepF feet pairs (l1, r) g).1.Perm (stepL key feet pairs (l2, r) g).1 := by
  have hb := best_is key (fun j => decide (getI feet g ≤ getI pairs j)) l2 (-1) hn hl (.inl rfl)
  have nd2 : l2.Nodup := hl.imp fun h => Int.ne_of_lt h
  have nd1 : l1.Nodup := hp.nodup_iff.mpr nd2
  unfold stepF stepL
  simp only at hb ⊢
  generalize l2.foldl (bestS key fun j => decide (getI feet g ≤ getI pairs j)) (-1) = b at hb ⊢
  rcases hb with ⟨rfl, _, h3⟩ | ⟨h1, h2, h3, h4, _⟩
  · have e : (l1.filter fun j => decide (getI feet g ≤ getI pairs j)) = [] := List.filter_eq_nil_iff.mpr fun x hx => by
      rw [h3 x (hp.mem_iff.mp hx)]; exact Bool.false_ne_true
    rw [e]
    refine ⟨rfl, ?_⟩
    show l1.Perm _
    rw [List.filter_eq_self.mpr fun x hx => by have := hn x hx; simp; omega]
    exact hp
  · have hb1 : b ∈ l1 := by
      rcases h1 with q | q
      · omega
      · exact hp.mem_iff.mpr q
    have hbf : b ∈ l1.filter fun j => decide (getI feet g ≤ getI pairs j) := List.mem_filter.mpr ⟨hb1, h3⟩
    have hsf := hs.filter fun j => decide (getI feet g ≤ getI pairs j)
    cases e : l1.filter fun j => decide (getI feet g ≤ getI pairs j) with
    | nil => rw [e] at hbf; cases hbf
    | cons j js =>
      have ej : j = b := by
        rw [e] at hbf hsf
        rcases List.mem_cons.mp hbf with q | q
        · exact q.symm
        · have a1 : Lx key j b := (List.pairwise_cons.mp hsf).1 b q
          have hj : j ∈ l1.filter fun j => decide (getI feet g ≤ getI pairs j) := by rw [e]; simp
          obtain ⟨q1, q2⟩ := List.mem_filter.mp hj
          have a2 := h4 j (hp.mem_iff.mp q1) q2
          unfold Lx at a1 a2
          omega
      subst ej
      refine ⟨rfl, ?_⟩
      show (l1.erase j).Perm _
      rw [erase_filter nd1]
      exact hp.filter _
theorem run_same (key : Int → Int) (feet pairs : List Int) : ∀ (order : List Int) (l1 l2 : List Int) (r : List (Int × Int)), l1.Perm l2 → l1.Pairwise (Lx key) → l2.Pairwise (· < ·) → (∀ x ∈ l2, 0 ≤ x) →
    (order.foldl (stepF feet pairs) (l1, r)).2 = (order.foldl (stepL key feet pairs) (l2, r)).2
  | [], _, _, _, _, _, _, _ => rfl
  | g :: order, l1, l2, r, hp, hs, hl, hn => by
    obtain ⟨e1, e2⟩ := step_same key feet pairs l1 l2 r g hp hs hl hn
    rw [List.foldl_cons, List.foldl_cons]
    have sub2 : ∀ x ∈ (stepL key feet pairs (l2, r) g).1, x ∈ l2 := fun x hx => (List.mem_filter.mp hx).1
    have pw1 : (stepF feet pairs (l1, r) g).1.Pairwise (Lx key) := by
      unfold stepF
      simp only
      split
      · exact hs
      · exact hs.sublist List.erase_sublist
    have pw2 : (stepL key feet pairs (l2, r) g).1.Pairwise (· < ·) := hl.filter _
    have := run_same key feet pairs order (stepF feet pairs (l1, r) g).1 (stepL key feet pairs (l2, r) g).1 (stepF feet pairs (l1, r) g).2 e2 pw1 pw2 fun x hx => hn x (sub2 x hx)
    rw [show stepF feet pairs (l1, r) g = ((stepF feet pairs (l1, r) g).1, (stepF feet pairs (l1, r) g).2) from rfl, show stepL key feet pairs (l2, r) g = ((stepL key feet pairs (l2, r) g).1, (stepF feet pairs (l1, r) g).2) from by rw [e1]]
    exact this
theorem intsN_lt (m : Nat) : (intsN m).Pairwise (· < ·) := by
  unfold intsN
  rw [List.pairwise_map]
  exact List.pairwise_lt_range.imp fun h => by omega
/-- how many feet are less, how many pairs are at least s -/
def cF (feet : List Int) (s : Int) : Nat := (feet.filter fun x => decide (x < s)).length
def cP (pairs : List Int) (s : Int) : Nat := (pairs.filter fun x => decide (s ≤ x)).length
def IsMost (feet pairs : List Int) (m : Int) : Prop := (∃ s, m = (cF feet s : Int) + cP pairs s) ∧ ∀ s, m ≤ (cF feet s : Int) + cP pairs s
def IsFew (feet pairs : List Int) (m : Int) : Prop := (∃ s, m = (max (cF feet s) (cP pairs s) : Nat)) ∧ ∀ s, m ≤ (max (cF feet s) (cP pairs s) : Nat)
theorem cF_cons (f : Int) (fs : List Int) (s : Int) : cF (f :: fs) s = cF fs s + if f < s then 1 else 0 := by
  unfold cF
  rw [List.filter_cons]
  by_cases h : f < s
  · rw [if_pos (decide_eq_true h), if_pos h]; rfl
  · rw [if_neg (by simpa using h), if_neg h]; rfl
theorem cP_cons (p : Int) (ps : List Int) (s : Int) : cP (p :: ps) s = cP ps s + if s ≤ p then 1 else 0 := by
  unfold cP
  rw [List.filter_cons]
  by_cases h : s ≤ p
  · rw [if_pos (decide_eq_true h), if_pos h]; rfl
  · rw [if_neg (by simpa using h), if_neg h]; rfl
theorem cF_perm {a b : List Int} (h : a.Perm b) (s : Int) : cF a s = cF b s := (h.filter _).length_eq
theorem cP_perm {a b : List Int} (h : a.Perm b) (s : Int) : cP a s = cP b s := (h.filter _).length_eq
theorem cF_zero {l : List Int} {s : Int} (h : ∀ x ∈ l, s ≤ x) : cF l s = 0 := by
  unfold cF
  rw [List.filter_eq_nil_iff.mpr fun x hx => by have := h x hx; simp; omega]
  rfl
theorem cP_zero {l : List Int} {s : Int} (h : ∀ x ∈ l, x < s) : cP l s = 0 := by
  unfold cP
  rw [List.filter_eq_nil_iff.mpr fun x hx => by have := h x hx; simp; omega]
  rfl
theorem cF_le (l : List Int) (s : Int) : cF l s ≤ l.length := List.length_filter_le _ _
theorem cF_all {l : List Int} {s : Int} (h : ∀ x ∈ l, x < s) : cF l s = l.length := by
  unfold cF
  rw [List.filter_eq_self.mpr fun x hx => by simpa using h x hx]
/-- the largest pairs to the greatest feet that they fit: feet and pairs from the greatest on -/
def gr : List Int → List Int → Nat
  | [], _ => 0
  | f :: fs, [] => gr fs []
  | f :: fs, p :: ps => if f ≤ p then gr fs ps + 1 else gr fs (p :: ps)
theorem gr_le : ∀ (F P : List Int) (s : Int), gr F P ≤ cF F s + cP P s
  | [], _, _ => Nat.zero_le _
  | f :: fs, [], s => by
    have := gr_le fs [] s
    rw [cF_cons]
    unfold gr
    omega
  | f :: fs, p :: ps, s => by
    unfold gr
    by_cases h : f ≤ p
    · rw [if_pos h, cF_cons, cP_cons]
      have := gr_le fs ps s
      split <;> split <;> omega
    · rw [if_neg h, cF_cons]
      have := gr_le fs (p :: ps) s
      omega
theorem gr_ge (top : Int) : ∀ (F P : List Int), F.Pairwise (fun a b => b ≤ a) → P.Pairwise (fun a b => b ≤ a) → (∀ x ∈ F, x < top) → (∀ x ∈ P, x < top) → ∃ s, (s ∈ F ∨ s = top) ∧ cF F s + cP P s ≤ gr F P
  | [], P, _, _, _, hP => ⟨top, .inr rfl, by rw [cP_zero hP]; exact Nat.le_refl 0⟩
  | f :: fs, [], h1, h2, hF, hP => by
    obtain ⟨p1, p2⟩ := List.pairwise_cons.mp h1
    obtain ⟨s, hs, hle⟩ := gr_ge top fs [] p2 h2 (fun x hx => hF x (by simp [hx])) hP
    unfold gr
    rcases hs with hs | rfl
    · refine ⟨s, .inl (by simp [hs]), ?_⟩
      have := p1 s hs
      rw [cF_cons, if_neg (by omega)]
      exact hle
    · rw [cF_all fun x hx => hF x (by simp [hx])] at hle
      have h0 : gr fs [] ≤ 0 := by
        cases fs with
        | nil => exact Nat.le_refl 0
        | cons a l =>
          have := gr_le (a :: l) [] (((a :: l).getLast (by simp)))
          have q : cF (a :: l) ((a :: l).getLast (by simp)) = 0 := cF_zero fun x hx => by
            have hl : (a :: l) = (a :: l).dropLast ++ [(a :: l).getLast (by simp)] := (List.dropLast_concat_getLast (by simp)).symm
            rw [hl] at hx p2
            rcases List.mem_append.mp hx with z | z
            · exact (List.pairwise_append.mp p2).2.2 x z _ (by simp)
            · rw [List.mem_singleton.mp z]; simp
          rw [q] at this
          exact this
      have hl : fs.length = 0 := by omega
      have : fs = [] := List.eq_nil_of_length_eq_zero hl
      subst this
      exact ⟨f, .inl (by simp), by rw [cF_cons, if_neg (by omega)]; exact Nat.zero_le _⟩
  | f :: fs, p :: ps, h1, h2, hF, hP => by
    obtain ⟨p1, p2⟩ := List.pairwise_cons.mp h1
    obtain ⟨q1, q2⟩ := List.pairwise_cons.mp h2
    have hF' : ∀ x ∈ fs, x < top := fun x hx => hF x (by simp [hx])
    have hf := hF f (by simp)
    have hp := hP p (by simp)
    unfold gr
    by_cases h : f ≤ p
    · rw [if_pos h]
      obtain ⟨s, hs, hle⟩ := gr_ge top fs ps p2 q2 hF' fun x hx => hP x (by simp [hx])
      rcases hs with hs | rfl
      · refine ⟨s, .inl (by simp [hs]), ?_⟩
        have := p1 s hs
        rw [cF_cons, cP_cons, if_neg (by omega)]
        split <;> omega
      · refine ⟨s, .inr rfl, ?_⟩
        rw [cF_cons, cP_cons, if_neg (show ¬ s ≤ p by omega)]
        split <;> omega
    · rw [if_neg h]
      obtain ⟨s, hs, hle⟩ := gr_ge top fs (p :: ps) p2 h2 hF' hP
      rcases hs with hs | rfl
      · refine ⟨s, .inl (by simp [hs]), ?_⟩
        have := p1 s hs
        rw [cF_cons, if_neg (by omega)]
        omega
      · refine ⟨f, .inl (by simp), ?_⟩
        rw [cF_all hF'] at hle
        rw [cF_cons, if_neg (by omega), cP_zero fun x hx => by
          rcases List.mem_cons.mp hx with rfl | hx
          · omega
          · have := q1 x hx; omega]
        have := cF_le fs f
        omega
theorem most_of_gr {feet pairs F P : List Int} {top : Int} (hF : F.Perm feet) (hP : P.Perm pairs) (h1 : F.Pairwise fun a b => b ≤ a) (h2 : P.Pairwise fun a b => b ≤ a) (t1 : ∀ x ∈ feet, x < top) (t2 : ∀ x ∈ pairs, x < top) :
    IsMost feet pairs (gr F P : Nat) ∧ ∃ s, (s ∈ feet ∨ s = top) ∧ ((gr F P : Nat) : Int) = (cF feet s : Int) + cP pairs s := by
  obtain ⟨s, hs, hle⟩ := gr_ge top F P h1 h2 (fun x hx => t1 x (hF.mem_iff.mp hx)) fun x hx => t2 x (hP.mem_iff.mp hx)
  have hge := gr_le F P s
  rw [cF_perm hF, cP_perm hP] at hle hge
  refine ⟨⟨⟨s, by omega⟩, fun s' => ?_⟩, s, hs.imp (fun h => hF.mem_iff.mp h) id, by omega⟩
  have := gr_le F P s'
  rw [cF_perm hF, cP_perm hP] at this
  omega
theorem atI_get {xs : List Int} {j : Int} (h0 : 0 ≤ j) (h1 : j < xs.length) : atI (xs.map PyData.int) j = some (.int (getI xs j)) := by
  have hj : j.toNat < xs.length := by omega
  unfold atI ixN getI
  rw [if_pos h0, if_pos (by rw [List.length_map]; exact h1)]
  simp [hj]
theorem sh_ints (ns : List Int) : Sh (.list (ns.map .int)) :=
  Bool.and_eq_true_iff.mpr ⟨by simp only [PyData.canLay0]; exact canAll fun d hd => by obtain ⟨_, _, rfl⟩ := List.mem_map.mp hd; rfl, decide_eq_true (by
    simp only [PyData.depth]
    exact Nat.le_trans (Nat.succ_le_succ (depthAll_le (k := 0) fun d hd => by obtain ⟨_, _, rfl⟩ := List.mem_map.mp hd; exact Nat.le_refl _)) (by decide))⟩
def ins (a : Int) : List Int → List Int
  | [] => [a]
  | b :: l => if a ≤ b then a :: b :: l else b :: ins a l
theorem ins_perm (a : Int) : ∀ l, (ins a l).Perm (a :: l)
  | [] => List.Perm.refl _
  | b :: l => by
    unfold ins
    split
    · exact List.Perm.refl _
    · exact ((ins_perm a l).cons b).trans (List.Perm.swap _ _ _)
theorem ins_sorted (a : Int) : ∀ l : List Int, l.Pairwise (· ≤ ·) → (ins a l).Pairwise (· ≤ ·)
  | [], _ => List.pairwise_singleton _ _
  | b :: l, h => by
    obtain ⟨h1, h2⟩ := List.pairwise_cons.mp h
    unfold ins
    split
    · rename_i hab
      exact List.pairwise_cons.mpr ⟨fun x hx => by
        rcases List.mem_cons.mp hx with rfl | hx
        · exact hab
        · exact Int.le_trans hab (h1 x hx), h⟩
    · exact List.pairwise_cons.mpr ⟨fun x hx => by
        rcases List.mem_cons.mp ((ins_perm a l).mem_iff.mp hx) with rfl | hx
        · omega
        · exact h1 x hx, ins_sorted a l h2⟩
theorem exists_sorted : ∀ l : List Int, ∃ F : List Int, F.Perm l ∧ F.Pairwise (· ≤ ·)
  | [] => ⟨[], List.Perm.refl _, List.Pairwise.nil⟩
  | a :: l => by
    obtain ⟨F, h1, h2⟩ := exists_sorted l
    exact ⟨ins a F, (ins_perm a F).trans (h1.cons a), ins_sorted a F h2⟩
theorem rev_desc {F : List Int} (h : F.Pairwise (· ≤ ·)) : F.reverse.Pairwise fun a b => b ≤ a := List.pairwise_reverse.mpr h
/-- where the least number of both is attained -/
theorem most_at {feet pairs : List Int} {top : Int} (t1 : ∀ x ∈ feet, x < top) (t2 : ∀ x ∈ pairs, x < top) : ∃ s, (s ∈ feet ∨ s = top) ∧ ∀ s', (cF feet s : Int) + cP pairs s ≤ (cF feet s' : Int) + cP pairs s' := by
  obtain ⟨F, f1, f2⟩ := exists_sorted feet
  obtain ⟨Q, p1, p2⟩ := exists_sorted pairs
  obtain ⟨h, s, hs, e⟩ := most_of_gr ((List.reverse_perm F).trans f1) ((List.reverse_perm Q).trans p1) (rev_desc f2) (rev_desc p2) t1 t2
  exact ⟨s, hs, fun s' => by rw [← e]; exact h.2 s'⟩
structure HallOk (feet pairs : List Int) : Prop where
  f1 : 1 ≤ feet.length
  f2 : feet.length ≤ 40
  p2 : pairs.length ≤ 40
  fi : In1 (10 ^ 6) feet
  pi : In1 (10 ^ 6) pairs
abbrev InR (m : Nat) (l : List Int) : Prop := ∀ j ∈ l, 0 ≤ j ∧ j < (m : Int)
theorem eqv_int (a b : Int) : PyData.eqv (.int a) (.int b) = decide (a = b) := by rfl
theorem enum_ints (xs : List Int) : enumD (xs.map .int) = (intsN xs.length).map fun j => .tuple [.int j, .int (getI xs j)] := by
  apply List.ext_getElem?
  intro i
  unfold enumD intsN getI
  simp only [List.getElem?_map, List.getElem?_zipIdx, List.map_map]
  by_cases h : i < xs.length
  · simp [h]
  · simp [h]
theorem atI0 (j : Int) (js : List Int) : atI ((j :: js).map PyData.int) 0 = some (.int j) := by
  unfold atI ixN
  rw [if_pos (Int.le_refl 0), if_pos (by rw [List.length_map, List.length_cons]; omega)]
  rfl
/-- a run, as pairs of numbers -/
structure RunOk (f p : Nat) (run : List (Int × Int)) : Prop where
  g : (run.map (·.1)).Perm (intsN f)
  s : ∀ q ∈ run, -1 ≤ q.2 ∧ (q.2 < (p : Int) ∨ q.2 = -1)
theorem intsN_len (m : Nat) : (intsN m).length = m := by simp [intsN]
theorem RunOk.len {f p : Nat} {run : List (Int × Int)} (h : RunOk f p run) : run.length = f := by
  have := h.g.length_eq
  rwa [List.length_map, intsN_len] at this
theorem RunOk.nd {f p : Nat} {run : List (Int × Int)} (h : RunOk f p run) : (run.map (·.1)).Nodup := h.g.nodup_iff.mpr ((intsN_lt f).imp fun h => Int.ne_of_lt h)
theorem RunOk.fst {f p : Nat} {run : List (Int × Int)} (h : RunOk f p run) {q : Int × Int} (hq : q ∈ run) : 0 ≤ q.1 ∧ q.1 < (f : Int) := mem_intsN (h.g.mem_iff.mp (List.mem_map_of_mem hq))
def shodL (f : Nat) (run : List (Int × Int)) : List Int := (intsN f).filter fun g => run.any fun q => decide (q.1 = g ∧ q.2 ≠ -1)
def leftL (p : Nat) (run : List (Int × Int)) : List Int := (intsN p).filter fun j => !(run.any fun q => decide (q.2 = j))
theorem sorted_uniq : ∀ {l m : List Int}, l.Perm m → l.Pairwise (· ≤ ·) → m.Pairwise (· ≤ ·) → l = m
  | [], m, hp, _, _ => hp.nil_eq
  | a :: l, [], hp, _, _ => hp.eq_nil
  | a :: l, b :: m, hp, h1, h2 => by
    obtain ⟨p1, p2⟩ := List.pairwise_cons.mp h1
    obtain ⟨q1, q2⟩ := List.pairwise_cons.mp h2
    have e : a = b := by
      have ha : a ∈ b :: m := hp.mem_iff.mp (by simp)
      have hb : b ∈ a :: l := hp.mem_iff.mpr (by simp)
      rcases List.mem_cons.mp ha with h | h
      · exact h
      · rcases List.mem_cons.mp hb with h' | h'
        · exact h'.symm
        · exact Int.le_antisymm (p1 b h') (q1 a h)
    subst e
    rw [sorted_uniq hp.cons_inv p2 q2]
theorem shod_uniq {f p : Nat} {run : List (Int × Int)} (h : RunOk f p run) {ns : List Int} (hp : ns.Perm ((run.filter fun q => decide (q.2 ≠ -1)).map (·.1))) (hs : ns.Pairwise (· ≤ ·)) : ns = shodL f run := by
  have nd2 : ((run.filter fun q => decide (q.2 ≠ -1)).map (·.1)).Nodup := h.nd.sublist ((List.filter_sublist).map _)
  have srt : (shodL f run).Pairwise (· < ·) := (intsN_lt f).filter _
  refine sorted_uniq (hp.trans ?_) hs (srt.imp fun h => Int.le_of_lt h)
  refine (List.perm_ext_iff_of_nodup nd2 (srt.imp fun h => Int.ne_of_lt h)).mpr fun g => ?_
  unfold shodL
  rw [List.mem_filter, List.mem_map, List.any_eq_true]
  constructor
  · rintro ⟨q, hq, rfl⟩
    obtain ⟨q1, q2⟩ := List.mem_filter.mp hq
    exact ⟨h.g.mem_iff.mp (List.mem_map_of_mem q1), q, q1, decide_eq_true ⟨rfl, of_decide_eq_true q2⟩⟩
  · rintro ⟨_, q, q1, q2⟩
    obtain ⟨rfl, q3⟩ := of_decide_eq_true q2
    exact ⟨q, List.mem_filter.mpr ⟨q1, decide_eq_true q3⟩, rfl⟩
theorem rng_ints (m : Nat) : rngD 0 ((m : Nat) : Int).toNat = (intsN m).map PyData.int := by
  unfold rngD intsN
  rw [List.map_map, Int.toNat_natCast]
  exact List.map_congr_left fun k _ => by show PyData.int (0 + (k : Int)) = PyData.int k; rw [Int.zero_add]
theorem any_eqv (l : List Int) (x : Int) : ((l.map PyData.int).any fun z => PyData.eqv z (.int x)) = l.any fun y => decide (y = x) := by
  rw [List.any_map]
  rfl
theorem getI_mem {xs : List Int} {j : Int} (h0 : 0 ≤ j) (h1 : j < xs.length) : getI xs j ∈ xs := by
  have hj : j.toNat < xs.length := by omega
  unfold getI
  rw [List.getElem?_eq_getElem hj]
  exact List.getElem_mem hj
theorem sh_int (i : Int) : Sh (.int i) := rfl
/-- a pair fits a guest -/
def fitG (feet pairs : List Int) (g j : Int) : Bool := decide (getI feet g ≤ getI pairs j)
/-- how the guests go: each takes a pair that fits, that the rule likes, or there is none -/
def Gs (rl : Int → Int → Prop) (feet pairs : List Int) : List Int → List (Int × Int) → Prop
  | _, [] => True
  | left, q :: r => ((∀ j ∈ left, fitG feet pairs q.1 j = false) ∧ q.2 = -1 ∧ Gs rl feet pairs left r) ∨
      (q.2 ∈ left ∧ fitG feet pairs q.1 q.2 = true ∧ (∀ i ∈ left, fitG feet pairs q.1 i = true → rl q.2 i) ∧ Gs rl feet pairs (left.erase q.2) r)
def srv (run : List (Int × Int)) : Nat := (run.filter fun q => decide (q.2 ≠ -1)).length
theorem Gs.mono {rl rl' : Int → Int → Prop} {feet pairs : List Int} (h : ∀ a b, rl a b → rl' a b) : ∀ {run : List (Int × Int)} {left : List Int}, Gs rl feet pairs left run → Gs rl' feet pairs left run
  | [], _, _ => trivial
  | q :: r, left, g => by
    rcases g with ⟨a, b, c⟩ | ⟨a, b, c, d⟩
    · exact .inl ⟨a, b, c.mono h⟩
    · exact .inr ⟨a, b, fun i hi hf => h _ _ (c i hi hf), d.mono h⟩
theorem Gs.perm {rl : Int → Int → Prop} {feet pairs : List Int} : ∀ {run : List (Int × Int)} {left left' : List Int}, left.Perm left' → Gs rl feet pairs left run → Gs rl feet pairs left' run
  | [], _, _, _, _ => trivial
  | q :: r, left, left', hp, g => by
    rcases g with ⟨a, b, c⟩ | ⟨a, b, c, d⟩
    · exact .inl ⟨fun j hj => a j (hp.mem_iff.mpr hj), b, c.perm hp⟩
    · exact .inr ⟨hp.mem_iff.mp a, b, fun i hi => c i (hp.mem_iff.mpr hi), d.perm (hp.erase _)⟩
/-- the guests one after another, by a list of liking -/
def byL (feet pairs : List Int) : List Int → List Int → List (Int × Int)
  | _, [] => []
  | left, g :: order =>
    match left.filter fun j => decide (getI feet g ≤ getI pairs j) with
    | [] => (g, -1) :: byL feet pairs left order
    | j :: _ => (g, j) :: byL feet pairs (left.erase j) order
theorem byL_nil {feet pairs left : List Int} {g : Int} {order : List Int} (e : (left.filter fun j => decide (getI feet g ≤ getI pairs j)) = []) : byL feet pairs left (g :: order) = (g, -1) :: byL feet pairs left order := by
  rw [byL]; simp only [e]
theorem byL_cons {feet pairs left : List Int} {g j : Int} {js order : List Int} (e : (left.filter fun j => decide (getI feet g ≤ getI pairs j)) = j :: js) : byL feet pairs left (g :: order) = (g, j) :: byL feet pairs (left.erase j) order := by
  rw [byL]; simp only [e]
theorem byL_fold (feet pairs : List Int) : ∀ (order left : List Int) (r : List (Int × Int)), (order.foldl (stepF feet pairs) (left, r)).2 = r ++ byL feet pairs left order
  | [], _, r => by simp [byL]
  | g :: order, left, r => by
    rw [List.foldl_cons]
    cases e : left.filter fun j => decide (getI feet g ≤ getI pairs j) with
    | nil =>
      rw [show stepF feet pairs (left, r) g = (left, r ++ [(g, -1)]) by unfold stepF; simp only [e], byL_fold feet pairs order, byL_nil e, List.append_assoc]
      rfl
    | cons j js =>
      rw [show stepF feet pairs (left, r) g = (left.erase j, r ++ [(g, j)]) by unfold stepF; simp only [e], byL_fold feet pairs order, byL_cons e, List.append_assoc]
      rfl
theorem byL_fst (feet pairs : List Int) : ∀ (order left : List Int), (byL feet pairs left order).map (·.1) = order
  | [], _ => rfl
  | g :: order, left => by
    unfold byL
    split
    · rw [List.map_cons, byL_fst feet pairs order]
    · rw [List.map_cons, byL_fst feet pairs order]
theorem byL_gs {rl : Int → Int → Prop} (hr : ∀ a, rl a a) (feet pairs : List Int) : ∀ (order left : List Int), left.Pairwise rl → Gs rl feet pairs left (byL feet pairs left order)
  | [], _, _ => trivial
  | g :: order, left, hp => by
    unfold byL
    split
    · rename_i e
      refine .inl ⟨fun j hj => ?_, rfl, byL_gs hr feet pairs order left hp⟩
      have := List.filter_eq_nil_iff.mp e j hj
      exact Bool.eq_false_iff.mpr this
    · rename_i j js e
      have hj : j ∈ left.filter fun j => decide (getI feet g ≤ getI pairs j) := by rw [e]; simp
      obtain ⟨h1, h2⟩ := List.mem_filter.mp hj
      refine .inr ⟨h1, h2, fun i hi hf => ?_, byL_gs hr feet pairs order (left.erase j) (hp.sublist List.erase_sublist)⟩
      have hi : i ∈ left.filter fun j => decide (getI feet g ≤ getI pairs j) := List.mem_filter.mpr ⟨hi, hf⟩
      have hps := hp.filter fun j => decide (getI feet g ≤ getI pairs j)
      rw [e] at hi hps
      rcases List.mem_cons.mp hi with rfl | hi
      · exact hr _
      · exact (List.pairwise_cons.mp hps).1 i hi
/-- a run of the hall -/
structure RunV (rl : Int → Int → Prop) (feet pairs : List Int) (run : List (Int × Int)) : Prop where
  g : (run.map (·.1)).Perm (intsN feet.length)
  s : Gs rl feet pairs (intsN pairs.length) run
abbrev anyR : Int → Int → Prop := fun _ _ => True
theorem RunV.any {rl : Int → Int → Prop} {feet pairs : List Int} {run : List (Int × Int)} (h : RunV rl feet pairs run) : RunV anyR feet pairs run := ⟨h.g, h.s.mono fun _ _ _ => trivial⟩
instance (key : Int → Int) (a b : Int) : Decidable (Lx key a b) := inferInstanceAs (Decidable (_ ∨ _))
def likeO (key : Int → Int) (m : Nat) : List Int := (intsN m).mergeSort fun a b => decide (Lx key a b)
theorem likeO_perm (key : Int → Int) (m : Nat) : (likeO key m).Perm (intsN m) := List.mergeSort_perm _ _
theorem likeO_sorted (key : Int → Int) (m : Nat) : (likeO key m).Pairwise (Lx key) := by
  refine (List.pairwise_mergeSort (fun a b c h1 h2 => ?_) (fun a b => ?_) (intsN m)).imp fun h => of_decide_eq_true h
  · have h1 := of_decide_eq_true h1
    have h2 := of_decide_eq_true h2
    refine decide_eq_true ?_
    unfold Lx at *
    omega
  · rw [Bool.or_eq_true, decide_eq_true_eq, decide_eq_true_eq]
    unfold Lx
    omega
theorem ruled_byL (key : Int → Int) (feet pairs order : List Int) : ruled key feet pairs order = byL feet pairs (likeO key pairs.length) order := by
  unfold ruled
  rw [← run_same key feet pairs order (likeO key pairs.length) (intsN pairs.length) [] (likeO_perm _ _) (likeO_sorted _ _) (intsN_lt _) fun x hx => (mem_intsN hx).1, byL_fold]
  rfl
theorem ruled_runV (key : Int → Int) (feet pairs : List Int) {order : List Int} (h : order.Perm (intsN feet.length)) : RunV (Lx key) feet pairs (ruled key feet pairs order) := by
  rw [ruled_byL]
  exact ⟨by rw [byL_fst]; exact h, (byL_gs (fun a => .inr ⟨rfl, Int.le_refl a⟩) feet pairs order _ (likeO_sorted _ _)).perm (likeO_perm _ _)⟩
theorem ruled_small (feet pairs : List Int) {order : List Int} (h : order.Perm (intsN feet.length)) : RunV (fun a b => getI pairs a ≤ getI pairs b) feet pairs (ruled (getI pairs) feet pairs order) :=
  let r := ruled_runV (getI pairs) feet pairs h
  ⟨r.g, r.s.mono fun a b h => by unfold Lx at h; omega⟩
theorem RunV.len {rl : Int → Int → Prop} {feet pairs : List Int} {run : List (Int × Int)} (h : RunV rl feet pairs run) : run.length = feet.length := by
  have := h.g.length_eq
  rwa [List.length_map, intsN_len] at this
theorem RunV.nd {rl : Int → Int → Prop} {feet pairs : List Int} {run : List (Int × Int)} (h : RunV rl feet pairs run) : (run.map (·.1)).Nodup := h.g.nodup_iff.mpr ((intsN_lt _).imp fun h => Int.ne_of_lt h)
theorem RunV.fst {rl : Int → Int → Prop} {feet pairs : List Int} {run : List (Int × Int)} (h : RunV rl feet pairs run) {q : Int × Int} (hq : q ∈ run) : 0 ≤ q.1 ∧ q.1 < (feet.length : Int) := mem_intsN (h.g.mem_iff.mp (List.mem_map_of_mem hq))
theorem gs_snd {rl : Int → Int → Prop} {feet pairs : List Int} : ∀ {run : List (Int × Int)} {left : List Int}, Gs rl feet pairs left run → ∀ q ∈ run, q.2 = -1 ∨ q.2 ∈ left
  | [], _, _, _, h => nomatch h
  | p :: r, left, g, q, hq => by
    rcases List.mem_cons.mp hq with rfl | hq
    · rcases g with ⟨_, b, _⟩ | ⟨a, _⟩
      · exact .inl b
      · exact .inr a
    · rcases g with ⟨_, _, c⟩ | ⟨_, _, _, d⟩
      · exact gs_snd c q hq
      · exact (gs_snd d q hq).imp id List.mem_of_mem_erase
theorem RunV.snd {rl : Int → Int → Prop} {feet pairs : List Int} {run : List (Int × Int)} (h : RunV rl feet pairs run) {q : Int × Int} (hq : q ∈ run) : -1 ≤ q.2 ∧ (q.2 < (pairs.length : Int) ∨ q.2 = -1) := by
  rcases gs_snd h.s q hq with e | e
  · exact ⟨by omega, .inr e⟩
  · have := mem_intsN e; exact ⟨by omega, .inl this.2⟩
def leftT (m : Nat) (taken : List Int) : List Int := (intsN m).filter fun j => decide (j ∉ taken)
theorem leftT_nil (m : Nat) : leftT m [] = intsN m := List.filter_eq_self.mpr fun x _ => by simp
theorem leftT_lt (m : Nat) (taken : List Int) : (leftT m taken).Pairwise (· < ·) := (intsN_lt m).filter _
theorem leftT_erase (m : Nat) (taken : List Int) (j : Int) : (leftT m taken).erase j = leftT m (taken ++ [j]) := by
  rw [erase_filter ((leftT_lt m taken).imp fun h => Int.ne_of_lt h)]
  unfold leftT
  rw [List.filter_filter]
  refine List.filter_congr fun x _ => ?_
  by_cases h : x = j <;> by_cases h2 : x ∈ taken <;> simp [h, h2]
theorem ifN {b : Bool} {A B : Prop} (hb : b = true) (h : B) : if (!b) = true then A else B := by subst hb; exact h
theorem ifF {b : Bool} {A B : Prop} (hb : b = false) (h : B) : if b = true then A else B := by subst hb; exact iteF h
theorem ifT {b : Bool} {A B : Prop} (hb : b = true) (h : A) : if b = true then A else B := by subst hb; exact iteT h
theorem ifNF {b : Bool} {A B : Prop} (hb : b = false) (h : A) : if (!b) = true then A else B := by subst hb; exact h
theorem iteD {c A B : Prop} [Decidable c] (hc : c) (h : A) : if decide c = true then A else B := by rw [if_pos (decide_eq_true hc)]; exact h
theorem iteDF {c A B : Prop} [Decidable c] (hc : ¬ c) (h : B) : if decide c = true then A else B := by rw [if_neg (fun q => hc (of_decide_eq_true q))]; exact h
theorem isi_tt (ds : List PyData) : isiB (tyD (.tuple ds)) "tuple" = true := show isiB "tuple" "tuple" = true by decide +kernel
theorem isi_ii (i : Int) : isiB (tyD (.int i)) "int" = true := show isiB "int" "int" = true by decide +kernel
theorem isi_ib (i : Int) : isiB (tyD (.int i)) "bool" = false := show isiB "int" "bool" = false by decide +kernel
theorem isi_ss (i : Str) : isiB (tyD (.str i)) "str" = true := show isiB "str" "str" = true by decide +kernel
theorem isi_bb (i : Bool) : isiB (tyD (.bool i)) "bool" = true := show isiB "bool" "bool" = true by decide +kernel
theorem isi_bi (i : Bool) : isiB (tyD (.bool i)) "int" = true := show isiB "bool" "int" = true by decide +kernel
theorem neI {a b : Int} {A B : Prop} (e : a = b) (h : B) : if (!PyData.eqv (.int a) (.int b)) = true then A else B := ifN (by rw [eqv_int]; exact decide_eq_true e) h
def runD (run : List (Int × Int)) : PyData := .tuple (run.map prD)
def smallR (feet pairs : List Int) : List (Int × Int) := ruled (getI pairs) feet pairs (intsN feet.length)
theorem small_v (feet pairs : List Int) : RunV (fun a b => getI pairs a ≤ getI pairs b) feet pairs (smallR feet pairs) := ruled_small feet pairs (List.Perm.refl _)
theorem asB_T {c : Bool} {R : Bool → Prop} (hc : c = true) (h : R true) : asB (.dat (.bool c)) R := by subst hc; exact h
theorem asB_F {c : Bool} {R : Bool → Prop} (hc : c = false) (h : R false) : asB (.dat (.bool c)) R := by subst hc; exact h
def srt (P : List Int) : List Int := P.mergeSort fun a b => decide (a ≤ b)
theorem srt_perm (P : List Int) : (srt P).Perm P := List.mergeSort_perm _ _
theorem le_tot (a b : Int) : (decide (a ≤ b) || decide (b ≤ a)) = true := by
  rw [Bool.or_eq_true, decide_eq_true_eq, decide_eq_true_eq]
  exact Int.le_total a b
theorem srt_sorted (P : List Int) : (srt P).Pairwise (· ≤ ·) :=
  (List.pairwise_mergeSort (le := fun a b : Int => decide (a ≤ b)) (fun a b c h1 h2 => decide_eq_true (Int.le_trans (of_decide_eq_true h1) (of_decide_eq_true h2))) le_tot P).imp fun h => of_decide_eq_true h
theorem neB {a b : Bool} {A B : Prop} (e : a = b) (h : B) : if (!PyData.eqv (.bool a) (.bool b)) = true then A else B := by
  subst e
  cases a <;> exact iteF h
theorem eqv_nilT (ds : List PyData) : PyData.eqv (.tuple ds) (.tuple []) = ds.isEmpty := by
  cases ds <;> rfl
theorem sh_tints (ns : List Int) : Sh (.tuple (ns.map .int)) :=
  Bool.and_eq_true_iff.mpr ⟨by simp only [PyData.canLay0]; exact canAll fun d hd => by obtain ⟨_, _, rfl⟩ := List.mem_map.mp hd; rfl, decide_eq_true (by
    simp only [PyData.depth]
    exact Nat.le_trans (Nat.succ_le_succ (depthAll_le (k := 0) fun d hd => by obtain ⟨_, _, rfl⟩ := List.mem_map.mp hd; exact Nat.le_refl _)) (by decide))⟩
def tkn (a : List (Int × Int)) : List Int := (a.filter fun q => decide (q.2 ≠ -1)).map (·.2)
theorem tkn_mem {a : List (Int × Int)} {j : Int} : j ∈ tkn a ↔ ∃ p ∈ a, p.2 ≠ -1 ∧ p.2 = j := by
  unfold tkn
  rw [List.mem_map]
  constructor
  · rintro ⟨p, hp, rfl⟩
    obtain ⟨h1, h2⟩ := List.mem_filter.mp hp
    exact ⟨p, h1, of_decide_eq_true h2, rfl⟩
  · rintro ⟨p, hp, h, rfl⟩
    exact ⟨p, List.mem_filter.mpr ⟨hp, decide_eq_true h⟩, rfl⟩
def leaves (run : List (Int × Int)) (p : Int) : Bool := decide (p ∉ run.map (·.2))
theorem gs_end {rl : Int → Int → Prop} {feet pairs : List Int} : ∀ {a : List (Int × Int)} {left : List Int}, left.Nodup → (∀ j ∈ left, 0 ≤ j) → Gs rl feet pairs left a →
    (tkn a).Nodup ∧ (∀ j ∈ tkn a, j ∈ left) ∧ (∀ p ∈ a, p.2 ≠ -1 → fitG feet pairs p.1 p.2 = true) ∧ (∀ p ∈ a, ∀ i ∈ left, i ∉ tkn a → fitG feet pairs p.1 i = true → p.2 ≠ -1)
  | [], left, nd, h0, h => ⟨List.nodup_nil, fun _ h => (nomatch h), fun _ h => (nomatch h), fun _ h => (nomatch h)⟩
  | p :: a, left, nd, h0, h => by
    rcases h with ⟨x, y, z⟩ | ⟨x, y, u, z⟩
    · obtain ⟨m2, m3, m5, m6⟩ := gs_end nd h0 z
      have e : tkn (p :: a) = tkn a := by unfold tkn; rw [List.filter_cons, if_neg (by simp [y])]
      refine ⟨by rw [e]; exact m2, by rw [e]; exact m3, fun r hr => ?_, fun r hr i hi hn hf => ?_⟩
      · rcases List.mem_cons.mp hr with rfl | hr
        · exact fun q => absurd y q
        · exact m5 r hr
      · rcases List.mem_cons.mp hr with rfl | hr
        · have := x i hi
          rw [this] at hf; exact absurd hf Bool.false_ne_true
        · exact m6 r hr i hi (by rw [e] at hn; exact hn) hf
    · have hp0 := h0 p.2 x
      have hne : p.2 ≠ -1 := by omega
      obtain ⟨m2, m3, m5, m6⟩ := gs_end (nd.sublist List.erase_sublist) (fun j hj => h0 j (List.mem_of_mem_erase hj)) z
      have e : tkn (p :: a) = p.2 :: tkn a := by unfold tkn; rw [List.filter_cons, if_pos (by simpa using hne)]; rfl
      refine ⟨?_, fun j hj => ?_, fun r hr => ?_, fun r hr i hi hn hf => ?_⟩
      · rw [e, List.nodup_cons]
        exact ⟨fun q => (nd.mem_erase_iff.mp (m3 _ q)).1 rfl, m2⟩
      · rw [e] at hj
        rcases List.mem_cons.mp hj with rfl | hj
        · exact x
        · exact List.mem_of_mem_erase (m3 j hj)
      · rcases List.mem_cons.mp hr with rfl | hr
        · exact fun _ => y
        · exact m5 r hr
      · rcases List.mem_cons.mp hr with rfl | hr
        · exact hne
        · rw [e, List.mem_cons] at hn
          exact m6 r hr i (nd.mem_erase_iff.mpr ⟨fun q => hn (.inl q), hi⟩) (fun q => hn (.inr q)) hf
theorem leftL_mem {m : Nat} {run : List (Int × Int)} {p : Int} (hp : p ∈ intsN m) : p ∈ leftL m run ↔ leaves run p = true := by
  unfold leftL leaves
  rw [List.mem_filter, decide_eq_true_eq]
  constructor
  · rintro ⟨_, h⟩ hm
    obtain ⟨q, hq, e⟩ := List.mem_map.mp hm
    have : (run.any fun q => decide (q.2 = p)) = true := List.any_eq_true.mpr ⟨q, hq, decide_eq_true e⟩
    rw [this] at h; cases h
  · intro h
    refine ⟨hp, ?_⟩
    have : (run.any fun q => decide (q.2 = p)) = false := List.any_eq_false.mpr fun q hq e => h (List.mem_map.mpr ⟨q, hq, of_decide_eq_true e⟩)
    rw [this]; rfl
def exZ (z : Int) : Int := 1000001 - z
def exI (xs : List Int) : List Int := xs.map exZ
theorem exI_len (xs : List Int) : (exI xs).length = xs.length := List.length_map ..
theorem getI_ex {xs : List Int} {j : Int} (h0 : 0 ≤ j) (h1 : j < xs.length) : getI (exI xs) j = exZ (getI xs j) := by
  unfold getI exI
  rw [List.getElem?_map, List.getElem?_eq_getElem (show j.toNat < xs.length by omega)]
  rfl
def turnR (m : Nat) (run : List (Int × Int)) : List (Int × Int) := ((run.filter fun q => decide (0 ≤ q.2)).map fun q => (q.2, q.1)) ++ (leftL m run).map fun p => (p, -1)
theorem gs_served {feet pairs : List Int} {m : Nat} {rest : List (Int × Int)} : ∀ (l : List (Int × Int)) (T : List Int), (∀ q ∈ l, fitG feet pairs q.1 q.2 = true) → (l.map (·.2)).Nodup → (∀ q ∈ l, q.2 ∈ leftT m T) → Gs anyR feet pairs (leftT m (T ++ l.map (·.2))) rest → Gs anyR feet pairs (leftT m T) (l ++ rest)
  | [], T, _, _, _, h => by rwa [List.map_nil, List.append_nil] at h
  | q :: l, T, h1, h2, h3, h => by
    rw [List.map_cons, List.nodup_cons] at h2
    refine .inr ⟨h3 q (by simp), h1 q (by simp), fun _ _ _ => trivial, ?_⟩
    rw [leftT_erase]
    refine gs_served l (T ++ [q.2]) (fun p hp => h1 p (List.mem_cons_of_mem _ hp)) h2.2 (fun p hp => ?_) (by rw [List.append_assoc]; exact h)
    rw [← leftT_erase]
    exact (List.Nodup.mem_erase_iff ((leftT_lt m T).imp fun h => Int.ne_of_lt h)).mpr ⟨fun e => h2.1 (e ▸ List.mem_map_of_mem hp), h3 p (List.mem_cons_of_mem _ hp)⟩
theorem gs_none {feet pairs : List Int} : ∀ (l : List (Int × Int)) (left : List Int), (∀ q ∈ l, q.2 = -1 ∧ ∀ j ∈ left, fitG feet pairs q.1 j = false) → Gs anyR feet pairs left l
  | [], _, _ => trivial
  | q :: l, left, h => .inl ⟨(h q (by simp)).2, (h q (by simp)).1, gs_none l left fun p hp => h p (List.mem_cons_of_mem _ hp)⟩
theorem tkn_nn {feet pairs : List Int} {run : List (Int × Int)} (h : RunV anyR feet pairs run) : (run.filter fun q => decide (0 ≤ q.2)) = run.filter fun q => decide (q.2 ≠ -1) := by
  refine List.filter_congr fun q hq => decide_eq_decide.mpr ?_
  have := h.snd hq
  omega
theorem fit_ex {F P : List Int} {g j : Int} (g0 : 0 ≤ g) (g1 : g < F.length) (j0 : 0 ≤ j) (j1 : j < P.length) : fitG (exI P) (exI F) j g = fitG F P g j := by
  unfold fitG
  rw [getI_ex g0 g1, getI_ex j0 j1]
  refine decide_eq_decide.mpr ?_
  unfold exZ; omega
theorem turn_v {F P : List Int} {run : List (Int × Int)} (h : RunV anyR F P run) : RunV anyR (exI P) (exI F) (turnR P.length run) := by
  have ndm : ∀ m, (intsN m).Nodup := fun m => (intsN_lt m).imp fun h => Int.ne_of_lt h
  obtain ⟨m2, m3, m5, m6⟩ := gs_end (ndm _) (fun j hj => (mem_intsN hj).1) h.s
  have hs : (run.filter fun q => decide (0 ≤ q.2)).map (·.2) = tkn run := by rw [tkn_nn h]; rfl
  have hl : ∀ p, p ∈ leftL P.length run ↔ (p ∈ intsN P.length ∧ p ∉ tkn run) := fun p => by
    constructor
    · intro hp
      have h1 := (List.mem_filter.mp hp).1
      refine ⟨h1, fun ht => ?_⟩
      have := (leftL_mem h1).mp hp
      obtain ⟨q, hq, _, e⟩ := tkn_mem.mp ht
      unfold leaves at this
      exact of_decide_eq_true this (e ▸ List.mem_map_of_mem hq)
    · rintro ⟨h1, h2⟩
      refine (leftL_mem h1).mpr (decide_eq_true fun hm => ?_)
      obtain ⟨q, hq, e⟩ := List.mem_map.mp hm
      have := (mem_intsN h1).1
      exact h2 (tkn_mem.mpr ⟨q, hq, by omega, e⟩)
  have served : ∀ q ∈ run.filter (fun q => decide (0 ≤ q.2)), q ∈ run ∧ 0 ≤ q.2 := fun q hq => ⟨(List.mem_filter.mp hq).1, of_decide_eq_true (List.mem_filter.mp hq).2⟩
  constructor
  · rw [exI_len]
    unfold turnR
    rw [List.map_append, List.map_map, List.map_map]
    show ((run.filter fun q => decide (0 ≤ q.2)).map (·.2) ++ (leftL P.length run).map id).Perm _
    rw [hs, List.map_id]
    refine (List.perm_ext_iff_of_nodup ?_ (ndm _)).mpr fun p => ?_
    · rw [List.nodup_append]
      exact ⟨m2, (ndm _).filter _, fun a ha b hb e => ((hl b).mp hb).2 (e ▸ ha)⟩
    · rw [List.mem_append, hl]
      constructor
      · rintro (q | q)
        · exact m3 p q
        · exact q.1
      · intro q
        by_cases ht : p ∈ tkn run
        · exact .inl ht
        · exact .inr ⟨q, ht⟩
  · rw [exI_len, ← leftT_nil]
    unfold turnR
    refine gs_served _ [] (fun q hq => ?_) ?_ (fun q hq => ?_) ?_
    · obtain ⟨p, hp, rfl⟩ := List.mem_map.mp hq
      obtain ⟨p1, p2⟩ := served p hp
      obtain ⟨g0, g1⟩ := h.fst p1
      have := h.snd p1
      show fitG (exI P) (exI F) p.2 p.1 = true
      rw [fit_ex g0 g1 p2 (by omega)]
      exact m5 p p1 (by omega)
    · rw [List.map_map]
      show ((run.filter fun q => decide (0 ≤ q.2)).map (·.1)).Nodup
      exact h.nd.sublist (List.filter_sublist.map _)
    · obtain ⟨p, hp, rfl⟩ := List.mem_map.mp hq
      rw [leftT_nil]
      exact h.g.mem_iff.mp (List.mem_map_of_mem (served p hp).1)
    · refine gs_none _ _ fun q hq => ?_
      obtain ⟨p, hp, rfl⟩ := List.mem_map.mp hq
      refine ⟨rfl, fun g hg => ?_⟩
      obtain ⟨hp1, hp2⟩ := (hl p).mp hp
      obtain ⟨hg1, hg2⟩ := List.mem_filter.mp hg
      have hg2 := of_decide_eq_true hg2
      obtain ⟨r, hr, hrg⟩ := List.mem_map.mp (h.g.mem_iff.mpr hg1)
      have hrg : r.1 = g := hrg
      have hr2 : r.2 = -1 := by
        have := h.snd hr
        refine Classical.byContradiction fun hne => hg2 ?_
        rw [List.nil_append, List.map_map]
        exact List.mem_map.mpr ⟨r, List.mem_filter.mpr ⟨hr, decide_eq_true (by omega)⟩, hrg⟩
      show fitG (exI P) (exI F) p g = false
      obtain ⟨a, b⟩ := mem_intsN hg1
      obtain ⟨c, d⟩ := mem_intsN hp1
      rw [fit_ex a b c d]
      refine Bool.eq_false_iff.mpr fun ht => ?_
      exact m6 r hr p hp1 hp2 (hrg ▸ ht) hr2
theorem RunV.ok {rl : Int → Int → Prop} {F P : List Int} {run : List (Int × Int)} (h : RunV rl F P run) : RunOk F.length P.length run := ⟨h.g, fun _ hq => h.snd hq⟩
theorem shod_len {f p : Nat} {run : List (Int × Int)} (h : RunOk f p run) : (shodL f run).length = srv run := by
  rw [← shod_uniq h (srt_perm _) (srt_sorted _), (srt_perm _).length_eq, List.length_map]
  rfl
inductive Cv where
  | run (r : List (Int × Int))
  | tab (ws : List Str)
  | siz (z : Int)
def Cv.d : Cv → PyData
  | .run r => .tuple [.str "run", runD r]
  | .tab ws => .tuple [.str "table", .tuple (ws.map .str)]
  | .siz z => .tuple [.str "size", .int z]
def Cv.pos (feet pairs : List Int) (num : Int) : Cv → Bool
  | .run r => decide (num ≤ (srv r : Int))
  | .tab _ => false
  | .siz z => decide ((cF feet z : Int) + cP pairs z < num)
end DL
set_option maxHeartbeats 0
namespace DL
open PySem PySem.Spec PyProof.Rows L2
def chs (s : Str) : List Nat := s.cps.toList
def numT (x : Int) : Str := toString x
def joinT (xs : List Int) : Str := Txt.join "," (xs.map numT)
theorem chs_app (a b : Str) : chs (a ++ b) = chs a ++ chs b := by
  show (a.cps ++ b.cps).toList = _
  rw [Array.toList_append]; rfl
theorem str_ext {a b : Str} (h : chs a = chs b) : a = b := by
  cases a; cases b
  unfold chs at h
  congr 1
  exact Array.ext' h
theorem len_chs (s : Str) : s.length = (chs s).length := by
  unfold chs
  rw [Array.length_toList]; rfl
def tailT (xs : List Int) : List Nat := xs.flatMap fun y => 44 :: chs (numT y)
theorem glued_chs (ys : List Str) : ∀ (acc : Array Nat), (ys.foldl (fun acc p => acc ++ ("," : Str).cps ++ p.cps) acc).toList = acc.toList ++ ys.flatMap fun y => 44 :: chs y := by
  induction ys with
  | nil => intro acc; simp
  | cons y ys ih =>
    intro acc
    rw [List.foldl_cons, ih, List.flatMap_cons]
    have e : ("," : Str).cps.toList = [44] := by decide +kernel
    simp [chs, e]
theorem joinT_cons (x : Int) (xs : List Int) : chs (joinT (x :: xs)) = chs (numT x) ++ tailT xs := by
  show ((xs.map numT).foldl (fun acc p => acc ++ ("," : Str).cps ++ p.cps) (numT x).cps).toList = _
  rw [glued_chs]
  unfold tailT
  rw [List.flatMap_map]
  rfl
theorem joinT_nil : chs (joinT []) = [] := by decide +kernel
theorem num44 (x : Int) : 44 ∉ chs (numT x) := fun h => (intText_free_44 x).mp h
theorem num32 (x : Int) : 32 ∉ chs (numT x) := fun h => (intText_free_32 x).mp h
abbrev InT (xs : List Int) : Prop := ∀ x ∈ xs, 0 ≤ x ∧ x < 10 ^ 10
def pairsT (P : List Int) : Str := if P = [] then "-" else joinT P
def hallT (F P : List Int) : Str := joinT F ++ " / " ++ pairsT P
theorem one_text {x : Int} {c : Nat} (hx : 0 ≤ x ∧ x < 10 ^ 10) (hc : PySem.intText? ⟨#[c]⟩ = none) : chs (numT x) ≠ [c] := fun h => by
  have e : numT x = ⟨#[c]⟩ := str_ext h
  have h1 : PySem.intText? (numT x) = some x := PySem.W.KIN.num_reads hx.1 hx.2
  rw [e, hc] at h1
  cases h1
theorem nil_text {x : Int} (hx : 0 ≤ x ∧ x < 10 ^ 10) : chs (numT x) ≠ [] := fun h => by
  have e : numT x = ⟨#[]⟩ := str_ext h
  have h1 : PySem.intText? (numT x) = some x := PySem.W.KIN.num_reads hx.1 hx.2
  rw [e, show PySem.intText? ⟨#[]⟩ = none by decide +kernel] at h1
  cases h1
theorem dash_not {P : List Int} (h : InT P) (hne : P ≠ []) : chs (joinT P) ≠ [45] := fun e => by
  cases P with
  | nil => exact hne rfl
  | cons x xs =>
    rw [joinT_cons] at e
    have hx := h x (by simp)
    cases hc : chs (numT x) with
    | nil => exact nil_text hx hc
    | cons c r =>
      rw [hc, List.cons_append] at e
      have e1 := (List.cons.inj e).1
      have e2 := (List.append_eq_nil_iff.mp (List.cons.inj e).2).1
      subst e1 e2
      exact one_text hx (by decide +kernel) hc
theorem num_len {x : Int} (h : 0 ≤ x ∧ x ≤ 10 ^ 6) : (numT x).length ≤ 7 := PyProof.Rows.toString_length_le h.1 (by decide) (by omega)
theorem num_log {x : Int} (h : 0 ≤ x ∧ x ≤ 10 ^ 6) : x.natAbs.log2 < 1920 := by
  have h1 : x.natAbs < 2 ^ 20 := by omega
  by_cases h0 : x.natAbs = 0
  · rw [h0]; decide
  · have := (Nat.log2_lt h0).mpr h1
    omega
theorem in_t {xs : List Int} (h : In1 (10 ^ 6) xs) : InT xs := fun x hx => by have := h x hx; omega
theorem sum_len : ∀ {xs : List Int}, In1 (10 ^ 6) xs → ((xs.map numT).map (·.length)).sum ≤ xs.length * 7
  | [], _ => by simp
  | x :: xs, h => by
    have h1 := h x (by simp)
    have h2 := num_len (x := x) (by omega)
    have h3 := sum_len (xs := xs) fun y hy => h y (by simp [hy])
    rw [List.map_cons, List.map_cons, List.sum_cons, List.length_cons, Nat.succ_mul]
    omega
theorem join_len {xs : List Int} (h : In1 (10 ^ 6) xs) : (joinT xs).length ≤ xs.length * 8 := by
  rw [len_chs]
  have key : ∀ ys : List Int, In1 (10 ^ 6) ys → (tailT ys).length ≤ ys.length * 8 := by
    intro ys
    induction ys with
    | nil => intro _; simp [tailT]
    | cons y ys ih =>
      intro hy
      have h1 := hy y (by simp)
      have h2 := num_len (x := y) (by omega)
      rw [len_chs] at h2
      have h3 := ih fun z hz => hy z (by simp [hz])
      unfold tailT at h3 ⊢
      rw [List.flatMap_cons, List.length_append, List.length_cons, List.length_cons, Nat.succ_mul]
      omega
  cases xs with
  | nil => rw [joinT_nil]; simp
  | cons x xs =>
    have h1 := h x (by simp)
    have h2 := num_len (x := x) (by omega)
    rw [len_chs] at h2
    have h3 := key xs fun z hz => h z (by simp [hz])
    rw [joinT_cons, List.length_append, List.length_cons, Nat.succ_mul]
    omega
theorem join_zero {P : List Int} (h : InT P) : (joinT P).length = 0 ↔ P = [] := by
  rw [len_chs]
  constructor
  · intro e
    cases P with
    | nil => rfl
    | cons x xs =>
      rw [joinT_cons] at e
      have := (List.append_eq_nil_iff.mp (List.eq_nil_of_length_eq_zero e)).1
      exact absurd this (nil_text (h x (by simp)))
  · rintro rfl
    rw [joinT_nil]; rfl
theorem pairsT_or {P : List Int} (h : InT P) : pairsT P = if (joinT P).length = 0 then ("-" : Str) else joinT P := by
  unfold pairsT
  by_cases e : P = []
  · rw [if_pos e, if_pos ((join_zero h).mpr e)]
  · rw [if_neg e, if_neg fun q => e ((join_zero h).mp q)]
theorem fs_hall (F P : List Int) : (((((Str.empty ++ joinT F) ++ " ") ++ "/") ++ " ") ++ pairsT P : Str) = hallT F P := by
  apply str_ext
  unfold hallT
  simp only [chs_app]
  have e1 : chs (" " : Str) = [32] := by decide +kernel
  have e2 : chs ("/" : Str) = [47] := by decide +kernel
  have e3 : chs (" / " : Str) = [32, 47, 32] := by decide +kernel
  have e4 : chs Str.empty = [] := by decide +kernel
  rw [e1, e2, e3, e4]
  simp
theorem app_len (a b : Str) : (a ++ b).length = a.length + b.length := by
  rw [len_chs, len_chs, len_chs, chs_app, List.length_append]
theorem pairsT_len {P : List Int} (h : In1 (10 ^ 6) P) : (pairsT P).length ≤ P.length * 8 + 1 := by
  unfold pairsT
  split
  · rw [show ("-" : Str).length = 1 by decide +kernel]; omega
  · have := join_len h; omega
end DL
set_option maxHeartbeats 4000000
namespace DL
open PySem PySem.Spec PyProof.Rows L2
section
variable {X : Cx} {Y : Fx}
/-- s.m() of a text -/
def dM0 (g : Str → PyData) (P : Str → Prop) (t : DTE) : DTE := fun ρ n R => t ρ n fun x n1 => ∃ a : Str, x = .dat (.str a) ∧ P a ∧ R (.dat (g a)) n1
theorem we_isdigit {o : Expr} {t : DTE} {apos pos : Pos} (ho : WE Y X o t) (hbase : attributeBase o "isdigit" X.env (eval o X.env) = eval o X.env := by rfl) (hline : (apos.endLine == pos.line) = true := by rfl) :
    WE Y X (.Call (.Attribute o "isdigit" apos) [] [] pos) (dM0 (fun a => .bool (Txt.isdigit a)) (fun _ => True) t) :=
  pe_imp (pe_m0 PySem.F.slot_str_isdigit PySem.F.type_str_isdigit mt_isdigit ho hbase hline) fun σ H Q ⟨Z, F, ρ, n, R, r, ht, k⟩ => ⟨Z, F, ρ, n, _, r, ht, fun x n1 F1 H1 v ⟨a, e1, _, hx⟩ g1 s1 d1 w1 => by
    subst e1
    simp only [VR, Rp] at w1
    subst w1
    exact ⟨⟨a, rfl⟩, a, rfl, rfl, trivial, k _ _ _ _ _ hx g1 s1 d1 (by simp [VR, Rp])⟩⟩
theorem we_isascii {o : Expr} {t : DTE} {apos pos : Pos} (ho : WE Y X o t) (hbase : attributeBase o "isascii" X.env (eval o X.env) = eval o X.env := by rfl) (hline : (apos.endLine == pos.line) = true := by rfl) :
    WE Y X (.Call (.Attribute o "isascii" apos) [] [] pos) (dM0 (fun a => .bool (Txt.isascii a)) (fun _ => True) t) :=
  pe_imp (pe_m0 PySem.F.slot_str_isascii PySem.F.type_str_isascii mt_isascii ho hbase hline) fun σ H Q ⟨Z, F, ρ, n, R, r, ht, k⟩ => ⟨Z, F, ρ, n, _, r, ht, fun x n1 F1 H1 v ⟨a, e1, _, hx⟩ g1 s1 d1 w1 => by
    subst e1
    simp only [VR, Rp] at w1
    subst w1
    exact ⟨⟨a, rfl⟩, a, rfl, rfl, trivial, k _ _ _ _ _ hx g1 s1 d1 (by simp [VR, Rp])⟩⟩
/-- a.split(b) -/
def mSplit (t u : DTE) : DTM := fun ρ n R => t ρ n fun x n1 => ∃ a : Str, x = .dat (.str a) ∧ u ρ n1 fun y n2 => ∃ b : Str, y = .dat (.str b) ∧ (b.length == 0) = false ∧ a.length + 2 ≤ sizeLine ∧ R ((Txt.split a b).map .str) n2
theorem rps_strs {K : PySem.W.Frag} {F : Hp} : ∀ (ss : List Str), Rps K F (ss.map PyData.str) (ss.map V.str)
  | [] => rps_nil
  | s :: ss => rps_cons (by simp [Rp]) (rps_strs ss)
theorem me_split {o e : Expr} {t u : DTE} {apos pos : Pos} (ho : WE Y X o t) (he : WE Y X e u) (h1 : starEach [e] X.env = [(false, eval e X.env)] := by rfl)
    (h2 : attributeBase o "split" X.env (eval o X.env) = eval o X.env := by rfl) (h3 : (apos.endLine == pos.line) = true := by rfl) : ME Y X (.Call (.Attribute o "split" apos) [e] [] pos) (mSplit t u) :=
  pe_imp (pe_split ho he h1 h2 h3) fun σ H Q ⟨Z, F, ρ, n, R, r, ht, k⟩ => ⟨Z, F, ρ, n, _, r, ht, fun x n1 F1 H1 v ⟨a, e1, hx⟩ g1 s1 d1 w1 => by
    subst e1
    simp only [VR, Rp] at w1
    subst w1
    refine ⟨⟨a, rfl⟩, Z, F1, ρ, n1, _, r.step g1 s1 d1, hx, fun y n2 F2 H2 u2 ⟨b, e2, hb, hl, hy⟩ g2 s2 d2 w2 => ?_⟩
    subst e2
    simp only [VR, Rp] at w2
    subst w2
    refine ⟨a, b, rfl, rfl, hb, hl, fun p hp => ?_⟩
    obtain ⟨g3, s3⟩ := Gp.newM (o := .lst ((Txt.split a b).map V.str)) hp s2
    have hp0 : H p = none := by
      cases e : H p with
      | none => rfl
      | some o => exact absurd hp ((g1.trans g2).dH p (by rw [e]; nofun))
    exact k _ _ _ _ _ _ hy ((g1.trans g2).trans g3.gr) s3 (g3.dk (((r.step g1 s1 d1).step g2 s2 d2).b)) hp0 (s2.free hp) upd_same (rps_strs _)⟩
/-- len(s), int(s) -/
def oLenS : DC := fun xs R => ∃ a : Str, xs = [.dat (.str a)] ∧ a.length ≤ sizeLine ∧ R (.int (a.length : Nat))
theorem ck_lenS {K : PySem.W.Frag} : CallOk K (fun xs H Q => ∃ z : Str, xs = [.str z] ∧ z.length ≤ sizeLine ∧ Q (.int z.length) H) oLenS := fun δ F H xs vs R Q hs hv ⟨a, e, hl, hr⟩ bk => by
  subst e
  obtain ⟨v, rfl, h⟩ := vr1 hv
  simp only [VR, Rp] at h
  subst h
  exact ⟨a, rfl, hl, bk.here hs hr (by simp [Rp])⟩
def oIntS : DC := fun xs R => ∃ (a : Str) (i : Int), xs = [.dat (.str a)] ∧ PySem.intText? a = some i ∧ a.length ≤ 640 ∧ R (.int i)
theorem ck_intS {K : PySem.W.Frag} : CallOk K (fun xs H Q => ∃ (a : Str) (n : Int), xs = [.str a] ∧ PySem.intText? a = some n ∧ a.length ≤ 640 ∧ Q (.int n) H) oIntS := fun δ F H xs vs R Q hs hv ⟨a, i, e, hi, hl, hr⟩ bk => by
  subst e
  obtain ⟨v, rfl, h⟩ := vr1 hv
  simp only [VR, Rp] at h
  subst h
  exact ⟨a, i, rfl, hi, hl, bk.here hs hr (by simp [Rp])⟩
/-- s[a:b] -/
def dSlS (t : DTE) (l h : DTO) : DTE := fun ρ n R => t ρ n fun x n1 => ∃ a : Str, x = .dat (.str a) ∧ l ρ n1 fun lo n2 => h ρ n2 fun hi n3 => a.length ≤ sizeLine ∧ R (.dat (.str (cutS a lo hi))) n3
theorem we_sliceS {e : Expr} {lo hi : Option Expr} {t : DTE} {l h : DTO} {pos p2 : Pos} (he : WE Y X e t) (hl : WO Y X lo l) (hh : WO Y X hi h) : WE Y X (.Subscript e (.Slice lo hi none p2) pos) (dSlS t l h) :=
  pe_imp (pe_slice sl_str he hl hh) fun σ H Q ⟨Z, F, ρ, n, R, r, ht, k⟩ =>
    ⟨Z, F, ρ, n, _, r, ht, fun x n1 F1 H1 v ⟨a, e1, hx⟩ g1 s1 d1 w1 => by
      subst e1
      simp only [VR, Rp] at w1
      subst w1
      exact ⟨Z, F1, ρ, n1, _, r.step g1 s1 d1, hx, fun lo n2 F2 H2 hlo g2 s2 d2 => ⟨Z, F2, ρ, n2, _, (r.step g1 s1 d1).step g2 s2 d2, hlo, fun hi n3 F3 H3 ⟨hz, hhi⟩ g3 s3 d3 =>
        ⟨a, rfl, hz, k _ _ _ _ _ hhi ((g1.trans g2).trans g3) s3 d3 (by simp [VR, Rp])⟩⟩⟩⟩
/-- s * n -/
def repS (z : Str) (n : Int) : Str := ⟨(List.replicate n.toNat z.cps.toList).flatten.toArray⟩
theorem foldl_cat : ∀ (m : Nat) (a acc : Array Nat), ((List.replicate m a).foldl (· ++ ·) acc).toList = acc.toList ++ (List.replicate m a.toList).flatten
  | 0, a, acc => by simp
  | m + 1, a, acc => by
    rw [List.replicate_succ, List.foldl_cons, foldl_cat m a (acc ++ a), List.replicate_succ, List.flatten_cons, Array.toList_append, List.append_assoc]
theorem repS_eq (z : Str) (m : Nat) : (⟨(List.replicate m z.cps).foldl (· ++ ·) #[]⟩ : Str) = repS z m := by
  unfold repS
  congr 1
  apply Array.ext'
  rw [foldl_cat]
  simp
def rMulS : R2 := fun x y H Q => ∃ (z : Str) (m : Nat), x = .str z ∧ y = .int (m : Nat) ∧ z.length * m ≤ 100000 ∧ m ≤ 100000 ∧ Q (.str (repS z m)) H
theorem op_mulS : OpR X (binaryOp .Mult) rMulS := by
  intro pins s σ H x y v u Q I rx ry h
  obtain ⟨z, m, rfl, rfl, hl, hm, q⟩ := h
  obtain ⟨t, rfl⟩ := rx
  obtain ⟨t', rfl⟩ := ry
  have hz : 100000 < sizeLine := by decide
  refine P.mul_str ?_ ?_ ?_ ?_
  · have e1 : decide ((m : Int) < -(2 ^ 63 : Int)) = false := decide_eq_false (by omega)
    have e2 : decide ((m : Int) ≥ 2 ^ 63) = false := decide_eq_false (by omega)
    rw [e1, e2, Bool.or_false]
  · intro h1 h2
    have hm1 : 1 ≤ m := by omega
    have h3 : z.length ≤ 100000 := Nat.le_trans (Nat.le_mul_of_pos_right _ hm1) hl
    have h4 : (100000 : Int) ≤ (2 ^ 63 - 1) / (m : Int) := Int.le_ediv_of_mul_le (by omega) (by omega)
    omega
  · intro h1 h2
    unfold Builtin.Str.tooLong
    exact decide_eq_false (by rw [Int.toNat_natCast]; omega)
  · by_cases h1 : (m : Int) < 1
    · rw [if_pos h1]
      have : m = 0 := by omega
      subst this
      exact ⟨by decide, ⟨.str (repS z (0 : Nat)), H, I.tok _, ⟨s.toks, rfl⟩, q⟩⟩
    · rw [if_neg h1]
      by_cases h2 : ((m : Int) == 1 || z.length == 0) = true
      · rw [if_pos h2]
        refine ⟨.str (repS z m), H, I, ⟨t, ?_⟩, q⟩
        congr 1
        rw [Bool.or_eq_true, beq_iff_eq, beq_iff_eq] at h2
        rcases h2 with h2 | h2
        · have : m = 1 := by omega
          subst this
          unfold repS
          cases z
          simp
        · have : z.cps = #[] := Array.eq_empty_of_size_eq_zero h2
          cases z
          simp only at this
          subst this
          unfold repS
          simp
      · rw [if_neg h2, Int.toNat_natCast, repS_eq]
        refine ⟨?_, ⟨.str (repS z m), H, I.tok _, ⟨_, rfl⟩, q⟩⟩
        have : (repS z m).length = z.length * m := by
          unfold repS Str.length
          simp [List.length_flatten, Nat.mul_comm]
        rw [this]; omega
def oMulS : D2 := fun x y R => ∃ (z : Str) (m : Nat), x = .dat (.str z) ∧ y = .dat (.int (m : Nat)) ∧ z.length * m ≤ 100000 ∧ m ≤ 100000 ∧ R (.str (repS z m))
theorem bi_mulS {K : PySem.W.Frag} : BinOk K rMulS oMulS := fun δ F H x y v u R Q hs hx hy ⟨a, m, e1, e2, hl, hm, hr⟩ bk => by
  subst e1 e2
  simp only [VR, Rp] at hx hy
  exact ⟨a, m, hx, hy, hl, hm, bk.here hs hr (by simp [Rp])⟩
/-- three of a list -/
def gL3 (i j l : Nat) : DTG := fun d ρ R => ∃ a b c, d = .list [a, b, c] ∧ R (((ρ.set i (some (.dat a))).set j (some (.dat b))).set l (some (.dat c)))
theorem gok_threeL {K : PySem.W.Frag} {i j l : Nat} : GOk K (gLst K 3 (gCons (gName i) (gCons (gName j) (gCons (gName l) gNil)))) (gL3 i j l) [i, j, l] := ⟨fun Y Z F H σ ρ n d v R Q r hr h k => by
  obtain ⟨a, b, c, rfl, h⟩ := h
  simp only [Rp] at hr
  obtain ⟨p, xs, rfl, hp, hxs⟩ := hr
  obtain ⟨u, v, w, rfl, h1, h2, h3⟩ := rps3 hxs
  refine ⟨p, _, rfl, SqL.of (r.b.sub _ _ hp), rfl, u, _, rfl, v, _, rfl, w, _, rfl, rfl, k _ _ h (((r.setD i h1).setD j h2).setD l h3) fun vs hv => ?_⟩
  rw [wipe_set (hv l (by simp)), wipe_set (hv j (by simp)), wipe_set (hv i (by simp))]⟩
end
end DL
namespace DL
open PySem PySem.Spec PyProof.Rows L2
def ItZT (K : PySem.W.Frag) (a b : Addr) (xs ys : List V) : It where
  go i H := (SqT K H a xs ∧ SqT K H b ys) ∧ i < xs.length ∧ i < ys.length
  yld i H v H' := ∃ T x y, (v = .ref T ∧ H T = none ∧ H' = upd H T (.tup [x, y])) ∧ xs[i]? = some x ∧ ys[i]? = some y
  stop i H := (SqT K H a xs ∧ SqT K H b ys) ∧ (xs.length ≤ i ∨ ys.length ≤ i)
structure ZtAt (a b z TI TO i1 i2 : Addr) (n m i : Nat) (h : Heap) : Prop where
  l1 : i ≤ n
  l2 : i ≤ m
  hz : IsZip h z TI TO .none
  hI : IsTupOf2 h TI (.ref i1) (.ref i2)
  hO : ∃ x y, IsTupOf2 h TO x y
  j1 : h.IsTupleIter i1 a i
  j2 : h.IsTupleIter i2 b i
theorem turn_zipT {P : Program} {w : World} {K : PySem.W.Frag} {elts : List Expr} {kk : Nat} {tpos : Pos} {a b z TI TO i1 i2 : Addr} {xs ys : List V} (S : ZipSep2 z TI TO i1 i2 [i1, a] [i2, b]) :
    Turn P w K (.Tuple elts kk tpos) (ItZT K a b xs ys) [z, TI, TO, i1, i2] z (ZtAt a b z TI TO i1 i2 xs.length ys.length) where
  mem := in5.mpr (.inl rfl)
  obj := fun i h st c hc => by
    obtain ⟨x, y, hO⟩ := st.hO
    obtain ⟨o1, e1, _, d1⟩ := st.j1
    obtain ⟨o2, e2, _, d2⟩ := st.j2
    rcases in5.mp hc with rfl | rfl | rfl | rfl | rfl
    · exact ⟨_, st.hz, nofun⟩
    · exact ⟨_, st.hI, nofun⟩
    · exact ⟨_, hO, nofun⟩
    · exact ⟨o1, e1, fun v q => by rw [d1] at q; cases q⟩
    · exact ⟨o2, e2, fun v q => by rw [d2] at q; cases q⟩
  keep := fun i h h' st k => by
    obtain ⟨x, y, hO⟩ := st.hO
    exact ⟨st.l1, st.l2, k _ (in5.mpr (.inl rfl)) _ st.hz, k _ (by simp) _ st.hI, ⟨x, y, k _ (by simp) _ hO⟩, st.j1.at fun o => k _ (by simp) o, st.j2.at fun o => k _ (by simp) o⟩
  item := by
    intro X hP hw hK hc i pins s σ H E I hf st hg
    subst hP hw hK
    obtain ⟨⟨qx, qy⟩, g1, g2⟩ := hg
    obtain ⟨us, ru, p1, _⟩ := I.tuple qx
    obtain ⟨ws, rw', p2, _⟩ := I.tuple qy
    obtain ⟨x, hx⟩ : ∃ x, xs[i]? = some x := ⟨xs[i], List.getElem?_eq_getElem g1⟩
    obtain ⟨y, hy⟩ : ∃ y, ys[i]? = some y := ⟨ys[i], List.getElem?_eq_getElem g2⟩
    obtain ⟨u, hu, r1⟩ := ru.get hx
    obtain ⟨v, hv, r2⟩ := rw'.get hy
    obtain ⟨x0, y0, hO⟩ := st.hO
    have hd := I.ok.hd hc
    have a1 : a ≠ i1 := fun e => by
      obtain ⟨o1, e1, c1, _⟩ := st.j1
      obtain ⟨o2, e2, c2, _⟩ := p1
      rw [e, e1] at e2; cases e2
      exact absurd (Value.type.inj (c1.symm.trans c2)) (by decide)
    have b2 : b ≠ i2 := fun e => by
      obtain ⟨o1, e1, c1, _⟩ := st.j2
      obtain ⟨o2, e2, c2, _⟩ := p2
      rw [e, e1] at e2; cases e2
      exact absurd (Value.type.inj (c1.symm.trans c2)) (by decide)
    have D1 := Draws.tuple (prog := X.prog) (w := X.w) (A := X.A.in1) hd i1 a a1 us.toArray
    have D2 := Draws.tuple (prog := X.prog) (w := X.w) (A := X.A.in1) hd i2 b b2 ws.toArray
    have n1 : i < us.toArray.size := by have := (List.getElem?_eq_some_iff.mp hu).1; simpa using this
    have n2 : i < ws.toArray.size := by have := (List.getElem?_eq_some_iff.mp hv).1; simpa using this
    refine wpAny_pyNext_zipD2_item S D1 D2 st.hz st.hI hO ⟨st.j1, p1⟩ ⟨st.j2, p2⟩ n1 n2 fun u' v' h' tk eu ev hz' hO' s1 s2 hT hsz hk => ?_
    have eu : u' = u := by have q : us.toArray[i]? = some u := by simpa using hu
                           exact Option.some.inj (eu.symm.trans q)
    have ev : v' = v := by have q : ws.toArray[i]? = some v := by simpa using hv
                           exact Option.some.inj (ev.symm.trans q)
    subst eu ev
    refine ⟨_, rfl, wpAny_letOwnedTupleGo_zip (s := { s with heap := h', toks := tk }) hz' fun h2 hz2 sb => ?_⟩
    have lt : ∀ c ∈ [z, TI, TO, i1, i2], c < s.heap.objs.size := fun c hcm => by
      obtain ⟨o1, e1, _⟩ := st.j1
      obtain ⟨o2, e2, _⟩ := st.j2
      rcases in5.mp hcm with rfl | rfl | rfl | rfl | rfl
      · exact Heap.lt_size st.hz
      · exact Heap.lt_size st.hI
      · exact Heap.lt_size hO
      · exact Heap.lt_size e1
      · exact Heap.lt_size e2
    have hT2 : IsTupOf2 h2 s.heap.objs.size u' v' := (sb.2 _ (Nat.ne_of_gt (lt z (by simp)))).trans hT
    have keep2 : ∀ c o, c ∉ [z, TI, TO, i1, i2] → s.heap.get? c = some o → h2.get? c = some o := fun c o hn e => by
      rw [in5] at hn
      exact (sb.2 c fun q => hn (.inl q)).trans (hk c o (fun q => hn (.inl q)) (fun q => hn (.inr (.inr (.inl q)))) (fun q => hn (.inr (.inr (.inr (.inl q))))) (fun q => hn (.inr (.inr (.inr (.inr q))))) e)
    have new : ObjOk X.prog X.w (upd H s.heap.objs.size (.tup [x, y])) h2 s.heap.objs.size (.tup [x, y]) := ⟨by show 2 ≤ sizeLine; decide, [u', v'], .cons r1 (.cons r2 .nil), ⟨_, hT2, rfl, _, rfl⟩⟩
    refine ⟨.ref s.heap.objs.size, _, I.turnedNew (t' := tk) keep2 hf (Nat.le_refl _) new, rfl, ⟨_, x, y, ⟨rfl, I.hok.fresh (Nat.le_refl _), rfl⟩, hx, hy⟩, ⟨g1, g2, hz2, (sb.2 _ S.TIz).trans (hk _ _ S.TIz S.TITO S.TIi1 S.TIi2 st.hI), ⟨u', v', (sb.2 _ S.TOz).trans hO'⟩, s1.1.at fun o q => (sb.2 _ ?_).trans q, s2.1.at fun o q => (sb.2 _ ?_).trans q⟩, fun c hcm => ?_⟩
    · exact fun e => S.zf1 (by rw [← e]; exact S.mem1)
    · exact fun e => S.zf2 (by rw [← e]; exact S.mem2)
    · rw [upd_ne (Nat.ne_of_lt (lt c hcm))]
      exact (hf c hcm).1
  done := by
    intro X hP hw hK hc i pins s σ H E I hf st hg
    subst hP hw hK
    obtain ⟨⟨qx, qy⟩, he⟩ := hg
    obtain ⟨us, ru, p1, _⟩ := I.tuple qx
    obtain ⟨ws, rw', p2, _⟩ := I.tuple qy
    obtain ⟨x0, y0, hO⟩ := st.hO
    have hd := I.ok.hd hc
    have a1 : a ≠ i1 := fun e => by
      obtain ⟨o1, e1, c1, _⟩ := st.j1
      obtain ⟨o2, e2, c2, _⟩ := p1
      rw [e, e1] at e2; cases e2
      exact absurd (Value.type.inj (c1.symm.trans c2)) (by decide)
    have b2 : b ≠ i2 := fun e => by
      obtain ⟨o1, e1, c1, _⟩ := st.j2
      obtain ⟨o2, e2, c2, _⟩ := p2
      rw [e, e1] at e2; cases e2
      exact absurd (Value.type.inj (c1.symm.trans c2)) (by decide)
    have e1 := ru.length
    have e2 := rw'.length
    have m1 := st.l1
    have m2 := st.l2
    have z1 : us.toArray.size = us.length := by simp
    have z2 : ws.toArray.size = ws.length := by simp
    refine wpAny_pyNext_zipD2_end S (Draws.tuple (A := X.A.in1) hd i1 a a1 us.toArray) (Draws.tuple (A := X.A.in1) hd i2 b b2 ws.toArray) st.hz st.hI hO ⟨st.j1, p1⟩ ⟨st.j2, p2⟩ (by omega) (by omega) (by omega) fun h' tk hk => ⟨rfl, I.turnedL (t' := tk) (fun c o hn q => ?_) hf⟩
    rw [in5] at hn
    exact hk c o (fun q => hn (.inl q)) (fun q => hn (.inr (.inr (.inl q)))) (fun q => hn (.inr (.inr (.inr (.inl q))))) (fun q => hn (.inr (.inr (.inr (.inr q))))) q
  self := fun A i s Q E st h => wpAny_pyIter_zip st.hz h
variable {X : Cx} {Y : Fx}
/-- zip of two tuples -/
def iZipT (K : PySem.W.Frag) (ta : TA) : TI := fun σ H R => ta σ H fun vs H1 => ∃ a b xs ys, vs = [.ref a, .ref b] ∧ SqT K H1 a xs ∧ SqT K H1 b ys ∧ R (ItZT K a b xs ys) H1
theorem pi_zipT {e e2 : Expr} {ta : TA} {p pos tpos : Pos} {elts : List Expr} {kk : Nat} (hg : Gl X "zip") (hm : X.mg "zip" = none) (ha : PA X [e, e2] ta)
    (hs : starEach [e, e2] X.env = (false, eval e X.env) :: starEach [e2] X.env := by rfl) (hpl : (backTo pos (starEach [e2] X.env)).any (·.1) = false := by rfl) :
    PI X (.Tuple elts kk tpos) (.Call (.Name "zip" p) [e, e2] [] pos) (iZipT X.K ta) := ⟨fun pins s σ H R I h => by
  refine Call_ (ld_blt I hg hm PyProof.Rows.boot_zip (PyProof.Rows.callWith_type1 (thn (ha.run pos pins s σ H _ I h) fun us s1 ⟨vs, H1, I1, r1, a, b, xs, ys, ex, hqx, hqy, q⟩ => ?_) hs hpl))
  subst ex
  obtain ⟨va, vb, rfl, ra, rb⟩ := Vals.two r1
  cases ra
  cases rb
  have fresh5 : ∀ c ∈ [s1.heap.objs.size + 4, s1.heap.objs.size + 2, s1.heap.objs.size + 3, s1.heap.objs.size, s1.heap.objs.size + 1], FpOk X pins H1 c := fun c hcm => by
    have hle : s1.heap.objs.size ≤ c := by
      rcases in5.mp hcm with z | z | z | z | z <;> rw [z] <;> first | exact Nat.le_add_right _ _ | exact Nat.le_refl _
    exact I1.fpOk hle (I1.hok.fresh hle)
  obtain ⟨us, ru, p1, _⟩ := I1.tuple hqx
  obtain ⟨ws, rw', p2, _⟩ := I1.tuple hqy
  obtain ⟨o1, e1, _⟩ := id p1
  have lt1 := Heap.lt_size e1
  obtain ⟨o2, e2, _⟩ := id p2
  have lt2 := Heap.lt_size e2
  have S := zip_sep2 (N := s1.heap.objs.size) (fp1 := [a]) (fp2 := [b]) (fun c hc => by rw [List.mem_singleton.mp hc]; exact lt1) (fun c hc => by rw [List.mem_singleton.mp hc]; exact lt2)
  refine zip_begins2 (begins_tuple a us.toArray) (begins_tuple b ws.toArray) p1 p2 fun h' hz hTI hTO h1 h2 hsz hk => wpAny_pyIter_zip hz ?_
  exact ⟨_, _, _, _, H1, rfl, I1.kept (t' := s1.toks) hk, turn_zipT (xs := xs) (ys := ys) S, ⟨Nat.zero_le _, Nat.zero_le _, hz, hTI, ⟨_, _, hTO⟩, ⟨_, h1, rfl, rfl⟩, ⟨_, h2, rfl, rfl⟩⟩, fresh5, q⟩⟩
theorem itOk_zipT {K : PySem.W.Frag} {F : Hp} {a b : Addr} {vs us : List V} {ds es : List PyData} (h : Rd F a (.tup vs)) (h' : Rd F b (.tup us)) (r : Rps K F ds vs) (r' : Rps K F es us) : ItOk K (ItZT K a b vs us) F (zipD ds es) where
  go := fun i H s hi => by
    rw [zipD_length, r.length, r'.length] at hi
    exact ⟨⟨sqtR (rdS s h), sqtR (rdS s h')⟩, by omega, by omega⟩
  stop := fun i H s hi => ⟨⟨sqtR (rdS s h), sqtR (rdS s h')⟩, by rw [zipD_length, r.length, r'.length] at hi; omega⟩
  yld := fun i H v H' x ⟨T, y, z, ⟨e1, e2, e3⟩, e4, e5⟩ s hx => by
    obtain ⟨d, e, q1, q2, q3⟩ := zipD_get hx
    obtain ⟨w, p1, p2⟩ := r.get q1
    obtain ⟨w', p3, p4⟩ := r'.get q2
    rw [e4] at p1; cases p1
    rw [e5] at p3; cases p3
    exact .inr ⟨T, _, _, e1, e2, e3, q3, rps_cons p2 (rps_cons p4 rps_nil)⟩
def dZipT (t : DTA) : DSrc := fun ρ n R => t ρ n fun xs n' => ∃ ds es, xs = [.dat (.tuple ds), .dat (.tuple es)] ∧ R (zipD ds es) n'
theorem di_zipT {e e2 : Expr} {t : DTA} {p pos tpos : Pos} {elts : List Expr} {kk : Nat} (hg : Gl X "zip") (hm : X.mg "zip" = none) (ha : WA Y X [e, e2] t)
    (hs : starEach [e, e2] X.env = (false, eval e X.env) :: starEach [e2] X.env := by rfl) (hs2 : (backTo pos (starEach [e2] X.env)).any (·.1) = false := by rfl) :
    DI Y X (.Tuple elts kk tpos) (.Call (.Name "zip" p) [e, e2] [] pos) (dZipT t) :=
  pi_imp (pi_zipT hg hm ha hs hs2) fun σ H R ⟨Z, F, ρ, n, Q, r, ht, k⟩ => ⟨Z, F, ρ, n, _, r, ht, fun xs n1 F1 H1 vs ⟨ds, es, e, hx⟩ g1 s1 d1 w1 => by
    subst e
    obtain ⟨v1, v2, rfl, w1, w2⟩ := vr2 w1
    simp only [VR, Rp] at w1 w2
    obtain ⟨a, us, rfl, h1, h2⟩ := w1
    obtain ⟨b, ws, rfl, h3, h4⟩ := w2
    exact ⟨a, b, us, ws, rfl, sqtR (rdS s1 h1), sqtR (rdS s1 h3), k _ _ _ _ _ hx g1 s1 d1 (itOk_zipT h1 h3 h2 h4)⟩⟩
end DL
set_option maxHeartbeats 0
set_option maxHeartbeats 0
namespace DL
open PySem PySem.Spec PyProof.Rows L2
def numB : PyData → Bool
  | .int _ => true
  | _ => false
def numIn (d : PyData) (a b : Int) : Bool := match d with
  | .int z => decide (a ≤ z) && decide (z ≤ b)
  | _ => false
theorem tameE_int {i : Int} {m : Nat} (h : i.natAbs < 2 ^ m) (hm : m ≤ 1000) (h0 : 0 < m) : TameE (m + 3) 0 (.int i) := (tame_int h hm h0).e
theorem len_cut {α : Type} (xs : List α) (lo hi : Option Int) : (cutG xs lo hi).length ≤ xs.length := by
  unfold cutG
  rw [List.length_take, List.length_drop]
  omega
end DL
set_option maxHeartbeats 0
namespace DL
open PySem PySem.Spec PyProof.Rows L2
abbrev szD (d : PyData) : Bool := numIn d 1 1000000
theorem num_ok (z : Int) : PyData.strOk (toString z : Str) = true := by
  unfold PyData.strOk
  rw [Array.all_eq_true']
  intro c hc
  have h1 : c ∈ (Str.ofString (toString z)).cps.toList := by simpa using hc
  have h2 : ¬ (c ≠ 45 ∧ (c < 48 ∨ 57 < c)) := fun h => int_text_free' c h z h1
  have h3 : c < 58 := by omega
  have key : ∀ c : Nat, c < 58 → (decide (c < 1114112) && !(decide (55296 ≤ c) && decide (c ≤ 57343))) = true := by decide +kernel
  have := key c h3
  simp at this ⊢
  omega
end DL
set_option maxHeartbeats 0
namespace DL
open PySem PySem.Spec PyProof.Rows L2
theorem isDR_dat {d : PyData} (h : isRefD d = false) : isDR (.dat d) = false := Bool.or_eq_false_iff.mpr ⟨rfl, h⟩
/-- the same, but for the errors that were handled -/
structure Sim (n n' : Wo) : Prop where
  nn : n'.n = n.n
  ob : n'.ob = n.ob
theorem Sim.trans {a b c : Wo} (h : Sim a b) (g : Sim b c) : Sim a c := ⟨g.nn.trans h.nn, g.ob.trans h.ob⟩
end DL
set_option maxHeartbeats 4000000
namespace DL
open PySem PySem.Spec PyProof.Rows L2
abbrev Hl := List Int × List Int
def halD (h : Hl) : PyData := hallD h.1 h.2
structure HlOk (h : Hl) : Prop where
  ok : HallOk h.1 h.2
  l1 : h.1.length ≤ 20
  l2 : h.2.length ≤ 20
/-- what a party's object holds -/
structure Pt where
  busy : Bool
  h : Hl
  m : Int
  f : Int
  hs : List Hl
  done : List PyData
def Pt.fs (p : Pt) : List (Str × PyData) := [("_busy", .bool p.busy), ("hall", halD p.h), ("most", .int p.m), ("fewest", .int p.f), ("_halls", .tuple (p.hs.map halD)), ("_done", .tuple p.done)]
structure Pt.Ok (p : Pt) : Prop where
  hh : HlOk p.h
  mo : IsMost p.h.1 p.h.2 p.m
  fe : IsFew p.h.1 p.h.2 p.f
  last : p.hs.getLast? = some p.h
  all : ∀ h ∈ p.hs, HlOk h
  len : p.hs.length = p.done.length + 1
  few : p.done.length ≤ 60
abbrev Out := Sum (Nat × List (Str × PyData)) Hl
def intD : PyData → Int
  | .int z => z
  | _ => 0
def aCome (d : PyData) (h : Hl) : Out := if szD d = true then (if 20 ≤ h.1.length then .inl (1, []) else .inr (h.1 ++ [intD d], h.2)) else .inl (0, [("value", d)])
def aLeave (d : PyData) (h : Hl) : Out := if numIn d 0 ((h.1.length : Int) - 1) = true then (if h.1.length = 1 then .inl (3, []) else .inr (h.1.take (intD d).toNat ++ h.1.drop ((intD d).toNat + 1), h.2)) else .inl (2, [("value", d)])
def aPut (d : PyData) (h : Hl) : Out := if szD d = true then (if 20 ≤ h.2.length then .inl (5, []) else .inr (h.1, h.2 ++ [intD d])) else .inl (4, [("value", d)])
def aTake (d : PyData) (h : Hl) : Out := if numIn d 0 ((h.2.length : Int) - 1) = true then .inr (h.1, h.2.take (intD d).toNat ++ h.2.drop ((intD d).toNat + 1)) else .inl (6, [("value", d)])
def aft (nm : Str) (d : PyData) (h : Hl) : Out := if nm = "come" then aCome d h else if nm = "leave" then aLeave d h else if nm = "put" then aPut d h else aTake d h
def Pt.next (p : Pt) (h : Hl) (m f : Int) (e : PyData) : Pt := ⟨p.busy, h, m, f, p.hs ++ [h], p.done ++ [e]⟩
theorem Pt.Ok.next {p : Pt} (k : p.Ok) {h : Hl} {m f : Int} {e : PyData} (hh : HlOk h) (mo : IsMost h.1 h.2 m) (fe : IsFew h.1 h.2 f) (l : p.done.length < 60) : (p.next h m f e).Ok :=
  ⟨hh, mo, fe, by show (p.hs ++ [h]).getLast? = some h; simp, fun x hx => by
    rcases List.mem_append.mp hx with q | q
    · exact k.all x q
    · obtain rfl := List.mem_singleton.mp q; exact hh, by show (p.hs ++ [h]).length = (p.done ++ [e]).length + 1; rw [List.length_append, List.length_append]; have := k.len; simp; omega, by show (p.done ++ [e]).length ≤ 60; rw [List.length_append]; show p.done.length + 1 ≤ 60; omega⟩
end DL
namespace DL
open PySem PySem.Spec PyProof.Rows L2
theorem Wo.tr {a b c : Wo} {i j : Nat} (h : b ≤ a + i) (g : c ≤ b + j) : c ≤ a + (i + j) := ⟨by have h1 : b.n ≤ a.n + i := h.1; have h2 : c.n ≤ b.n + j := g.1; show c.n ≤ a.n + (i + j); omega, g.2.1.trans h.2.1, g.2.2.trans h.2.2⟩
theorem Wo.one {a : Wo} : a + 1 ≤ a + 1 := ⟨Nat.le_refl _, rfl, rfl⟩
end DL
namespace DL
open PySem PySem.Spec PyProof.Rows L2
structure SumsOk (feet pairs L sums : List Int) (b : Nat) : Prop where
  top : (feet.length : Int) ∈ sums
  all : ∀ y ∈ sums, ∃ s : Int, y = (cF feet s : Int) + cP pairs s
  has : ∀ s ∈ L, ((cF feet s : Int) + cP pairs s) ∈ sums
  len : sums.length ≤ b
theorem top_sum {feet pairs : List Int} (h1 : In1 (10 ^ 6) feet) (h2 : In1 (10 ^ 6) pairs) : (feet.length : Int) = (cF feet 1000001 : Int) + cP pairs 1000001 := by
  have a : cF feet 1000001 = feet.length := by
    unfold cF
    rw [List.filter_eq_self.mpr fun x hx => by have := h1 x hx; simp; omega]
  have b : cP pairs 1000001 = 0 := by
    unfold cP
    rw [List.filter_eq_nil_iff.mpr fun x hx => by have := h2 x hx; simp; omega]
    rfl
  rw [a, b]; simp
theorem SumsOk.start {feet pairs : List Int} (h1 : In1 (10 ^ 6) feet) (h2 : In1 (10 ^ 6) pairs) : SumsOk feet pairs [] [(feet.length : Int)] 1 :=
  ⟨List.mem_singleton.mpr rfl, fun y hy => ⟨1000001, (List.mem_singleton.mp hy).trans (top_sum h1 h2)⟩, fun s hs => (nomatch hs), Nat.le_refl _⟩
theorem SumsOk.most {feet pairs sums : List Int} {b : Nat} (h1 : In1 (10 ^ 6) feet) (h2 : In1 (10 ^ 6) pairs) (h : SumsOk feet pairs (feet ++ pairs) sums b) {m : Int} (hm : m ∈ sums) (hle : ∀ y ∈ sums, m ≤ y) : IsMost feet pairs m := by
  refine ⟨h.all m hm, fun s' => ?_⟩
  obtain ⟨s0, h0, h3⟩ := most_at (feet := feet) (pairs := pairs) (top := 1000001) (fun x hx => by have := h1 x hx; omega) fun x hx => by have := h2 x hx; omega
  refine Int.le_trans ?_ (h3 s')
  rcases h0 with q | rfl
  · exact hle _ (h.has s0 (List.mem_append_left _ q))
  · rw [← top_sum h1 h2]; exact hle _ h.top
theorem ifN' {b : Bool} {A B : Prop} (hb : b = false) (h : A) : if (!b) = true then A else B := by subst hb; exact h
theorem ifNF' {b : Bool} {A B : Prop} (hb : b = true) (h : B) : if (!b) = true then A else B := by subst hb; exact h
end DL
open PySem PySem.Spec PyProof.Rows L2
namespace DL
def Pt.back (p : Pt) (h : Hl) (m f : Int) : Pt := ⟨p.busy, h, m, f, p.hs.dropLast, p.done.dropLast⟩
theorem Pt.Ok.back {p : Pt} (k : p.Ok) {h : Hl} {m f : Int} (hd : p.done ≠ []) (e : p.hs.dropLast.getLast? = some h) (hh : HlOk h) (mo : IsMost h.1 h.2 m) (fe : IsFew h.1 h.2 f) : (p.back h m f).Ok :=
  ⟨hh, mo, fe, e, fun x hx => k.all x (List.dropLast_subset _ hx), by
    have := List.length_pos_iff.mpr hd
    show p.hs.dropLast.length = p.done.dropLast.length + 1
    rw [List.length_dropLast, List.length_dropLast, k.len]; omega, by
    show p.done.dropLast.length ≤ 60
    rw [List.length_dropLast]; have := k.few; omega⟩
end DL
open PySem PySem.Spec PyProof.Rows L2
namespace DL
def okPL (d : PyData) : Bool := !isRefD d && d.showable && decide (d.depth ≤ 5) && decide (d.shown.length ≤ 1000) && PyData.strOk d.shown
structure PL (d : PyData) : Prop where
  nr : isRefD d = false
  tm : TameE 1000 5 d
  ok : PyData.strOk d.shown = true
theorem PL.of {d : PyData} (h : okPL d = true) : PL d := by
  unfold okPL at h
  simp only [Bool.and_eq_true, Bool.not_eq_true', decide_eq_true_eq] at h
  exact ⟨h.1.1.1.1, ⟨h.1.1.1.2, h.1.1.2, h.1.2⟩, h.2⟩
theorem PL.int {z : Int} (h1 : -1 ≤ z) (h2 : z ≤ 1001) : PL (.int z) := ⟨rfl, (tameE_int (m := 20) (by omega) (by decide) (by decide)).mono (by decide) (by decide), num_ok z⟩
end DL
open PySem PySem.Spec PyProof.Rows L2
namespace DL
abbrev Edt := Str × PyData
def edT' (e : Edt) : PyData := .tuple [.str e.1, e.2]
def BatK : List Edt → Pt → (Pt → Prop) → Prop
  | [], p, k => k p
  | e :: r, p, k => ∃ h, aft e.1 e.2 p.h = .inr h ∧ ∀ m f, IsMost h.1 h.2 m → IsFew h.1 h.2 f → BatK r (p.next h m f (edT' e)) k
theorem BatK.mono {k k' : Pt → Prop} (hk : ∀ q, k q → k' q) : ∀ {es : List Edt} {p : Pt}, BatK es p k → BatK es p k'
  | [], p, h => hk p h
  | e :: r, p, ⟨h, e1, h2⟩ => ⟨h, e1, fun m f hm hf => BatK.mono hk (h2 m f hm hf)⟩
end DL
open PySem PySem.Spec PyProof.Rows L2
namespace DL
/-- a contract made stronger -/
theorem FnGX.imp {P : Program} {w : World} {K : PySem.W.Frag} {mg : Str → Option Value} {base : Heap} {k m : Nat} {f : Addr} {fd : FuncData} {ps : List Str} {c c' : DSpecX} (F : FnGX P w K mg base k f fd ps (spDX K m c)) (h : ∀ as n R E, c' as n R E → c as n R E) : FnGX P w K mg base k f fd ps (spDX K m c') :=
  have g : ∀ vs H Q E, spDX K m c' vs H Q E → spDX K m c vs H Q E := fun vs H Q E ⟨δ, Fz, as, n, R, E', hl, w1, s1, d1, o1, hc, hk, hx⟩ => ⟨δ, Fz, as, n, R, E', hl, w1, s1, d1, o1, h _ _ _ _ hc, hk, hx⟩
  ⟨fun vs H Q E hs => F.len vs H Q E (g _ _ _ _ hs), fun A outer s H args us vs Q E hg hr e0 hb rv hs => F.run A outer s H args us vs Q E hg hr e0 hb rv (g _ _ _ _ hs)⟩
end DL
open PySem PySem.Spec PyProof.Rows L2
namespace DL
def Nr : Nat → PyData → Prop
  | 0, d => isRefD d = false
  | k + 1, d => isRefD d = false ∧ ∀ ds, d = .tuple ds → ∀ x ∈ ds, Nr k x
theorem Nr.one : ∀ {k : Nat} {d : PyData}, Nr k d → isRefD d = false
  | 0, _, h => h
  | _ + 1, _, h => h.1
def NrA (d : PyData) : Prop := ∀ k, Nr k d
theorem NrA.leaf {d : PyData} (h : isRefD d = false) (h2 : ∀ ds, d ≠ .tuple ds) : NrA d := fun k => by
  cases k with
  | zero => exact h
  | succ k => exact ⟨h, fun ds e => absurd e (h2 ds)⟩
theorem NrA.tup {ds : List PyData} (h : ∀ x ∈ ds, NrA x) : NrA (.tuple ds) := fun k => by
  cases k with
  | zero => rfl
  | succ k => exact ⟨rfl, fun es e x hx => by cases e; exact h x hx k⟩
theorem NrA.int (z : Int) : NrA (.int z) := .leaf rfl fun _ e => (nomatch e)
theorem NrA.nr {d : PyData} (h : NrA d) : isRefD d = false := h 0
structure GV (m k : Nat) (d : PyData) : Prop where
  tm : TameE m k d
  nr : NrA d
theorem GV.mono {m k m' k' : Nat} {d : PyData} (h : GV m k d) (h1 : m ≤ m') (h2 : k ≤ k') : GV m' k' d := ⟨h.tm.mono h1 h2, h.nr⟩
theorem gv_int {z : Int} (h0 : -1 ≤ z) (h1 : z ≤ 10000000) : GV 500 4 (.int z) := ⟨(tameE_int (m := 24) (by omega) (by decide) (by decide)).mono (by decide) (by decide), .int z⟩
theorem gv_tup {m k l : Nat} {ds : List PyData} (h : ∀ x ∈ ds, GV m k x) (hl : ds.length ≤ l) : GV (l * (m + 2) + 3) (k + 1) (.tuple ds) := ⟨(tameE_tuple (m := m) (k := k) (l := l) (fun d hd => (h d hd).tm) hl).mono (by first | exact Nat.le_refl _ | omega | (rw [Nat.mul_add]; omega)) (Nat.le_refl _), .tup fun x hx => (h x hx).nr⟩
def BentJ : Nat → PyData → Prop
  | 0, d => ∃ z : Int, d = .int z ∧ 1 ≤ z ∧ z ≤ 1000000
  | j + 1, d => (∃ z : Int, d = .int z ∧ 1 ≤ z ∧ z ≤ 1000000) ∨ ∃ ds, d = .tuple ds ∧ ds.length ≤ 20 ∧ ∀ x ∈ ds, BentJ j x
def bnd : Nat → Nat | 0 => 500 | 1 => 21000 | _ => 900000
def dep : Nat → Nat | 0 => 4 | 1 => 6 | _ => 7
def GJ (j : Nat) (d : PyData) : Prop := GV (bnd j) (dep j) d
theorem GV.gj {d : PyData} (h : GV 500 4 d) : ∀ {j : Nat}, j ≤ 2 → GJ j d
  | 0, _ => h
  | 1, _ => GV.mono h (by decide) (by decide)
  | 2, _ => GV.mono h (by decide) (by decide)
theorem gj_tup {j : Nat} {ds : List PyData} (h : ∀ x ∈ ds, GJ j x) (hl : ds.length ≤ 41) (hj : j ≤ 1) : GJ (j + 1) (.tuple ds) := by
  match j, hj, h with
  | 0, _, h => exact GV.mono (gv_tup h hl) (by decide) (by decide)
  | 1, _, h => exact GV.mono (gv_tup h hl) (by decide) (by decide)
theorem BentJ.gj : ∀ {j : Nat} {d : PyData}, j ≤ 1 → BentJ j d → GJ j d
  | 0, _, _, ⟨z, e, h0, h1⟩ => by subst e; exact (gv_int (by omega) (by omega)).gj (by decide)
  | 1, _, _, .inl ⟨z, e, h0, h1⟩ => by subst e; exact (gv_int (by omega) (by omega)).gj (by decide)
  | 1, _, _, .inr ⟨ds, e, hl, h⟩ => by subst e; exact gj_tup (fun x hx => (h x hx).gj (by decide)) (by omega) (by decide)
theorem BentJ.nr {j : Nat} {d : PyData} (hj : j ≤ 1) (h : BentJ j d) : isRefD d = false := (BentJ.gj hj h).nr.nr
def okT (s : Str) : Prop := PyData.strOk s = true
theorem okT.sh {s : Str} (h : okT s) : Sh (.str s) := (tame_str h).shaped (by decide)
end DL
open PySem PySem.Spec PyProof.Rows L2
namespace DL
theorem all_map (ds : List PyData) : (ds.map szD).all id = ds.all szD := by
  rw [List.all_map]
  rfl
end DL
open PySem PySem.Spec PyProof.Rows L2
namespace DL
theorem leftL_iff {m : Nat} {run : List (Int × Int)} {j : Int} : j ∈ leftL m run ↔ j ∈ intsN m ∧ ∀ q ∈ run, q.2 ≠ j := by
  unfold leftL
  rw [List.mem_filter]
  refine and_congr_right fun _ => ?_
  simp
end DL
set_option maxHeartbeats 0
namespace DL
open PySem PySem.Spec PyProof.Rows L2
theorem Wo.addn (w : Wo) (k : Nat) : (w + k).n = w.n + k := rfl
def isDg (c : Nat) : Bool := decide (48 ≤ c) && decide (c ≤ 57)
def digs (l : List Nat) : Bool := !l.isEmpty && l.all isDg
theorem dg128 : ∀ c : Nat, c < 128 → Unicode.isDigit c = isDg c := by decide +kernel
theorem isDg_iff {c : Nat} : isDg c = true ↔ 48 ≤ c ∧ c ≤ 57 := by
  unfold isDg
  rw [Bool.and_eq_true, decide_eq_true_eq, decide_eq_true_eq]
theorem digs_all {l : List Nat} (h : digs l = true) : NumText.AllDigits l ∧ l ≠ [] := by
  unfold digs at h
  rw [Bool.and_eq_true, List.all_eq_true] at h
  exact ⟨fun c hc => isDg_iff.mp (h.2 c hc), fun e => by rw [e] at h; simp at h⟩
theorem digs_of {l : List Nat} (h : NumText.AllDigits l) (hne : l ≠ []) : digs l = true := by
  unfold digs
  rw [Bool.and_eq_true, List.all_eq_true]
  refine ⟨?_, fun c hc => isDg_iff.mpr (h c hc)⟩
  cases l with
  | nil => exact absurd rfl hne
  | cons c l => rfl
theorem digs_txt (w : Str) : (Txt.isascii w && Txt.isdigit w) = digs (chs w) := by
  have e1 : Txt.isascii w = (chs w).all (· < 128) := by
    unfold Txt.isascii chs
    rw [Array.all_toList]
  have e2 : Txt.isdigit w = (!(chs w).isEmpty && (chs w).all Unicode.isDigit) := by
    unfold Txt.isdigit chs
    rw [Array.all_toList]
    congr 1
    unfold Str.length
    cases w with
    | mk a =>
      show decide (a.size > 0) = !a.toList.isEmpty
      rw [Bool.eq_iff_iff, decide_eq_true_eq]
      cases h : a.toList with
      | nil =>
        have : a.size = 0 := by rw [← Array.length_toList, h]; rfl
        simp [this]
      | cons x xs =>
        have : a.size = xs.length + 1 := by rw [← Array.length_toList, h]; rfl
        simp [this]
  rw [e1, e2, Bool.eq_iff_iff]
  unfold digs
  simp only [Bool.and_eq_true, List.all_eq_true, decide_eq_true_eq]
  constructor
  · rintro ⟨h1, h2, h3⟩
    exact ⟨h2, fun c hc => by rw [← dg128 c (h1 c hc)]; exact h3 c hc⟩
  · rintro ⟨h2, h3⟩
    have h1 : ∀ c ∈ chs w, c < 128 := fun c hc => by have := isDg_iff.mp (h3 c hc); omega
    exact ⟨h1, h2, fun c hc => by rw [dg128 c (h1 c hc)]; exact h3 c hc⟩
abbrev valL (l : List Nat) : Nat := NumText.digitsVal l
theorem val_snoc (p : List Nat) (c : Nat) : valL (p ++ [c]) = valL p * 10 + (c - 48) := by
  show (p ++ [c]).foldl _ 0 = _
  rw [List.foldl_append]; rfl
theorem fold_ge : ∀ (l : List Nat) (a : Nat), a ≤ l.foldl (fun acc c => acc * 10 + (c - 48)) a
  | [], a => Nat.le_refl _
  | c :: l, a => Nat.le_trans (by omega) (fold_ge l (a * 10 + (c - 48)))
theorem val_pos {c : Nat} {l : List Nat} (hc : 48 < c) : 0 < valL (c :: l) := by
  show 0 < (c :: l).foldl _ 0
  rw [List.foldl_cons]
  exact Nat.lt_of_lt_of_le (by omega) (fold_ge l _)
theorem canon : ∀ (l : List Nat), NumText.AllDigits l → l ≠ [] → (TL.numL (valL l) = l ↔ l = [48] ∨ l.head? ≠ some 48) := by
  suffices h : ∀ (r : List Nat), NumText.AllDigits r.reverse → r ≠ [] → (TL.numL (valL r.reverse) = r.reverse ↔ r.reverse = [48] ∨ r.reverse.head? ≠ some 48) by
    intro l h1 h2
    have := h l.reverse (by rwa [List.reverse_reverse]) (by simpa using h2)
    rwa [List.reverse_reverse] at this
  intro r
  induction r with
  | nil => intro _ h; exact absurd rfl h
  | cons c r ih =>
    intro hd _
    rw [List.reverse_cons] at hd ⊢
    have hc := hd c (by simp)
    have hp : NumText.AllDigits r.reverse := fun d hd' => hd d (by simp at hd' ⊢; exact .inl hd')
    by_cases hr : r = []
    · subst hr
      have e0 : valL (([] : List Nat).reverse ++ [c]) = c - 48 := by rw [val_snoc]; simp [valL, NumText.digitsVal]
      rw [e0, TL.numL_lt (by omega)]
      have e1 : 48 + (c - 48) = c := by omega
      simp only [List.reverse_nil, List.nil_append, e1]
      constructor
      · intro _
        by_cases q : c = 48
        · exact .inl (by rw [q])
        · exact .inr (by simpa using q)
      · intro _; trivial
    · have ih := ih hp hr
      have hne : r.reverse ≠ [] := by simpa using hr
      rw [val_snoc]
      generalize hq : r.reverse = p at *
      cases p with
      | nil => exact absurd rfl hne
      | cons a p =>
        have ha := hp a (by simp)
        by_cases h48 : a = 48
        · subst h48
          constructor
          · intro e
            exfalso
            by_cases hv : valL (48 :: p) = 0
            · rw [hv, TL.numL_lt (by omega)] at e
              have := congrArg List.length e
              simp at this
            · rw [TL.numL_step (by omega)] at e
              have e3 : (valL (48 :: p) * 10 + (c - 48)) / 10 = valL (48 :: p) := by omega
              rw [e3] at e
              have e4 := List.append_inj_left' e rfl
              rcases ih.mp e4 with q | q
              · rw [q] at hv
                exact hv (by decide)
              · exact q rfl
          · rintro (q | q)
            · have := congrArg List.length q
              simp at this
            · exact absurd rfl q
        · have hv : 0 < valL (a :: p) := val_pos (by omega)
          constructor
          · intro _; exact .inr (by simpa using h48)
          · intro _
            rw [TL.numL_step (by omega)]
            have e3 : (valL (a :: p) * 10 + (c - 48)) / 10 = valL (a :: p) := by omega
            have e4 : (valL (a :: p) * 10 + (c - 48)) % 10 = c - 48 := by omega
            rw [e3, e4, ih.mpr (.inr (by simpa using h48)), show 48 + (c - 48) = c by omega]
/-- what number_in gives -/
def numO (w : Str) (k : Nat) : Option Nat := if w.length ≤ k ∧ digs (chs w) = true ∧ TL.numL (valL (chs w)) = chs w then some (valL (chs w)) else none
def numOD (w : Str) (k : Nat) : PyData := match numO w k with
  | some v => .int (v : Nat)
  | none => .none
theorem numT_chs (v : Nat) : chs (Str.ofString (toString ((v : Nat) : Int))) = TL.numL v := TL.tl_num v
theorem str_num {w : Str} {v : Nat} : decide (Str.ofString (toString ((v : Nat) : Int)) = w) = decide (TL.numL v = chs w) := by
  rw [Bool.eq_iff_iff, decide_eq_true_eq, decide_eq_true_eq, ← numT_chs]
  exact ⟨fun e => by rw [e], fun e => str_ext e⟩
theorem int_txt {w : Str} (h : digs (chs w) = true) (hl : w.length ≤ 4300) : PySem.intText? w = some ((valL (chs w) : Nat) : Int) :=
  PySem.intText_digits (digs_all h).1 (digs_all h).2 hl
/-- the size that a word denotes, by the law's own look -/
def szO (w : Str) : Option Nat := if w.length ≤ 7 ∧ digs (chs w) = true ∧ (chs w).head? ≠ some 48 ∧ valL (chs w) ≤ 1000000 then some (valL (chs w)) else none
theorem szO_num {w : Str} {v : Nat} : szO w = some v ↔ numO w 7 = some v ∧ 1 ≤ v ∧ v ≤ 1000000 := by
  unfold szO numO
  constructor
  · intro h
    split at h
    · rename_i q
      cases h
      obtain ⟨q1, q2, q3, q4⟩ := q
      obtain ⟨d1, d2⟩ := digs_all q2
      rw [if_pos ⟨q1, q2, (canon _ d1 d2).mpr (.inr q3)⟩]
      refine ⟨rfl, ?_, q4⟩
      cases e : chs w with
      | nil => exact absurd e d2
      | cons c l =>
        rw [e] at q3 d1
        have := d1 c (by simp)
        have h48 : c ≠ 48 := fun z => q3 (by rw [z]; rfl)
        exact val_pos (by omega)
    · cases h
  · rintro ⟨h, h1, h2⟩
    split at h
    · rename_i q
      cases h
      obtain ⟨q1, q2, q3⟩ := q
      obtain ⟨d1, d2⟩ := digs_all q2
      refine if_pos ⟨q1, q2, ?_, h2⟩
      rcases (canon _ d1 d2).mp q3 with z | z
      · rw [z] at h1
        exact absurd h1 (by decide)
      · exact z
    · cases h
theorem szD_num (w : Str) : szD (numOD w 7) = (szO w).isSome := by
  unfold numOD
  cases e : numO w 7 with
  | none =>
    cases e2 : szO w with
    | none => rfl
    | some v => rw [(szO_num.mp e2).1] at e; cases e
  | some v =>
    show (decide ((1 : Int) ≤ (v : Nat)) && decide (((v : Nat) : Int) ≤ 1000000)) = _
    by_cases q : 1 ≤ v ∧ v ≤ 1000000
    · rw [szO_num.mpr ⟨e, q.1, q.2⟩]
      simp only [Option.isSome_some, Bool.and_eq_true, decide_eq_true_eq]
      omega
    · have : szO w = none := by
        cases e2 : szO w with
        | none => rfl
        | some u =>
          have := szO_num.mp e2
          rw [e] at this
          cases this.1
          exact absurd this.2 q
      rw [this]
      simp only [Option.isSome_none, Bool.and_eq_false_iff, decide_eq_false_iff_not]
      omega
def szV (w : Str) : Int := (valL (chs w) : Nat)
theorem szO_val {w : Str} {v : Nat} (h : szO w = some v) : (v : Int) = szV w := by
  unfold szO at h
  split at h
  · cases h; rfl
  · cases h
theorem numOD_val {w : Str} (h : (szO w).isSome = true) : numOD w 7 = .int (szV w) := by
  obtain ⟨v, e⟩ := Option.isSome_iff_exists.mp h
  unfold numOD
  rw [(szO_num.mp e).1, ← szO_val e]
theorem szV_in {w : Str} (h : (szO w).isSome = true) : 1 ≤ szV w ∧ szV w ≤ 10 ^ 6 := by
  obtain ⟨v, e⟩ := Option.isSome_iff_exists.mp h
  have := szO_num.mp e
  rw [← szO_val e]
  omega
/-- the sizes of a word -/
def szsO (ws : List Str) (most : Nat) : Option (List Int) := if ws.length ≤ most ∧ (ws.all fun w => (szO w).isSome) = true then some (ws.map szV) else none
def szsD (w : Str) (most : Nat) : PyData := match szsO (Txt.split w ",") most with
  | some xs => sizesD xs
  | none => .none
/-- what a word denotes at its place -/
def partD (i : Nat) (w : Str) : PyData := if i = 0 then szsD w 20 else if i = 1 then (if w = "/" then .str w else .none) else if i = 2 then (if w = "-" then .tuple [] else szsD w 20) else .none
def partsD (ws : List Str) : List PyData := ws.zipIdx.map fun p => partD p.2 p.1
/-- the first None among them -/
def firstN : Nat → List PyData → Option Nat
  | _, [] => none
  | i, d :: ds => if isN d = true then some i else firstN (i + 1) ds
def twoD : List PyData → PyData
  | [a, _, b] => .tuple [a, b]
  | _ => .none
def parseR (s : Str) : Sum Nat PyData := match firstN 0 (partsD (Txt.split s " ")) with
  | some j => .inl j
  | none => if (Txt.split s " ").length = 3 then .inr (twoD (partsD (Txt.split s " "))) else .inl (Txt.split s " ").length
theorem partsD_length (ws : List Str) : (partsD ws).length = ws.length := by simp [partsD]
theorem partsD_get {ws : List Str} {i : Nat} {w : Str} (h : ws[i]? = some w) : (partsD ws)[i]? = some (partD i w) := by
  unfold partsD
  rw [List.getElem?_map, List.getElem?_zipIdx, h]
  simp
theorem firstN_none : ∀ {ds : List PyData} {i : Nat}, firstN i ds = none → ∀ d ∈ ds, isN d = false
  | [], _, _ => fun _ h => nomatch h
  | d :: ds, i, h => by
    unfold firstN at h
    cases e : isN d with
    | true => rw [e, if_pos rfl] at h; cases h
    | false =>
      rw [e, if_neg Bool.false_ne_true] at h
      intro x hx
      rcases List.mem_cons.mp hx with rfl | hx
      · exact e
      · exact firstN_none h x hx
theorem firstN_eq : ∀ {ds : List PyData} {i k : Nat} {d : PyData}, ds[k]? = some d → isN d = true → (∀ x ∈ ds.take k, isN x = false) → firstN i ds = some (i + k)
  | [], _, _, _, h, _, _ => by simp at h
  | e :: ds, i, 0, d, h, hd, _ => by
    simp at h; subst h
    unfold firstN
    rw [hd, if_pos rfl]; rfl
  | e :: ds, i, k + 1, d, h, hd, hno => by
    unfold firstN
    rw [hno e (by simp), if_neg Bool.false_ne_true, firstN_eq (i := i + 1) (k := k) (by simpa using h) hd fun x hx => hno x (by simp [hx])]
    congr 1; omega
theorem firstN_all : ∀ {ds : List PyData} {i : Nat}, (∀ d ∈ ds, isN d = false) → firstN i ds = none
  | [], _, _ => rfl
  | e :: ds, i, h => by
    unfold firstN
    rw [h e (by simp), if_neg Bool.false_ne_true]
    exact firstN_all fun d hd => h d (by simp [hd])
theorem isi_ns {d : PyData} (h : ∀ s, d ≠ .str s) : isiB (tyD d) "str" = false := by
  cases d with
  | str s => exact absurd rfl (h s)
  | none => exact (show isiB "NoneType" "str" = false by decide +kernel)
  | bool _ => exact (show isiB "bool" "str" = false by decide +kernel)
  | int _ => exact (show isiB "int" "str" = false by decide +kernel)
  | list _ => exact (show isiB "list" "str" = false by decide +kernel)
  | tuple _ => exact (show isiB "tuple" "str" = false by decide +kernel)
  | dict _ => exact (show isiB "dict" "str" = false by decide +kernel)
theorem zip_self (ds : List PyData) : zipD ds ds = ds.map fun x => .tuple [x, x] := by
  unfold zipD
  induction ds with
  | nil => rfl
  | cons d ds ih => rw [List.zip_cons_cons, List.map_cons, ih, List.map_cons]
theorem enumD_strs (ws : List Str) : enumD (ws.map .str) = ws.zipIdx.map fun p => .tuple [.int (p.2 : Nat), .str p.1] := by
  unfold enumD
  rw [List.zipIdx_map, List.map_map]
  rfl
theorem val_lt : ∀ {l : List Nat}, NumText.AllDigits l → valL l < 10 ^ l.length := by
  suffices h : ∀ (r : List Nat), NumText.AllDigits r.reverse → valL r.reverse < 10 ^ r.length by
    intro l h1
    have := h l.reverse (by rwa [List.reverse_reverse])
    rwa [List.reverse_reverse, List.length_reverse] at this
  intro r
  induction r with
  | nil => intro _; decide
  | cons c r ih =>
    intro hd
    rw [List.reverse_cons] at hd ⊢
    have hc := hd c (by simp)
    have := ih fun d hd' => hd d (by simp at hd' ⊢; exact .inl hd')
    rw [val_snoc, List.length_cons, Nat.pow_succ]
    omega
theorem val_log {l : List Nat} (h : NumText.AllDigits l) (hl : l.length ≤ 500) : ((valL l : Nat) : Int).natAbs.log2 < 1920 := by
  rw [Int.natAbs_natCast]
  have h1 := val_lt h
  have h2 : 10 ^ l.length ≤ 10 ^ 500 := Nat.pow_le_pow_right (by decide) hl
  have h3 : 10 ^ 500 < 2 ^ 1920 := by decide +kernel
  by_cases h0 : valL l = 0
  · rw [h0]; decide
  · exact (Nat.log2_lt h0).mpr (by omega)
def wt (ws : List Str) : Nat := (ws.map (·.length)).sum + ws.length
theorem wt_app (a b : List Str) : wt (a ++ b) = wt a + wt b := by
  unfold wt
  rw [List.map_append, List.sum_append, List.length_append]; omega
theorem wt_take (k : Nat) (a : List Str) : wt (a.take k) ≤ wt a := by
  have := wt_app (a.take k) (a.drop k)
  rw [List.take_append_drop] at this
  omega
theorem wt_drop (k : Nat) (a : List Str) : wt (a.drop k) ≤ wt a := by
  have := wt_app (a.take k) (a.drop k)
  rw [List.take_append_drop] at this
  omega
theorem wt_cut (a : List Str) (lo hi : Option Int) : wt (cutG a lo hi) ≤ wt a := by
  unfold cutG
  exact Nat.le_trans (wt_take _ _) (wt_drop _ _)
theorem wt_mem {ws : List Str} {w : Str} (h : w ∈ ws) : w.length ≤ wt ws := by
  induction ws with
  | nil => cases h
  | cons a ws ih =>
    have e : wt (a :: ws) = a.length + 1 + wt ws := by unfold wt; simp; omega
    rcases List.mem_cons.mp h with rfl | h
    · omega
    · have := ih h; omega
theorem wt_split {s y : Str} (hy : 1 ≤ y.length) : wt (Txt.split s y) ≤ s.length + 1 := split_weight s y hy
theorem wt_len (ws : List Str) : ws.length ≤ wt ws := by unfold wt; omega
theorem wt_join (ws : List Str) (y : Str) (hy : y.length = 1) : (Txt.join y ws).length ≤ wt ws := by
  rw [show Txt.join y ws = Str.join y ws from StrLaws.glued_eq_join y ws]
  have := StrLaws.join_length_le y ws
  rw [hy, Nat.mul_one] at this
  exact this
theorem wt_jb (ws : List Str) (y : Str) (hy : y.length = 1) : (ws.map (·.length)).sum + ws.length * y.length = wt ws := by
  rw [hy, Nat.mul_one]; rfl
def Ch3 (s : Str) : Prop := ∀ c ∈ chs s, c < 1000
theorem Ch3.app {a b : Str} (ha : Ch3 a) (hb : Ch3 b) : Ch3 (a ++ b) := fun c hc => by
  rw [chs_app] at hc
  exact (List.mem_append.mp hc).elim (ha c) (hb c)
theorem Ch3.cut {a : Str} (ha : Ch3 a) (lo hi : Option Int) : Ch3 (cutS a lo hi) := fun c hc => ha c (List.mem_of_mem_drop (List.mem_of_mem_take (by simpa [cutS, chs] using hc)))
theorem Ch3.rep {a : Str} (ha : Ch3 a) (m : Nat) : Ch3 (repS a (m : Nat)) := fun c hc => by
  have hc : c ∈ (List.replicate m (chs a)).flatten := by simpa [repS, chs] using hc
  obtain ⟨l, hl, hcl⟩ := List.mem_flatten.mp hc
  rw [List.eq_of_mem_replicate hl] at hcl
  exact ha c hcl
theorem joinL_mem {S : List Nat} {c : Nat} : ∀ {ws : List (List Nat)}, c ∈ TL.joinL S ws → c ∈ S ∨ ∃ w ∈ ws, c ∈ w
  | [], h => nomatch h
  | [p], h => .inr ⟨p, by simp, h⟩
  | p :: q :: r, h => by
    rcases List.mem_append.mp (show c ∈ p ++ (S ++ TL.joinL S (q :: r)) from h) with h | h
    · exact .inr ⟨p, by simp, h⟩
    rcases List.mem_append.mp h with h | h
    · exact .inl h
    rcases joinL_mem h with h | ⟨w, hw, hc⟩
    · exact .inl h
    · exact .inr ⟨w, List.mem_cons_of_mem _ hw, hc⟩
theorem mem_joinL {S : List Nat} {c : Nat} : ∀ {ws : List (List Nat)} {w : List Nat}, w ∈ ws → c ∈ w → c ∈ TL.joinL S ws
  | [], _, h, _ => nomatch h
  | [p], w, h, hc => by rw [List.mem_singleton.mp h] at hc; exact hc
  | p :: q :: r, w, h, hc => by
    show c ∈ p ++ (S ++ TL.joinL S (q :: r))
    rcases List.mem_cons.mp h with rfl | h
    · exact List.mem_append_left _ hc
    · exact List.mem_append_right _ (List.mem_append_right _ (mem_joinL h hc))
theorem Ch3.join {y : Str} {ws : List Str} (hy : Ch3 y) (h : ∀ w ∈ ws, Ch3 w) : Ch3 (Txt.join y ws) := fun c hc => by
  rw [show Txt.join y ws = Str.join y ws from StrLaws.glued_eq_join y ws] at hc
  have hc : c ∈ TL.joinL (chs y) (ws.map TL.tl) := (TL.tl_join y ws) ▸ hc
  rcases joinL_mem hc with h1 | ⟨l, hl, hcl⟩
  · exact hy c h1
  · obtain ⟨w, hw, rfl⟩ := List.mem_map.mp hl
    exact h w hw c hcl
theorem Ch3.split {s y : Str} (hs : Ch3 s) : ∀ w ∈ Txt.split s y, Ch3 w := fun w hw c hc => by
  refine hs c ?_
  have e := StrLaws.join_split s y
  have : c ∈ TL.joinL (chs y) ((Txt.split s y).map TL.tl) := mem_joinL (List.mem_map_of_mem hw) hc
  rw [← e]
  show c ∈ TL.tl (Str.join y (Txt.split s y))
  rw [TL.tl_join]
  exact this
theorem mem_cutW {α : Type} {ws : List α} {lo hi : Option Int} {w : α} (h : w ∈ cutG ws lo hi) : w ∈ ws := List.mem_of_mem_drop (List.mem_of_mem_take h)
theorem Ch3.ok {s : Str} (h : Ch3 s) : PyData.strOk s = true := by
  unfold PyData.strOk
  rw [Array.all_eq_true']
  intro c hc
  have := h c (by simpa [chs] using hc)
  simp; omega
theorem Ch3.num (z : Int) : Ch3 (numT z) := fun c hc => by
  have h1 : c ∈ (Str.ofString (toString z)).cps.toList := hc
  have h2 : ¬ (c ≠ 45 ∧ (c < 48 ∨ 57 < c)) := fun h => int_text_free' c h z h1
  omega
theorem Ch3.hall {F P : List Int} : Ch3 (hallT F P) := by
  have hj : ∀ xs : List Int, Ch3 (joinT xs) := fun xs => Ch3.join (by intro c hc; have : chs ("," : Str) = [44] := by decide +kernel
                                                                      rw [this] at hc; simp at hc; omega) fun w hw => by
    obtain ⟨x, _, rfl⟩ := List.mem_map.mp hw
    exact Ch3.num x
  have hd : Ch3 ("-" : Str) := by
    intro c hc
    have : chs ("-" : Str) = [45] := by decide +kernel
    rw [this] at hc; simp at hc; omega
  have hs : Ch3 (" / " : Str) := by
    intro c hc
    have : chs (" / " : Str) = [32, 47, 32] := by decide +kernel
    rw [this] at hc; simp at hc; omega
  unfold hallT pairsT
  refine Ch3.app (Ch3.app (hj F) hs) ?_
  split
  · exact hd
  · exact hj P
theorem cut_mapG {α β : Type} (f : α → β) (xs : List α) (lo hi : Option Int) : cutG (xs.map f) lo hi = (cutG xs lo hi).map f := by
  unfold cutG
  rw [List.length_map, List.map_take, List.map_drop]
def sgns56 : List PyData := [.str "0", .str "1", .str "5", .str "9", .str "-", .str " ", .str "+", .str "_", .str ",", .str ":", .str "/", .str "x"]
theorem sgn56_ok {d : PyData} (h : d ∈ sgns56) : ∃ g : Str, d = .str g ∧ g.length = 1 ∧ Ch3 g := by
  have key : ∀ (g : Str), (decide (g.length = 1) && (chs g).all (fun c => decide (c < 1000))) = true → ∃ g' : Str, PyData.str g = .str g' ∧ g'.length = 1 ∧ Ch3 g' := fun g hg => by
    rw [Bool.and_eq_true, decide_eq_true_eq, List.all_eq_true] at hg
    exact ⟨g, rfl, hg.1, fun c hc => of_decide_eq_true (hg.2 c hc)⟩
  simp only [sgns56, List.mem_cons, List.not_mem_nil, or_false] at h
  rcases h with rfl | rfl | rfl | rfl | rfl | rfl | rfl | rfl | rfl | rfl | rfl | rfl <;> exact key _ (by decide +kernel)
def SmK : Nat → PyData → Prop
  | 0, d => d = .none ∨ (∃ s, d = .str s) ∨ ∃ i, d = .int i
  | j + 1, d => (d = .none ∨ (∃ s, d = .str s) ∨ ∃ i, d = .int i) ∨ ∃ ds, d = .tuple ds ∧ ds.length ≤ 1000 ∧ ∀ x ∈ ds, SmK j x
structure Tx (k : Nat) (s : Str) : Prop where
  ch : Ch3 s
  l : s.length ≤ k
theorem Tx.app {a b : Nat} {s t : Str} (h1 : Tx a s) (h2 : Tx b t) : Tx (a + b) (s ++ t) := ⟨h1.ch.app h2.ch, by rw [app_len]; have := h1.l; have := h2.l; omega⟩
theorem Tx.mono {a b : Nat} {s : Str} (h : Tx a s) (hl : a ≤ b) : Tx b s := ⟨h.ch, Nat.le_trans h.l hl⟩
theorem repS_len (z : Str) (m : Nat) : (repS z (m : Nat)).length = z.length * m := by
  unfold repS Str.length
  simp [List.length_flatten, Nat.mul_comm]
end DL
set_option maxHeartbeats 0
namespace DL
open PySem PySem.Spec PyProof.Rows L2
theorem chs_joinT (xs : List Int) : chs (joinT xs) = TL.joinL [44] (xs.map fun x => chs (numT x)) := by
  unfold joinT
  rw [show Txt.join "," (xs.map numT) = Str.join "," (xs.map numT) from StrLaws.glued_eq_join _ _]
  have h := TL.tl_join "," (xs.map numT)
  have e : TL.tl ("," : Str) = [44] := by decide +kernel
  rw [e, List.map_map] at h
  exact h
theorem joinT_mem {xs : List Int} {c : Nat} (h : c ∈ chs (joinT xs)) : c = 44 ∨ ∃ x ∈ xs, c ∈ chs (numT x) := by
  rw [chs_joinT] at h
  rcases joinL_mem h with h | ⟨l, hl, hc⟩
  · exact .inl (List.mem_singleton.mp h)
  · obtain ⟨x, hx, rfl⟩ := List.mem_map.mp hl
    exact .inr ⟨x, hx, hc⟩
theorem joinT_32 (xs : List Int) : 32 ∉ chs (joinT xs) := fun h => by
  rcases joinT_mem h with h | ⟨x, _, h⟩
  · exact absurd h (by decide)
  · exact num32 x h
theorem pairsT_32 (xs : List Int) : 32 ∉ chs (pairsT xs) := by
  unfold pairsT
  split
  · decide +kernel
  · exact joinT_32 xs
theorem split_S1 (l : List Nat) (c : Nat) (hc : c < 256) : Txt.split (SX.S l) (SX.S [c]) = (TL.spl [c] 0 [] l).map SX.S := SX.split_S (List.cons_ne_nil _ _) (by simp [hc])
theorem S_chs (s : Str) : SX.S (chs s) = s := TL.mk_tl s
theorem split_hall (F P : List Int) : Txt.split (hallT F P) " " = [joinT F, "/", pairsT P] := by
  have e : hallT F P = SX.S (TL.joinL [32] [chs (joinT F), [47], chs (pairsT P)]) := str_ext (by
    unfold hallT
    rw [chs_app, chs_app]
    have : chs (" / " : Str) = [32, 47, 32] := by decide +kernel
    rw [this]
    show _ = chs (joinT F) ++ ([32] ++ ([47] ++ ([32] ++ chs (pairsT P))))
    simp)
  have e2 : (" " : Str) = SX.S [32] := by decide +kernel
  rw [e, e2, split_S1 _ _ (by decide), TL.spl_join (List.cons_ne_nil _ _) (fun p hp => by
    simp only [List.mem_cons, List.not_mem_nil, or_false] at hp
    rcases hp with rfl | rfl | rfl
    · exact joinT_32 F
    · decide
    · exact pairsT_32 P)]
  show [SX.S (chs (joinT F)), SX.S [47], SX.S (chs (pairsT P))] = _
  rw [S_chs, S_chs, show (SX.S [47] : Str) = "/" by decide +kernel]
theorem split_joinT {xs : List Int} (h : xs ≠ []) : Txt.split (joinT xs) "," = xs.map numT := by
  have e : joinT xs = SX.S (TL.joinL [44] (xs.map fun x => chs (numT x))) := str_ext (chs_joinT xs)
  have e2 : ("," : Str) = SX.S [44] := by decide +kernel
  rw [e, e2, split_S1 _ _ (by decide), TL.spl_join (by simpa using h) (fun p hp => by
    obtain ⟨x, _, rfl⟩ := List.mem_map.mp hp
    exact num44 x), List.map_map]
  exact List.map_congr_left fun x _ => S_chs (numT x)
theorem split_dash : Txt.split ("-" : Str) "," = [("-" : Str)] := by
  have e : ("-" : Str) = SX.S (TL.joinL [44] [[45]]) := by decide +kernel
  have e2 : ("," : Str) = SX.S [44] := by decide +kernel
  rw [e, e2, split_S1 _ _ (by decide), TL.spl_join (List.cons_ne_nil _ _) (fun p hp => by
    rw [List.mem_singleton.mp hp]; decide)]
  decide +kernel
theorem szO_numT {x : Int} (h : 1 ≤ x ∧ x ≤ 10 ^ 6) : (szO (numT x)).isSome = true ∧ szV (numT x) = x := by
  obtain ⟨v, rfl⟩ := Int.eq_ofNat_of_zero_le (show 0 ≤ x by omega)
  have e : chs (numT ((v : Nat) : Int)) = TL.numL v := TL.tl_num v
  have hv : valL (TL.numL v) = v := TL.numL_val v
  have h0 : szO (numT ((v : Nat) : Int)) = some v := szO_num.mpr ⟨numO_numT (by omega), by omega, by omega⟩
  refine ⟨by rw [h0]; rfl, ?_⟩
  unfold szV
  rw [e, hv]
where
  numO_numT {v : Nat} (h : v ≤ 1000000) : numO (numT ((v : Nat) : Int)) 7 = some v := by
    unfold numO
    have e : chs (numT ((v : Nat) : Int)) = TL.numL v := TL.tl_num v
    have e2 : valL (TL.numL v) = v := TL.numL_val v
    rw [len_chs, e, if_pos ⟨TL.numL_len (by decide) (by omega), digs_of (TL.numL_digits v) (TL.numL_ne v), by rw [e2]⟩, e2]
theorem szsD_joinT {xs : List Int} (h : xs ≠ []) (hl : xs.length ≤ 20) (hi : In1 (10 ^ 6) xs) : szsD (joinT xs) 20 = sizesD xs := by
  unfold szsD szsO
  rw [split_joinT h, if_pos ⟨by rw [List.length_map]; exact hl, by
    rw [List.all_eq_true]
    intro w hw
    obtain ⟨x, hx, rfl⟩ := List.mem_map.mp hw
    exact (szO_numT (hi x hx)).1⟩]
  show sizesD ((xs.map numT).map szV) = sizesD xs
  congr 1
  rw [List.map_map]
  conv => rhs; rw [← List.map_id xs]
  exact List.map_congr_left fun x hx => (szO_numT (hi x hx)).2
theorem pairsT_dash {P : List Int} (h : In1 (10 ^ 6) P) : pairsT P = "-" ↔ P = [] := by
  constructor
  · intro e
    apply Classical.byContradiction
    intro hne
    unfold pairsT at e
    rw [if_neg hne] at e
    exact dash_not (in_t h) hne (by rw [e]; decide +kernel)
  · rintro rfl; rfl
theorem parse_hallT {F P : List Int} (hh : HallOk F P) (hf : F.length ≤ 20) (hp : P.length ≤ 20) : parseR (hallT F P) = .inr (hallD F P) := by
  have hF : F ≠ [] := fun e => by have := hh.f1; rw [e] at this; cases this
  have e1 : partsD [joinT F, "/", pairsT P] = [sizesD F, .str "/", sizesD P] := by
    show [partD 0 (joinT F), partD 1 "/", partD 2 (pairsT P)] = _
    have a : partD 0 (joinT F) = sizesD F := szsD_joinT hF hf hh.fi
    have b : partD 1 "/" = .str "/" := rfl
    have c : partD 2 (pairsT P) = sizesD P := by
      show (if pairsT P = "-" then PyData.tuple [] else szsD (pairsT P) 20) = _
      by_cases e : P = []
      · subst e; rfl
      · rw [if_neg fun q => e ((pairsT_dash hh.pi).mp q)]
        unfold pairsT
        rw [if_neg e]
        exact szsD_joinT e hp hh.pi
    rw [a, b, c]
  unfold parseR
  rw [split_hall, e1]
  rfl
theorem numT_szV {p : Str} (h : (szO p).isSome = true) : numT (szV p) = p := by
  obtain ⟨v, e⟩ := Option.isSome_iff_exists.mp h
  have h1 := (szO_num.mp e).1
  unfold numO at h1
  split at h1
  · rename_i q
    apply str_ext
    have : chs (numT (szV p)) = TL.numL (valL (chs p)) := TL.tl_num _
    rw [this]; exact q.2.2
  · cases h1
theorem szsD_some {w : Str} {m : Nat} (h : isN (szsD w m) = false) : ∃ xs : List Int, szsD w m = sizesD xs ∧ xs ≠ [] ∧ xs.length ≤ m ∧ In1 (10 ^ 6) xs ∧ joinT xs = w := by
  unfold szsD szsO at h ⊢
  split at h
  · rename_i xs e
    split at e
    · rename_i q
      cases e
      have hall := List.all_eq_true.mp q.2
      refine ⟨_, rfl, fun e => ?_, by rw [List.length_map]; exact q.1, fun x hx => ?_, ?_⟩
      · have := split_pos w ","
        rw [List.map_eq_nil_iff] at e
        rw [e] at this
        exact absurd this (by decide)
      · obtain ⟨p, hp, rfl⟩ := List.mem_map.mp hx
        exact szV_in (hall p hp)
      · unfold joinT
        rw [List.map_map]
        have e : (Txt.split w ",").map (numT ∘ szV) = Txt.split w "," := by
          conv => rhs; rw [← List.map_id (Txt.split w ",")]
          exact List.map_congr_left fun p hp => numT_szV (hall p hp)
        rw [e]
        exact (StrLaws.glued_eq_join _ _).trans (StrLaws.join_split w ",")
    · cases e
  · cases h
theorem parse_acc {s : Str} {p : PyData} (h : parseR s = .inr p) : ∃ F P : List Int, p = hallD F P ∧ HallOk F P ∧ F.length ≤ 20 ∧ P.length ≤ 20 ∧ hallT F P = s := by
  unfold parseR at h
  split at h
  · cases h
  · rename_i hf
    split at h
    · rename_i h3
      cases h
      have hj := StrLaws.join_split s " "
      have hno := firstN_none hf
      generalize Txt.split s " " = ws at *
      match ws, h3 with
      | [a, b, c], _ =>
        have e : partsD [a, b, c] = [partD 0 a, partD 1 b, partD 2 c] := rfl
        rw [e] at hno ⊢
        have h0 := hno (partD 0 a) (by simp)
        have h1 := hno (partD 1 b) (by simp)
        have h2 := hno (partD 2 c) (by simp)
        obtain ⟨F, f1, f2, f3, f4, f5⟩ := szsD_some (show isN (szsD a 20) = false from h0)
        have hb : b = "/" := by
          have h1 : isN (if b = "/" then PyData.str b else .none) = false := h1
          by_cases q : b = "/"
          · exact q
          · rw [if_neg q] at h1; cases h1
        obtain ⟨P, p1, p2, p3, p4⟩ : ∃ P : List Int, partD 2 c = sizesD P ∧ P.length ≤ 20 ∧ In1 (10 ^ 6) P ∧ pairsT P = c := by
          have h2 : isN (if c = "-" then PyData.tuple [] else szsD c 20) = false := h2
          by_cases q : c = "-"
          · exact ⟨[], by show (if c = "-" then PyData.tuple [] else szsD c 20) = _; rw [if_pos q]; rfl, Nat.zero_le _, (fun _ h => nomatch h), q.symm⟩
          · rw [if_neg q] at h2
            obtain ⟨P, p1, p2, p3, p4, p5⟩ := szsD_some h2
            exact ⟨P, by show (if c = "-" then PyData.tuple [] else szsD c 20) = _; rw [if_neg q]; exact p1, p3, p4, by unfold pairsT; rw [if_neg p2]; exact p5⟩
        have f1 : partD 0 a = sizesD F := f1
        refine ⟨F, P, by rw [f1, p1]; rfl, ⟨by have := List.length_pos_iff.mpr f2; omega, by omega, by omega, f4, p3⟩, f3, p2, ?_⟩
        rw [← hj]
        apply str_ext
        unfold hallT
        rw [chs_app, chs_app, f5, p4, hb]
        have e1 : chs (" / " : Str) = [32, 47, 32] := by decide +kernel
        have e2 : chs (Str.join " " [a, "/", c]) = TL.joinL (TL.tl " ") [chs a, chs "/", chs c] := TL.tl_join " " [a, "/", c]
        have e3 : TL.tl (" " : Str) = [32] := by decide +kernel
        have e4 : chs ("/" : Str) = [47] := by decide +kernel
        rw [e1, e2, e3, e4]
        show _ = chs a ++ ([32] ++ ([47] ++ ([32] ++ chs c)))
        simp
    · cases h
theorem left_cntP {F P : List Int} {run : List (Int × Int)} (hf : 1 ≤ F.length) (h : RunV anyR F P run) : srv run + (leftL P.length run).length = P.length := by
  have e := (turn_v h).len
  rw [exI_len] at e
  unfold turnR at e
  rw [List.length_append, List.length_map, List.length_map] at e
  have s : (run.filter fun q => decide (q.2 ≠ -1)) = run.filter fun q => decide (0 ≤ q.2) := List.filter_congr fun q hq => by
    have := (h.snd hq).1
    exact decide_eq_decide.mpr (by omega)
  unfold srv
  rw [s]
  exact e
theorem joinT_snoc {F : List Int} (h : F ≠ []) (z : Int) : joinT (F ++ [z]) = joinT F ++ "," ++ numT z := by
  apply str_ext
  rw [chs_app, chs_app]
  have e : chs ("," : Str) = [44] := by decide +kernel
  rw [e]
  cases F with
  | nil => exact absurd rfl h
  | cons x F =>
    rw [List.cons_append, joinT_cons, joinT_cons]
    unfold tailT
    rw [List.flatMap_append]
    simp
theorem pairsT_of {P : List Int} (h : P ≠ []) : pairsT P = joinT P := if_neg h
theorem split_pairsT (P : List Int) : Txt.split (pairsT P) "," = if P = [] then [("-" : Str)] else P.map numT := by
  by_cases h : P = []
  · subst h; exact split_dash
  · rw [pairsT_of h, if_neg h]; exact split_joinT h
theorem wt_rev (ws : List Str) : wt ws.reverse = wt ws := by
  unfold wt
  rw [List.map_reverse, List.sum_reverse, List.length_reverse]
theorem turned_eq (xs : List Int) : Txt.join "," (Txt.split (pairsT xs) ",").reverse = pairsT xs.reverse := by
  rw [split_pairsT]
  by_cases h : xs = []
  · subst h
    decide +kernel
  · rw [if_neg h, ← List.map_reverse, pairsT_of (by simpa using h)]
    rfl
theorem hallT_len {F P : List Int} (hh : HallOk F P) : (hallT F P).length ≤ 700 := by
  have q1 := join_len hh.fi
  have q2 := pairsT_len hh.pi
  have q3 : (" / " : Str).length = 3 := by decide +kernel
  have := hh.f2
  have := hh.p2
  unfold hallT
  rw [app_len, app_len]; omega
theorem eqv_strsA : ∀ a b : List Str, PyData.eqvAll (a.map .str) (b.map .str) = decide (a = b)
  | [], [] => rfl
  | [], _ :: _ => rfl
  | _ :: _, [] => rfl
  | x :: xs, y :: ys => by
    show (PyData.eqv (.str x) (.str y) && PyData.eqvAll (xs.map .str) (ys.map .str)) = _
    rw [eqv_strsA xs ys, show PyData.eqv (.str x) (.str y) = decide (x = y) by
      show (x == y) = decide (x = y)
      rw [Bool.eq_iff_iff, beq_iff_eq, decide_eq_true_eq]]
    by_cases h1 : x = y <;> by_cases h3 : xs = ys <;> simp [h1, h3]
theorem eqv_strs (a b : List Str) : PyData.eqv (.list (a.map .str)) (.list (b.map .str)) = decide (a = b) := eqv_strsA a b
theorem sh_strs {ws : List Str} (h : ∀ w ∈ ws, Ch3 w) : Sh (.list (ws.map .str)) :=
  Bool.and_eq_true_iff.mpr ⟨by simp only [PyData.canLay0]; exact canAll fun d hd => by obtain ⟨w, hw, rfl⟩ := List.mem_map.mp hd; exact (h w hw).ok, decide_eq_true (by
    simp only [PyData.depth]
    exact Nat.le_trans (Nat.succ_le_succ (depthAll_le (k := 0) fun d hd => by obtain ⟨_, _, rfl⟩ := List.mem_map.mp hd; exact Nat.le_refl _)) (by decide))⟩
theorem ch_join (xs : List Int) : Ch3 (joinT xs) := fun c hc => by
  rcases joinT_mem hc with rfl | ⟨x, _, h⟩
  · decide
  · exact Ch3.num x c h
theorem ch_pairs (xs : List Int) : Ch3 (pairsT xs) := by
  unfold pairsT
  split
  · intro c hc
    have : chs ("-" : Str) = [45] := by decide +kernel
    rw [this] at hc; simp at hc; omega
  · exact ch_join xs
theorem ch_slash : Ch3 ("/" : Str) := by
  intro c hc
  have : chs ("/" : Str) = [47] := by decide +kernel
  rw [this] at hc; simp at hc; omega
theorem ch_comma : Ch3 ("," : Str) := by
  intro c hc
  have : chs ("," : Str) = [44] := by decide +kernel
  rw [this] at hc; simp at hc; omega
end DL
set_option maxHeartbeats 0
namespace DL
open PySem PySem.Spec PyProof.Rows L2
def topS (i : Nat) : Stmt := PySem.Challenge.pw_shoeparty_k63_whole_texts_there_and_back.main.body.getD i (.Pass ⟨0, 0, 0, 0⟩)
structure CA where
  PartyError : Addr
  BadText : Addr
structure Bn (K : PySem.W.Frag) (mg : Str → Option Value) (C : CA) : Prop where
  ValueError : mg "ValueError" = none
  abs : mg "abs" = none
  all : mg "all" = none
  bool : mg "bool" = none
  enumerate : mg "enumerate" = none
  int : mg "int" = none
  isinstance : mg "isinstance" = none
  len : mg "len" = none
  list : mg "list" = none
  max : mg "max" = none
  min : mg "min" = none
  range : mg "range" = none
  sorted : mg "sorted" = none
  str : mg "str" = none
  tuple : mg "tuple" = none
  zip : mg "zip" = none
  MAX_SIZE : ∃ t, mg "MAX_SIZE" = some (.int (1000000) t)
  MAX_GUESTS : ∃ t, mg "MAX_GUESTS" = some (.int (20) t)
  MAX_PAIRS : ∃ t, mg "MAX_PAIRS" = some (.int (20) t)
  SLASH : ∃ t, mg "SLASH" = some (.str "/" t)
  NO_PAIRS : ∃ t, mg "NO_PAIRS" = some (.str "-" t)
  WORDS : ∃ t, mg "WORDS" = some (.int (3) t)
  NO_PAIR : ∃ t, mg "NO_PAIR" = some (.int (-1) t)
  g_PartyError : mg "PartyError" = some (.ref C.PartyError)
  g_BadText : mg "BadText" = some (.ref C.BadText)
  ty_BadText : PySem.W.typeIn K (.ref C.BadText) = some (.type "type")
  k_BadText : PySem.W.keepIn K (.ref C.BadText) = true
  hd_BadText : PySem.W.hasDictIn K C.BadText = true
  sa_BadText : PySem.W.findIn K (.ref C.BadText) "__setattr__" = some (some (.builtin "object.__setattr__"))
  s_BadText_BadText : PySem.W.subIn K (.ref C.BadText) (.ref C.BadText) = some true
  sb_BadText : PySem.W.subIn K (.ref C.BadText) (.type "BaseException") = some true
  n_BadText : PySem.W.findIn K (.ref C.BadText) "index" = some none
  e0_PartyError : PySem.W.excIn K C.PartyError [.type "ValueError", .type "Exception", .type "BaseException", .type "object"] "ValueError.__new__" = true
section
variable {K : PySem.W.Frag} {mg : Str → Option Value} {C : CA}
theorem Bn.m_BadText_BadText (B : Bn K mg C) : PySem.W.exmOne K (.ref C.BadText) (.ref C.BadText) = some true := PySem.W.exm_ref B.sb_BadText B.hd_BadText B.ty_BadText B.s_BadText_BadText
end
section
variable {P : Program} {w : World} {K : PySem.W.Frag} {mg : Str → Option Value} {base : Heap} {C : CA}
abbrev s__law_deck : Stmt := topS 28
abbrev s__law_draw : Stmt := topS 29
def spDeckA (K : PySem.W.Frag) : Sp := fun vs H Q _ => ∃ (a : Addr) (ns : List Int), vs = [.ref a] ∧ SqL K H a (ns.map V.int) ∧ ns.length ≤ 63 ∧
  ∀ (H' : Hp) (p q : Addr), Same H H' → H p = none → H q = none → (dkA p q).at0 H' 0 → Q (.ref p) H'
theorem scDeck : FnScope ["script", "cell"] ["script"] (defScope s__law_deck) := ⟨rfl, rfl, rfl, by decide +kernel, rfl, by decide +kernel, by decide +kernel⟩
theorem ok_deck {f : Addr} {fd : FuncData} (F : Fun K "_law_deck" "_law_deck" s__law_deck f fd) (mabs : mg "abs" = none) : FnG P w K mg base 1 f fd ["script"] (spDeckA K) := by
  refine fng_of F scDeck (fun vs H Q E ⟨a, ns, e, _⟩ => by rw [e]; rfl) fun cdv A outer s H vs Q hgd hr ⟨a, ns, e, hS, hlen, k⟩ => ?_
  subst e
  refine ⟨_, pss_one (ps_ret (pe_lst (pa_cons (pe_lc (own := [("cell", 1)]) (g := gName 1) (tt := tYes) rfl scDeck.nd (pi_list (pe_slice sl_list (pv 0) po_none (po_some pe_int)))
    (blkOk_by (N := ["script", "cell"]) (sc := defScope s__law_deck) (by decide +kernel)) (fun _ _ _ _ _ => pg_name (i := 1) scDeck.nd rfl (Or.inl rfl)) (fun _ _ _ _ _ => pts_nil)
    (fun _ _ _ _ _ => pe_callB call_abs (by rfl) mabs PyProof.Rows.boot_abs (pa_cons (pv 1) pa_nil))) (pa_cons pe_int pa_nil)))), ?_⟩
  refine ⟨_, rfl, 63, rfl, a, _, rfl, hS, fun l hl => ?_⟩
  have cut : ∃ ms : List Int, cutV (ns.map V.int) none (some 63) = ms.map V.int ∧ ms.length ≤ 63 := by
    refine ⟨cutG ns none (some 63), by unfold cutG cutV; simp, ?_⟩
    unfold cutG
    rw [List.length_take, List.length_drop]
    omega
  obtain ⟨ms, e1, e2⟩ := cut
  rw [e1]
  have s1 : Same H (upd H l (.lst (ms.map V.int))) := fun b o e => by rw [upd_ne (ne_of_none e hl)]; exact e
  refine ⟨l, rfl, ⟨_, SqL.of upd_same⟩, fun D hD => ?_⟩
  have nlD : l ≠ D := fun q => by rw [← q, upd_same] at hD; cases hD
  have hD0 : H D = none := s1.free hD
  refine lc_list (K := K) (a := l) (xs := ms.map V.int) (fun i H' => ∃ cs : List Int, cs.length ≤ i ∧ (∀ c ∈ cs, 0 ≤ c) ∧ H' = upd (upd H l (.lst (ms.map V.int))) D (.lst (cs.map V.int)))
    ⟨[], Nat.le_refl _, fun _ h => (by cases h), rfl⟩ (fun i H' _ ⟨cs, _, _, e⟩ => by rw [e]; exact SqL.of (by rw [upd_ne nlD]; exact upd_same)) (fun i x H' hx ⟨cs, hc1, hc2, e⟩ => ?_) (fun H' ⟨cs, hc1, hc2, e⟩ => ?_)
  · subst e
    rw [List.getElem?_map] at hx
    obtain ⟨z, hz, rfl⟩ := Option.map_eq_some_iff.mp hx
    have hi : i < ms.length := (List.getElem?_eq_some_iff.mp hz).1
    refine ⟨rfl, V.int z, rfl, z, rfl, cs.map V.int, upd_same, small1000 (by rw [List.length_map]; omega), cs ++ [if z < 0 then -z else z], by rw [List.length_append]; show cs.length + 1 ≤ i + 1; omega, fun c hc => ?_, ?_⟩
    · rcases List.mem_append.mp hc with q | q
      · exact hc2 c q
      · rw [List.mem_singleton.mp q]; split <;> omega
    · rw [upd_upd, List.map_append] <;> rfl
  · subst e
    refine ⟨by show 2 ≤ sizeLine; decide, fun p hp => ?_⟩
    have hp2 : upd H l (.lst (ms.map V.int)) p = none := by
      by_cases q : p = D
      · rw [q, upd_same] at hp; cases hp
      · rw [upd_ne q] at hp; exact hp
    have npD : D ≠ p := fun q => by rw [← q, upd_same] at hp; cases hp
    rw [List.length_map] at hc1
    refine k _ p D (fun b o e => ?_) (s1.free hp2) hD0 ⟨cs, upd_same, by rw [upd_ne npD]; exact upd_same, by omega, hc2⟩
    have eb := s1 b o e
    rw [upd_ne (ne_of_none eb hp2), upd_ne (ne_of_none eb hD)]
    exact eb
def drawA : DSpec := fun as n R => ∃ lim : Int, as = [.deck false, .dat (.int lim)] ∧ 1 ≤ lim ∧ lim ≤ 10 ^ 7 ∧ n.n ≤ 10 ^ 6 ∧ ∀ r : Int, 0 ≤ r → r < lim → R (.int r) (n + 1)
theorem scDraw : FnScope ["deck", "many", "cell", "place"] ["deck", "many"] (defScope s__law_draw) := ⟨rfl, rfl, rfl, by decide +kernel, rfl, by decide +kernel, by decide +kernel⟩
theorem ok_draw {f : Addr} {fd : FuncData} (F : Fun K "_law_draw" "_law_draw" s__law_draw f fd) (mlen : mg "len" = none) : FnG P w K mg base 1 f fd ["deck", "many"] (spD K 2 drawA) := by
  refine fng_of F scDraw (fun vs H Q E ⟨δ, Fz, as, n, R, hl, w1, _⟩ => by rw [← Paired.length w1]; exact hl) fun cdv A outer s H vs Q hgd hr ⟨δ, Fz, as, n, R, hl, w1, s1, d1, o1, ⟨lim, ea, hl1, hl2, hn, hR⟩, hk⟩ => ?_
  subst ea
  obtain ⟨va, vb, rfl, h1, h2⟩ := vr2 w1
  obtain ⟨a, rfl, b, rfl⟩ := h1
  simp only [VR, Rp] at h2
  subst h2
  obtain ⟨⟨cells, hA, hB, hc1, hc2⟩, hob⟩ := d1
  have nba : b ≠ a := fun q => by
    rw [q, hA] at hB
    have q2 := HO.lst.inj (Option.some.inj hB)
    cases cells with
    | nil => cases q2
    | cons x r => simp at q2
  -- what is wanted behind the body
  have fin : ∀ (H' : Hp) (cs : List Int) (r : Int), H' a = some (.lst [.ref b, .int ((n.n : Int) + 1)]) → H' b = some (.lst (cs.map V.int)) → cs.length ≤ 63 → (∀ c ∈ cs, 0 ≤ c) → (∀ c o, c ≠ a → c ≠ b → H c = some o → H' c = some o) → 0 ≤ r → r < lim → Q (.int r) H' := fun H' cs r q1 q2 q3 q4 q5 q6 q7 => by
    have out : ∀ c o, c ∉ (dkA a b).own → H c = some o → H' c = some o := fun c o hc => q5 c o (fun e => hc (by rw [e]; simp [dkA])) fun e => hc (by rw [e]; simp [dkA])
    have keepI : ∀ c C dx fs, H c = some (.ins C dx fs) → H' c = some (.ins C dx fs) := fun c C dx fs e => q5 c _ (fun z => by rw [z, hA] at e; cases e) (fun z => by rw [z, hB] at e; cases e) e
    have inn : ∀ c, c ∈ (dkA a b).own → H' c ≠ none := fun c hc => by
      simp only [dkA, List.mem_cons, List.not_mem_nil, or_false] at hc
      rcases hc with e | e <;> rw [e]
      · rw [q1]; nofun
      · rw [q2]; nofun
    refine hk (.int r) (n + 1) Fz H' _ (hR r q6 q7) ⟨Same.refl _, fun _ _ h => h, fun c o hc e _ => out c o hc e, fun c C dx fs e => ⟨fs, keepI c C dx fs e⟩, fun c hc => ?_⟩ (fun c o e => ?_) ⟨⟨cs, q1, q2, q3, q4⟩, fun c ob e => (by
      obtain ⟨h1, dx, vs, h2, h3⟩ := hob.1 c ob e
      exact ⟨h1, dx, vs, keepI _ _ _ _ h2, h3⟩), hob.2⟩ (by simp [Rp])
    · by_cases z : c ∈ (dkA a b).own
      · exact inn c z
      · obtain ⟨o, e⟩ := some_of_ne hc
        rw [out c o z e]; nofun
    · exact out c o (fun z => by rw [(o1 c z).1] at e; cases e) (s1 _ _ e)
  refine ⟨_, pss_cons (ps_asg (pe_op op_add (pe_ix ix_list (pv 0) pe_int (fun _ _ => rfl)) pe_int) (pg_sub (pv 0) pe_int set_list))
    (pss_cons (ps_set (i := 2) scDraw.nd rfl (Or.inl rfl) pe_int) (pss_cons (ps_set (i := 3) scDraw.nd rfl (Or.inl rfl) (pe_un un_neg pe_int))
    (pss_cons (ps_if (pt_cmpR op_gt (pe_callB call_len_seq (by rfl) mlen PySem.boot_len (pa_cons (pe_ix ix_list (pv 0) pe_int (fun _ _ => rfl)) pa_nil)) pe_int (nomark _))
        (pss_cons (ps_set (i := 3) scDraw.nd rfl (Or.inl rfl) (pe_op op_mod (pe_ix ix_list (pv 0) pe_int (fun _ _ => rfl)) (pe_callB call_len_seq (by rfl) mlen PySem.boot_len (pa_cons (pe_ix ix_list (pv 0) pe_int (fun _ _ => rfl)) pa_nil))))
          (pss_one (ps_set (i := 2) scDraw.nd rfl (Or.inl rfl) (pe_ix ix_list (pe_ix ix_list (pv 0) pe_int (fun _ _ => rfl)) (pv 3) (fun _ _ => rfl))))) pss_nil)
    (pss_cons (ps_if (pt_cmpR op_ge (pv 2) (pe_op op_pow pe_int pe_int) (nomark _))
        (pss_cons (ps_asg (pe_op op_fdivW (pv 2) (pv 1)) (pg_sub (pe_ix ix_list (pv 0) pe_int (fun _ _ => rfl)) (pv 3) set_list)) (pss_one (ps_ret (pe_op op_mod (pv 2) (pv 1))))) pss_nil)
    (pss_one (ps_ret (pe_op op_mod (pe_op op_mod (pe_op op_pow (pe_op op_add (pe_op op_add (pe_op op_mod (pv 2) pe_int) (pe_op op_mul pe_int (pe_ix ix_list (pv 0) pe_int (fun _ _ => rfl)))) pe_int) pe_int) pe_int) (pv 1)))))))), ?_⟩
  refine ⟨_, rfl, a, _, 1, .int n.n, rfl, rfl, SqL.of hA, rfl, n.n, 1, rfl, rfl, _, rfl, a, _, 1, 1, rfl, rfl, hA, rfl, ?_⟩
  -- behind the first row
  have hA1 : upd H a (.lst ([V.ref b, V.int n.n].set 1 (.int ((n.n : Int) + 1)))) a = some (.lst [.ref b, .int ((n.n : Int) + 1)]) := upd_same
  have hB1 : upd H a (.lst ([V.ref b, V.int n.n].set 1 (.int ((n.n : Int) + 1)))) b = some (.lst (cells.map V.int)) := by rw [upd_ne nba]; exact hB
  have hO1 : ∀ c, c ≠ a → upd H a (.lst ([V.ref b, V.int n.n].set 1 (.int ((n.n : Int) + 1)))) c = H c := fun c hc => upd_ne hc
  generalize upd H a (.lst ([V.ref b, V.int n.n].set 1 (.int ((n.n : Int) + 1)))) = H1 at hA1 hB1 hO1
  have hO2 : ∀ c o, c ≠ a → H c = some o → H1 c = some o := fun c o hc e => (hO1 c hc).trans e
  have hA2 := hA1
  have hB2 := hB1
  have cdiv : ∀ c : Int, CDivW c lim := fun c => wide_div (b := 64) (by omega) (by omega) (by decide) (by decide)
  refine ⟨1, rfl, _, rfl, a, _, 0, .ref b, rfl, rfl, SqL.of hA2, rfl, b, _, rfl, .inl (SqL.of hB2), _, 0, rfl, rfl, _, rfl, ?_⟩
  rw [List.length_map]
  -- the last row, whatever was drawn
  have last : ∀ c : Int, 0 ≤ c → ((c % 2147483587 + 7919 * ((n.n : Int) + 1) + 1).natAbs < 2 ^ 64) := fun c hc => by
    have h1 : 0 ≤ c % 2147483587 := Int.emod_nonneg _ (by decide)
    have h2 : c % 2147483587 < 2147483587 := Int.emod_lt_of_pos _ (by decide)
    omega
  have hpos : (0 : Int) < lim := by omega
  have ends : ∀ (c z : Int), 0 ≤ z % lim ∧ z % lim < lim := fun c z => ⟨Int.emod_nonneg _ (by omega), Int.emod_lt_of_pos _ hpos⟩
  by_cases hne : cells = []
  · subst hne
    refine iteF ?_
    refine ⟨_, rfl, 10, 18, rfl, rfl, ⟨by decide, by decide, by decide⟩, 0, _, rfl, rfl, _, rfl, ?_⟩
    refine iteF ?_
    refine ⟨_, rfl, 0, 2147483587, rfl, rfl, (by decide : (0 : Int) < 2147483587), _, rfl, a, _, 1, .int ((n.n : Int) + 1), rfl, rfl, SqL.of hA2, rfl, 7919, _, rfl, rfl, .inl ⟨by decide, by decide⟩, _, _, rfl, rfl, _, 1, rfl, rfl, _, 5, rfl, rfl, ⟨by decide, by decide, last 0 (Int.le_refl 0)⟩,
      _, 2147483647, rfl, rfl, (by decide : (0 : Int) < 2147483647), _, rfl, _, lim, rfl, rfl, hpos, ?_⟩
    exact fin H1 [] _ hA2 hB2 hc1 hc2 (fun c o q1 q2 e => hO2 c o q1 e) (ends 0 _).1 (ends 0 _).2
  · have hlen : 0 < cells.length := List.length_pos_iff.mpr hne
    rw [decide_eq_true (show (0 : Int) < (cells.length : Int) by omega)]
    refine iteT ?_
    have m0 : (0 : Int) ≤ ((n.n : Int) + 1) % (cells.length : Int) := Int.emod_nonneg _ (by omega)
    have m1 : ((n.n : Int) + 1) % (cells.length : Int) < (cells.length : Int) := Int.emod_lt_of_pos _ (by omega)
    obtain ⟨j, hj⟩ : ∃ j : Nat, ((n.n : Int) + 1) % (cells.length : Int) = (j : Int) := ⟨(((n.n : Int) + 1) % (cells.length : Int)).toNat, by omega⟩
    have hjl : j < cells.length := by omega
    obtain ⟨c, hc⟩ : ∃ c, cells[j]? = some c := ⟨cells[j], by simp [hjl]⟩
    have hc0 : 0 ≤ c := hc2 c (List.mem_of_getElem? hc)
    refine ⟨_, rfl, a, _, 1, .int ((n.n : Int) + 1), rfl, rfl, SqL.of hA2, rfl, _, rfl, a, _, 0, .ref b, rfl, rfl, SqL.of hA2, rfl, b, _, rfl, .inl (SqL.of hB2), _, _, rfl, rfl, (by rw [List.length_map]; omega), ?_⟩
    refine ⟨_, rfl, a, _, 0, .ref b, rfl, rfl, SqL.of hA2, rfl, _, rfl, b, _, _, .int c, rfl, rfl, SqL.of hB2, (by rw [List.length_map, hj]; exact atI_nat (by rw [List.getElem?_map, hc]; rfl)), ?_⟩
    refine ⟨_, rfl, 10, 18, rfl, rfl, ⟨by decide, by decide, by decide⟩, c, _, rfl, rfl, _, rfl, ?_⟩
    refine ite2 (fun _ => ?_) fun _ => ?_
    · refine ⟨_, rfl, _, rfl, c, lim, rfl, rfl, cdiv c, _, rfl, a, _, 0, .ref b, rfl, rfl, SqL.of hA2, rfl, _, rfl, b, _, _, j, rfl, rfl, hB2, ?_, ?_⟩
      · rw [List.length_map, hj]
        unfold ixN
        rw [if_pos (by omega), if_pos (by omega)]
        rfl
      · refine ⟨_, rfl, _, rfl, c, lim, rfl, rfl, hpos, ?_⟩
        refine fin _ (cells.set j (c / lim)) _ (by rw [upd_ne (Ne.symm nba)]; exact hA2) (by rw [upd_same, List.map_set]) (by rw [List.length_set]; exact hc1) (fun d hd => ?_) (fun d o q1 q2 e => by rw [upd_ne q2]; exact hO2 d o q1 e) (ends 0 _).1 (ends 0 _).2
        rcases List.mem_or_eq_of_mem_set hd with q | q
        · exact hc2 d q
        · rw [q]; exact Int.ediv_nonneg hc0 (by omega)
    · refine ⟨_, rfl, c, 2147483587, rfl, rfl, (by decide : (0 : Int) < 2147483587), _, rfl, a, _, 1, .int ((n.n : Int) + 1), rfl, rfl, SqL.of hA2, rfl, 7919, _, rfl, rfl, .inl ⟨by decide, by decide⟩, _, _, rfl, rfl, _, 1, rfl, rfl, _, 5, rfl, rfl, ⟨by decide, by decide, last c hc0⟩,
        _, 2147483647, rfl, rfl, (by decide : (0 : Int) < 2147483647), _, rfl, _, lim, rfl, rfl, hpos, ?_⟩
      exact fin H1 cells _ hA2 hB2 hc1 hc2 (fun c o q1 q2 e => hO2 c o q1 e) (ends 0 _).1 (ends 0 _).2
abbrev s_BadText_init : Stmt := inCls (topS 5) 0
theorem sc_BadText_init : FnScope ["self", "index"] ["self", "index"] (defScope s_BadText_init) := ⟨rfl, rfl, rfl, by decide +kernel, rfl, by decide +kernel, by decide +kernel⟩
theorem ok_BadText_init {f : Addr} {fd : FuncData} (F : Fun K "__init__" "BadText.__init__" s_BadText_init f fd) (T : OexC K C.BadText) (B : Bn K mg C) : FnOk P w K mg base CX0 1 f fd ["self", "index"] (spEI C.BadText "index") := by
  refine F.ok sc_BadText_init (fun vs H Q E ⟨a, v, e, _⟩ => by rw [e]; rfl) fun cdv A outer s H vs Q E hr ⟨a, v, e, hH, hQ⟩ => ⟨_, pss_one (ps_ost (pv 0) (pv 1)), ?_⟩
  subst e
  exact ⟨_, rfl, _, rfl, a, C.BadText, rfl, T, B.n_BadText, .inl ⟨hH, fun dx h1 h2 => hQ dx h1 h2⟩⟩
abbrev c__law_draw : DSpec := drawA
def c__law_state : DSpec := fun as n R => ∃ g m : Int, as = [.deck false, .dat (.int g), .dat (.int m)] ∧ 1 ≤ g ∧ g ≤ 20 ∧ 0 ≤ m ∧ m ≤ 20 ∧ n.n ≤ 100000 ∧ ∀ (feet pairs : List Int) n', HallOk feet pairs → feet.length ≤ 20 → pairs.length ≤ 20 → n' ≤ n + 200 → R (hallD feet pairs) n'
def c__sizes_text : DSpec := fun as n R => ∃ xs : List Int, as = [.dat (sizesD xs)] ∧ xs.length ≤ 40 ∧ In1 (10 ^ 6) xs ∧ R (.str (joinT xs)) n
def c_hall_text : DSpec := fun as n R => ∃ feet pairs : List Int, as = [.dat (hallD feet pairs)] ∧ HallOk feet pairs ∧ R (.str (hallT feet pairs)) n
def c__law_bent : DSpec := fun as n R => ∃ s : Str, as = [.deck false, .dat (.str s)] ∧ Ch3 s ∧ s.length ≤ 5000 ∧ n.n ≤ 500000 ∧ ∀ (s' : Str) n', Ch3 s' → s'.length ≤ 3 * (s.length + 1) → n' ≤ n + 6 → R (.str s') n'
def c__law_same : Nat → DSpec
  | 0 => fun _ _ _ => False
  | j + 1 => fun as n R => ∃ d : PyData, as = [.dat d, .dat d] ∧ SmK j d ∧ R (.bool true) n
def c__fitting : DSpec := fun as n R => ∃ feet pairs left : List Int, ∃ g : Int, as = [.dat (hallD feet pairs), .dat (.int g), .vw (left.map .int)] ∧ 0 ≤ g ∧ g < feet.length ∧ InR pairs.length left ∧ left.length ≤ 100 ∧
  R (.list ((left.filter fun j => decide (getI feet g ≤ getI pairs j)).map .int)) n
def c_run_by_liking : DSpec := fun as n R => ∃ feet pairs order liking : List Int, as = [.dat (hallD feet pairs), .dat (.tuple (order.map .int)), .dat (.list (liking.map .int))] ∧ InR feet.length order ∧ InR pairs.length liking ∧ order.length ≤ 100 ∧ liking.length ≤ 100 ∧
  R (.tuple ((order.foldl (stepF feet pairs) (liking, [])).2.map prD)) n
def c_small_run : DSpec := fun as n R => ∃ feet pairs order : List Int, as = [.dat (hallD feet pairs), .dat (.tuple (order.map .int))] ∧ HallOk feet pairs ∧ InR feet.length order ∧ order.length ≤ 100 ∧ R (.tuple ((ruled (getI pairs) feet pairs order).map prD)) n
def c__law_turned : DSpec := fun as n R => ∃ xs : List Int, as = [.dat (.str (pairsT xs))] ∧ xs.length ≤ 40 ∧ In1 (10 ^ 6) xs ∧ R (.str (pairsT xs.reverse)) n
def c_left_by : DSpec := fun as n R => ∃ feet pairs : List Int, ∃ run : List (Int × Int), as = [.dat (hallD feet pairs), .dat (.tuple (run.map prD))] ∧ run.length ≤ 100 ∧ pairs.length ≤ 40 ∧ R (.tuple ((leftL pairs.length run).map .int)) n
def c_served_by : DSpec := fun as n R => ∃ feet pairs : List Int, ∃ run : List (Int × Int), as = [.dat (hallD feet pairs), .dat (.tuple (run.map prD))] ∧ RunOk feet.length pairs.length run ∧ feet.length ≤ 40 ∧ R (.tuple ((shodL feet.length run).map .int)) n
def c__law_words_right : DSpec := fun as n R => ∃ F P : List Int, as = [.deck false, .dat (sizesD F), .dat (sizesD P)] ∧ HallOk F P ∧ F.length ≤ 20 ∧ P.length ≤ 20 ∧ n.n ≤ 100000 ∧ R (.bool true) (n + 1)
def c_number_in : DSpec := fun as n R => ∃ (w : Str) (k : Nat), as = [.dat (.str w), .dat (.int (k : Nat))] ∧ w.length ≤ 100000 ∧ k ≤ 500 ∧ R (numOD w k) n
def c_is_number : DSpec := fun as n R => ∃ d : PyData, as = [.dat d] ∧ isRefD d = false ∧ R (.bool (numB d)) n
def c_is_number_from : DSpec := fun as n R => ∃ d : PyData, ∃ a b : Int, as = [.dat d, .dat (.int a), .dat (.int b)] ∧ isRefD d = false ∧ R (.bool (numIn d a b)) n
def c_is_size : DSpec := fun as n R => ∃ d : PyData, as = [.dat d] ∧ isRefD d = false ∧ R (.bool (szD d)) n
def c__sizes_in : DSpec := fun as n R => ∃ (w : Str) (k : Nat), as = [.dat (.str w), .dat (.int (k : Nat))] ∧ w.length ≤ 50000 ∧ k ≤ 500 ∧ R (szsD w k) n
def c__part_in : DSpec := fun as n R => ∃ (w : Str) (i : Nat), as = [.dat (.str w), .dat (.int (i : Nat))] ∧ w.length ≤ 50000 ∧ R (partD i w) n
def c_parse_hall (C : CA) : DSpecX := fun as n R E => ∃ d : PyData, as = [.dat d] ∧ isRefD d = false ∧ (∀ s, d = .str s → s.length ≤ 40000) ∧ ((∀ s, d ≠ .str s) → E ⟨C.BadText, [("index", .none)]⟩ n) ∧ ∀ s, d = .str s → (∀ j : Nat, parseR s = .inl j → E ⟨C.BadText, [("index", .int j)]⟩ n) ∧ ∀ p, parseR s = .inr p → R p n
def c__law_accepted_right (C : CA) : DSpec := fun as n R => ∃ s : Str, as = [.dat (.str s)] ∧ s.length ≤ 40000 ∧ ∀ n' : Wo, n'.n = n.n → R (.bool true) n'
abbrev s__law_state : Stmt := topS 31
abbrev N__law_state : List Str := ["deck", "guests", "most", "top", "found", "feet", "k", "foot", "near"]
theorem sc__law_state : FnScope N__law_state ["deck", "guests", "most"] (defScope s__law_state) := ⟨rfl, rfl, rfl, by decide +kernel, rfl, by decide +kernel, by decide +kernel⟩
theorem fn__law_state {f : Addr} {fd : FuncData} (F : Fun K "_law_state" "_law_state" s__law_state f fd) (B : Bn K mg C) (H__law_draw : Has P w K mg base "_law_draw" 1 ["deck", "many"] c__law_draw) : FnG P w K mg base 2 f fd ["deck", "guests", "most"] (spD K 3 c__law_state) := by
  refine fnd (k := 1) c__law_state F sc__law_state fun cdv A outer s H hgd0 hr Y => ?_
  have hu := hr.units
  have hu1 : (A.deeper (envOfC "_law_state" (defScope s__law_state) s.heap.objs.size f cdv)).units + 65 < cLine := by have := hr.un; omega
  have hu0 : (A.deeper (envOfC "_law_state" (defScope s__law_state) s.heap.objs.size f cdv)).units + 1 < cLine := by have := hr.un; omega
  have hgd : (A.deeper (envOfC "_law_state" (defScope s__law_state) s.heap.objs.size f cdv)).guards = some [] := hgd0
  refine ⟨_, (dss_cons (ds_parT (i := 3) (j := 4) rfl (by decide) (pgs_cons (pg_name (i := 3) sc__law_state.nd rfl (Or.inr rfl)) (pgs_cons (pg_name (i := 4) sc__law_state.nd rfl (Or.inl rfl)) pgs_nil)) (xe_d (we_ix (we_ofM (me_lst (wa_cons we_int (wa_cons we_int (wa_cons (we_bin op_pow bi_I we_int we_int) wa_nil))))) (we_has H__law_draw hgd (hr.mono (by decide)) (by rfl) (wa_cons (we_var 0) (wa_cons we_int wa_nil))) (fun _ _ => rfl))) (xe_m (me_lst wa_nil)) (by rfl)) (dss_cons (ds_set (i := 5) sc__law_state.nd rfl (Or.inl rfl) (xe_d (we_callTy call_tuple_of ck_tuple (by rfl) B.tuple PyProof.Rows.boot_tuple (wa_cons (we_ofM (me_compV (own := [("k", 6)]) rfl sc__law_state.nd (div_of (di_range1 (by rfl) B.range (wa_cons (we_bin or_addA bi_add we_int (we_has H__law_draw hgd (hr.mono (by decide)) (by rfl) (wa_cons (we_var 0) (wa_cons (we_var 1) wa_nil)))) wa_nil))) (blkOk_by (N := N__law_state) (sc := defScope s__law_state) (by decide +kernel)) gok_name (fun _ _ _ _ _ => (pg_name (i := 6) sc__law_state.nd rfl (Or.inl rfl))) (fun _ _ _ _ _ => wts_nil) (fun _ _ _ _ _ => (we_bin or_addA bi_add we_int (we_has H__law_draw hgd (hr.mono (by decide)) (by rfl) (wa_cons (we_var 0) (wa_cons (we_var 3) wa_nil))))) (by decide))) wa_nil)))) (dss_cons (ds_for PassesOwn.never rfl (di_range1 (by rfl) B.range (wa_cons (we_has H__law_draw hgd (hr.mono (by decide)) (by rfl) (wa_cons (we_var 0) (wa_cons (we_bin or_addA bi_add (we_var 2) we_int) wa_nil))) wa_nil)) ⟨(pg_name (i := 6) sc__law_state.nd rfl (Or.inl rfl)), gok_name⟩ (dss_cons (ds_set (i := 7) sc__law_state.nd rfl (Or.inl rfl) (xe_d (we_ix (we_var 5) (we_has H__law_draw hgd (hr.mono (by decide)) (by rfl) (wa_cons (we_var 0) (wa_cons (we_callB call_len_seq ck_len (by rfl) B.len PySem.boot_len (wa_cons (we_var 5) wa_nil)) wa_nil))) (fun _ _ => rfl)))) (dss_cons (ds_set (i := 8) sc__law_state.nd rfl (Or.inl rfl) (xe_d (we_callB (call_maxA rfl) ck_max (by rfl) B.max PyProof.Rows.boot_max (wa_cons we_int (wa_cons (we_callB (call_minA rfl) ck_min (by rfl) B.min PyProof.Rows.boot_min (wa_cons (we_bin op_pow bi_I we_int we_int) (wa_cons (we_bin op_sub bi_I0 (we_bin or_addA bi_add (we_var 7) (we_has H__law_draw hgd (hr.mono (by decide)) (by rfl) (wa_cons (we_var 0) (wa_cons we_int wa_nil)))) we_int) wa_nil))) wa_nil))))) (dss_one (ds_append (pv 4) (we_ix (we_ofM (me_lst (wa_cons (we_bin or_addA bi_add we_int (we_has H__law_draw hgd (hr.mono (by decide)) (by rfl) (wa_cons (we_var 0) (wa_cons (we_var 3) wa_nil)))) (wa_cons (we_var 8) wa_nil)))) (we_has H__law_draw hgd (hr.mono (by decide)) (by rfl) (wa_cons (we_var 0) (wa_cons we_int wa_nil))) (fun _ _ => rfl))))))) (dss_one (ds_ret (we_tup (wa_cons (we_var 5) (wa_cons (we_callTy call_tuple_of ck_tuple (by rfl) B.tuple PyProof.Rows.boot_tuple (wa_cons (we_var 4) wa_nil)) wa_nil)))))))), fun as n R hl hc => ?_⟩
  obtain ⟨g, m, rfl, hg1, hg2, hm1, hm2, hn, hR⟩ := hc
  have e6 : (10 : Int) ^ (6 : Int).toNat = 1000000 := rfl
  refine ⟨⟨by decide, by decide, by decide⟩, by show 3 ≤ sizeLine; decide, _, rfl, rfl, 3, rfl, by decide, by decide, by first | omega | (simp only [Wo.addn] at *; omega), fun r q1 q2 => ?_⟩
  obtain ⟨d, hd, hd2⟩ := pick3 (a := .int 4) (b := .int 12) (c := .int (10 ^ (6 : Int).toNat)) q1 q2
  obtain ⟨sp, rfl, s1, s2⟩ : ∃ sp : Int, d = .int sp ∧ 1 ≤ sp ∧ sp ≤ 10 ^ 6 := by
    rcases hd2 with rfl | rfl | rfl <;> exact ⟨_, rfl, by decide, by decide⟩
  refine ⟨_, _, rfl, hd, Nat.zero_le _, ?_⟩
  refine ⟨_, rfl, _, rfl, rfl, g, rfl, by omega, by omega, by first | omega | (simp only [Wo.addn] at *; omega), fun r2 a2 b2 => ⟨_, rfl, by omega, by omega, compR_dr (m := (1 + r2).toNat) _ (fun y => ∃ z : Int, y = .int z ∧ 1 ≤ z ∧ z ≤ 10 ^ 6) 1 rngD_length (small1000 (by omega)) (fun k x hx hk acc KK hacc hK => ?_) fun ys hl hP => ?_⟩⟩
  · refine ⟨_, rfl, _, rfl, rfl, sp, rfl, s1, by omega, by first | omega | (simp only [Wo.addn] at *; omega), fun r3 a3 b3 => ⟨small1000 (by omega), ?_⟩⟩
    have := hK (.int (1 + r3)) ⟨_, rfl, by omega, by omega⟩
    exact this
  obtain ⟨feet, rfl, hfeet⟩ := ints_of hP
  rw [List.length_map] at hl
  refine ⟨_, _, rfl, rfl, ?_⟩
  refine ⟨_, rfl, _, rfl, rfl, m + 1, rfl, by omega, by omega, by first | omega | (simp only [Wo.addn] at *; omega), fun r4 a4 b4 => ⟨_, rfl, by omega, by omega, ?_⟩⟩
  refine forR_inv (fun k ρ n' => n' ≤ n + 1 + 1 + (1 + r2).toNat * 1 + 1 + k * 4 ∧ ∃ ps : List Int, In1 (10 ^ 6) ps ∧ ps.length ≤ k ∧ ∃ a6 a7 a8, ρ = [some (.deck false), some (.dat (.int g)), some (.dat (.int m)), some (.dat (.int sp)), some (.mt (ps.map .int)), some (.dat (sizesD feet)), a6, a7, a8])
    ⟨Wo.le0 _ 4, [], fun _ h => (nomatch h), Nat.zero_le _, none, none, none, rfl⟩ ?_ ?_
  · rintro k x ρ n' hx ⟨⟨hn', hno⟩, ps, hps, hpl, a6, a7, a8, rfl⟩
    obtain ⟨rfl, hk⟩ := rngD_mem hx
    refine ⟨_, rfl, _, rfl, _, rfl, _, _, rfl, rfl, rfl, ((feet.map PyData.int).length : Nat), rfl, by rw [List.length_map]; omega, by rw [List.length_map]; omega, by first | omega | (simp only [Wo.addn] at *; omega), fun r5 a5 b5 => ?_⟩
    rw [List.length_map] at b5
    have hfm := hfeet _ (getI_mem a5 b5)
    refine ⟨r5, _, rfl, atI_get a5 b5, ?_⟩
    generalize getI feet r5 = foot at hfm
    refine ⟨⟨by decide, by decide, by decide⟩, _, rfl, _, rfl, rfl, 3, rfl, by decide, by decide, by first | omega | (simp only [Wo.addn] at *; omega), fun r6 a6' b6 => ?_⟩
    obtain ⟨near, hnear, hn1, hn2⟩ : ∃ z : Int, z = (if (if foot + r6 - 1 < 10 ^ (6 : Int).toNat then foot + r6 - 1 else 10 ^ (6 : Int).toNat) > 1 then (if foot + r6 - 1 < 10 ^ (6 : Int).toNat then foot + r6 - 1 else 10 ^ (6 : Int).toNat) else 1) ∧ 1 ≤ z ∧ z ≤ 10 ^ 6 := ⟨_, rfl, by split <;> omega, by split <;> split <;> omega⟩
    refine ⟨_, rfl, _, rfl, _, rfl, rfl, sp, rfl, s1, by omega, by first | omega | (simp only [Wo.addn] at *; omega), fun r7 a7' b7 => ?_⟩
    refine ⟨_, rfl, by show 2 ≤ sizeLine; decide, _, rfl, rfl, 2, rfl, by decide, by decide, by first | omega | (simp only [Wo.addn] at *; omega), fun r8 a8' b8 => ?_⟩
    obtain ⟨d2, hd3, hd4⟩ := pick2 (a := .int (1 + r7)) (b := .int near) a8' b8
    rw [hnear] at hd3
    obtain ⟨zz, rfl, z1, z2⟩ : ∃ z : Int, d2 = .int z ∧ 1 ≤ z ∧ z ≤ 10 ^ 6 := by
      rcases hd4 with rfl | rfl
      · exact ⟨_, rfl, by omega, by omega⟩
      · exact ⟨_, rfl, hn1, hn2⟩
    refine ⟨_, _, rfl, hd3, small1000 (by rw [List.length_map]; omega), ⟨by simp only [Wo.addn] at *; omega, hno⟩, ps ++ [zz], fun y hy => ?_, by rw [List.length_append]; show ps.length + 1 ≤ k + 1; omega, _, _, _, by rw [List.map_append]; rfl⟩
    rcases List.mem_append.mp hy with q | q
    · exact hps y q
    · rw [List.mem_singleton.mp q]; exact ⟨z1, z2⟩
  · rintro ρ n' ⟨⟨hn', hno⟩, ps, hps, hpl, a6, a7, a8, rfl⟩
    rw [rngD_length] at hn' hpl
    exact ⟨_, rfl, _, rfl, _, _, rfl, rfl, by show 2 ≤ sizeLine; decide, hR feet ps _ ⟨by omega, by omega, by omega, hfeet, hps⟩ (by omega) (by omega) ⟨by simp only [Wo.addn] at *; omega, hno⟩⟩
abbrev s__sizes_text : Stmt := topS 17
abbrev N__sizes_text : List Str := ["sizes", "size"]
theorem sc__sizes_text : FnScope N__sizes_text ["sizes"] (defScope s__sizes_text) := ⟨rfl, rfl, rfl, by decide +kernel, rfl, by decide +kernel, by decide +kernel⟩
theorem fn__sizes_text {f : Addr} {fd : FuncData} (F : Fun K "_sizes_text" "_sizes_text" s__sizes_text f fd) (B : Bn K mg C) : FnG P w K mg base 1 f fd ["sizes"] (spD K 1 c__sizes_text) := by
  refine fnd (k := 0) c__sizes_text F sc__sizes_text fun cdv A outer s H hgd0 hr Y => ?_
  have hu := hr.units
  have hu1 : (A.deeper (envOfC "_sizes_text" (defScope s__sizes_text) s.heap.objs.size f cdv)).units + 65 < cLine := by have := hr.un; omega
  have hu0 : (A.deeper (envOfC "_sizes_text" (defScope s__sizes_text) s.heap.objs.size f cdv)).units + 1 < cLine := by have := hr.un; omega
  have hgd : (A.deeper (envOfC "_sizes_text" (defScope s__sizes_text) s.heap.objs.size f cdv)).guards = some [] := hgd0
  refine ⟨_, (dss_one (ds_ret (we_join we_str (we_ofM (me_compV (own := [("size", 1)]) rfl sc__sizes_text.nd (di_seqV (we_var 0)) (blkOk_by (N := N__sizes_text) (sc := defScope s__sizes_text) (by decide +kernel)) gok_name (fun _ _ _ _ _ => (pg_name (i := 1) sc__sizes_text.nd rfl (Or.inl rfl))) (fun _ _ _ _ _ => wts_nil) (fun _ _ _ _ _ => (we_callTy call_str_int cr_str (by rfl) B.str PyProof.Rows.boot_str (wa_cons (we_var 1) wa_nil))) (by decide)))))), fun as n R hl hc => ?_⟩
  obtain ⟨xs, rfl, hl, hx, hR⟩ := hc
  have hb := sum_len hx
  refine ⟨_, rfl, _, rfl, _, rfl, compR_m xs .int (fun x => .str (numT x)) (small1000 (by omega)) (fun x hx' acc KK ha hK => ⟨_, rfl, x, rfl, num_log (by have := hx x hx'; omega), ha, hK⟩) ?_⟩
  refine ⟨xs.map numT, by rw [List.map_map]; rfl, ?_, hR⟩
  rw [List.length_map, show ("," : Str).length = 1 by decide +kernel]
  omega
abbrev s_hall_text : Stmt := topS 18
abbrev N_hall_text : List Str := ["hall", "feet", "pairs"]
theorem sc_hall_text : FnScope N_hall_text ["hall"] (defScope s_hall_text) := ⟨rfl, rfl, rfl, by decide +kernel, rfl, by decide +kernel, by decide +kernel⟩
theorem fn_hall_text {f : Addr} {fd : FuncData} (F : Fun K "hall_text" "hall_text" s_hall_text f fd) (B : Bn K mg C) (H__sizes_text : Has P w K mg base "_sizes_text" 1 ["sizes"] c__sizes_text) : FnG P w K mg base 2 f fd ["hall"] (spD K 1 c_hall_text) := by
  refine fnd (k := 1) c_hall_text F sc_hall_text fun cdv A outer s H hgd0 hr Y => ?_
  have hu := hr.units
  have hu1 : (A.deeper (envOfC "hall_text" (defScope s_hall_text) s.heap.objs.size f cdv)).units + 65 < cLine := by have := hr.un; omega
  have hu0 : (A.deeper (envOfC "hall_text" (defScope s_hall_text) s.heap.objs.size f cdv)).units + 1 < cLine := by have := hr.un; omega
  have hgd : (A.deeper (envOfC "hall_text" (defScope s_hall_text) s.heap.objs.size f cdv)).guards = some [] := hgd0
  refine ⟨_, (dss_cons (ds_asgG (we_var 0) ⟨(pg_tup rfl (pgs_cons (pg_name (i := 1) sc_hall_text.nd rfl (Or.inl rfl)) (pgs_cons (pg_name (i := 2) sc_hall_text.nd rfl (Or.inl rfl)) pgs_nil))), gok_two⟩) (dss_one (ds_ret (we_fstr (WJ.cons (we_fmt (we_has H__sizes_text hgd (hr.mono (by decide)) (by rfl) (wa_cons (we_var 1) wa_nil))) (WJ.cons we_str (WJ.cons (we_fmt (we_gstr (by rfl) B.SLASH.choose_spec)) (WJ.cons we_str (WJ.cons (we_fmt (we_orS (we_has H__sizes_text hgd (hr.mono (by decide)) (by rfl) (wa_cons (we_var 2) wa_nil)) (we_one (we_gstr (by rfl) B.NO_PAIRS.choose_spec)))) WJ.nil))))))))), fun as n R hl hc => ?_⟩
  obtain ⟨feet, pairs, rfl, hh, hR⟩ := hc
  have hf40 := hh.f2
  have hp40 := hh.p2
  have l1 := join_len hh.fi
  have l2 := pairsT_len hh.pi
  have l3 := join_len hh.pi
  have c0 : Str.empty.length = 0 := by decide +kernel
  have c1 : (" " : Str).length = 1 := by decide +kernel
  have c2 : ("/" : Str).length = 1 := by decide +kernel
  have c3 : ("-" : Str).length = 1 := by decide +kernel
  have hpo := pairsT_or (in_t hh.pi)
  refine ⟨_, rfl, _, _, rfl, ?_⟩
  refine ⟨_, rfl, rfl, feet, rfl, hf40, hh.fi, ?_⟩
  refine ⟨_, rfl, line1000 (by omega), _, rfl, line1000 (by rw [app_len]; omega), ?_⟩
  refine ⟨_, rfl, line1000 (by rw [app_len, app_len]; omega), ?_⟩
  refine ⟨_, rfl, line1000 (by omega), _, rfl, line1000 (by rw [app_len, app_len, app_len]; omega), ?_⟩
  refine ⟨_, rfl, line1000 (by rw [app_len, app_len, app_len, app_len]; omega), ?_⟩
  refine ⟨_, rfl, rfl, pairs, rfl, hp40, hh.pi, _, rfl, line1000 (by omega), ?_⟩
  rw [← fs_hall] at hR
  by_cases h0 : (joinT pairs).length = 0
  · rw [if_pos h0] at hpo ⊢
    rw [hpo] at hR
    refine ⟨_, rfl, line1000 (by omega), _, rfl, line1000 (by rw [app_len, app_len, app_len, app_len, app_len]; omega), ?_⟩
    exact hR
  · rw [if_neg h0] at hpo ⊢
    rw [hpo] at hR
    refine ⟨_, rfl, line1000 (by omega), _, rfl, line1000 (by rw [app_len, app_len, app_len, app_len, app_len]; omega), ?_⟩
    exact hR
abbrev s__law_bent : Stmt := topS 32
abbrev N__law_bent : List Str := ["deck", "text", "words", "at", "way", "place", "sign"]
theorem sc__law_bent : FnScope N__law_bent ["deck", "text"] (defScope s__law_bent) := ⟨rfl, rfl, rfl, by decide +kernel, rfl, by decide +kernel, by decide +kernel⟩
theorem fn__law_bent {f : Addr} {fd : FuncData} (F : Fun K "_law_bent" "_law_bent" s__law_bent f fd) (B : Bn K mg C) (H__law_draw : Has P w K mg base "_law_draw" 1 ["deck", "many"] c__law_draw) : FnG P w K mg base 2 f fd ["deck", "text"] (spD K 2 c__law_bent) := by
  refine fnd (k := 1) c__law_bent F sc__law_bent fun cdv A outer s H hgd0 hr Y => ?_
  have hu := hr.units
  have hu1 : (A.deeper (envOfC "_law_bent" (defScope s__law_bent) s.heap.objs.size f cdv)).units + 65 < cLine := by have := hr.un; omega
  have hu0 : (A.deeper (envOfC "_law_bent" (defScope s__law_bent) s.heap.objs.size f cdv)).units + 1 < cLine := by have := hr.un; omega
  have hgd : (A.deeper (envOfC "_law_bent" (defScope s__law_bent) s.heap.objs.size f cdv)).guards = some [] := hgd0
  refine ⟨_, (dss_cons (ds_set (i := 2) sc__law_bent.nd rfl (Or.inl rfl) (xe_d (we_ofM (me_split (we_var 1) we_str)))) (dss_cons (ds_set (i := 3) sc__law_bent.nd rfl (Or.inl rfl) (xe_d (we_has H__law_draw hgd (hr.mono (by decide)) (by rfl) (wa_cons (we_var 0) (wa_cons (we_callB call_len_seq ck_len (by rfl) B.len PySem.boot_len (wa_cons (we_var 2) wa_nil)) wa_nil))))) (dss_cons (ds_set (i := 4) sc__law_bent.nd rfl (Or.inl rfl) (xe_d (we_has H__law_draw hgd (hr.mono (by decide)) (by rfl) (wa_cons (we_var 0) (wa_cons we_int wa_nil))))) (dss_cons (ds_if (wt_cmp (or_eqA hu) bi_eqA (we_var 4) we_int (nomark _)) (dss_one (ds_ret (we_join we_str (we_bin or_addA bi_add (we_bin or_addA bi_add (we_slice (we_var 2) wo_none (wo_some (we_var 3))) (we_slice (we_var 2) (wo_some (we_var 3)) (wo_some (we_bin or_addA bi_add (we_var 3) we_int)))) (we_slice (we_var 2) (wo_some (we_var 3)) wo_none))))) dss_nil) (dss_cons (ds_if (wt_cmp (or_eqA hu) bi_eqA (we_var 4) we_int (nomark _)) (dss_one (ds_ret (we_join we_str (we_bin or_addA bi_add (we_slice (we_var 2) (wo_some (we_var 3)) wo_none) (we_slice (we_var 2) wo_none (wo_some (we_var 3))))))) dss_nil) (dss_cons (ds_if (wt_cmp (or_eqA hu) bi_eqA (we_var 4) we_int (nomark _)) (dss_one (ds_ret (we_join we_str (we_bin or_addA bi_add (we_slice (we_var 2) wo_none (wo_some (we_var 3))) (we_slice (we_var 2) (wo_some (we_bin or_addA bi_add (we_var 3) we_int)) wo_none))))) dss_nil) (dss_cons (ds_if (wt_cmp (or_eqA hu) bi_eqA (we_var 4) we_int (nomark _)) (dss_one (ds_ret (we_join we_str (we_bin or_addA bi_add (we_var 2) (we_slice (we_var 2) (wo_some (we_var 3)) wo_none))))) dss_nil) (dss_cons (ds_set (i := 5) sc__law_bent.nd rfl (Or.inl rfl) (xe_d (we_has H__law_draw hgd (hr.mono (by decide)) (by rfl) (wa_cons (we_var 0) (wa_cons (we_bin or_addA bi_add (we_callB call_len_str ck_lenS (by rfl) B.len PySem.boot_len (wa_cons (we_var 1) wa_nil)) we_int) wa_nil))))) (dss_cons (ds_set (i := 6) sc__law_bent.nd rfl (Or.inl rfl) (xe_d (we_ix (we_ofM (me_lst (wa_cons we_str (wa_cons we_str (wa_cons we_str (wa_cons we_str (wa_cons we_str (wa_cons we_str (wa_cons we_str (wa_cons we_str (wa_cons we_str (wa_cons we_str (wa_cons we_str (wa_cons we_str wa_nil)))))))))))))) (we_has H__law_draw hgd (hr.mono (by decide)) (by rfl) (wa_cons (we_var 0) (wa_cons we_int wa_nil))) (fun _ _ => rfl)))) (dss_one (ds_ret (we_bin op_add_str bi_addS (we_bin op_add_str bi_addS (we_sliceS (we_var 1) wo_none (wo_some (we_var 5))) (we_bin op_mulS bi_mulS (we_var 6) (we_has H__law_draw hgd (hr.mono (by decide)) (by rfl) (wa_cons (we_var 0) (wa_cons we_int wa_nil))))) (we_sliceS (we_var 1) (wo_some (we_bin or_addA bi_add (we_var 5) (we_has H__law_draw hgd (hr.mono (by decide)) (by rfl) (wa_cons (we_var 0) (wa_cons we_int wa_nil))))) wo_none))))))))))))), fun as n R hl hc => ?_⟩
  obtain ⟨s, rfl, hch, hl, hn, hR⟩ := hc
  have hwt := wt_split (s := s) (y := " ") (by decide +kernel)
  have hwl := wt_len (Txt.split s " ")
  have hlt : (Txt.split s " ").length ≤ 5001 := by omega
  have hpos := split_pos s " "
  have hcw := Ch3.split (y := " ") hch
  have h1 : (" " : Str).length = 1 := by decide +kernel
  have hsp : Ch3 (" " : Str) := by
    intro c hc
    have : chs (" " : Str) = [32] := by decide +kernel
    rw [this] at hc; simp at hc; omega
  have hle : ∀ (k : Nat), n + k ≤ n + 6 ∨ ¬ k ≤ 6 := fun k => by
    by_cases q : k ≤ 6
    · exact .inl ⟨Nat.add_le_add_left q _, rfl, rfl⟩
    · exact .inr q
  have fin : ∀ (ws : List Str) (n' : Wo), (∀ w ∈ ws, Ch3 w) → wt ws ≤ 3 * (s.length + 1) → n' ≤ n + 6 → R (.str (Txt.join " " ws)) n' := fun ws n' hw hb hn' => hR _ n' (Ch3.join hsp hw) (Nat.le_trans (wt_join ws " " h1) hb) hn'
  have jb : ∀ ws : List Str, wt ws ≤ 3 * (s.length + 1) → (ws.map (·.length)).sum + ws.length * (" " : Str).length ≤ 16777216 := fun ws hb => by rw [wt_jb ws " " h1]; omega
  refine ⟨_, rfl, s, rfl, " ", rfl, by decide +kernel, Nat.le_trans (Nat.add_le_add_right hl 2) (by decide), ?_⟩
  refine ⟨_, rfl, _, rfl, _, _, rfl, rfl, rfl, _, rfl, by rw [List.length_map]; omega, by rw [List.length_map]; omega, by omega, fun r r0 r1 => ?_⟩
  refine ⟨_, rfl, rfl, 6, rfl, by decide, by decide, by show n.n + 1 ≤ _; omega, fun y y0 y1 => ?_⟩
  have lc : ∀ (lo hi : Option Int), (cutG ((Txt.split s " ").map PyData.str) lo hi).length ≤ 5001 := fun lo hi => Nat.le_trans (len_cut _ lo hi) (by rw [List.length_map]; exact hlt)
  have ll : ((Txt.split s " ").map PyData.str).length ≤ 5001 := by rw [List.length_map]; exact hlt
  have lz : ∀ a b : List PyData, a.length ≤ 10002 → b.length ≤ 5001 → a.length + b.length ≤ sizeLine := fun a b h1 h2 => Nat.le_trans (show a.length + b.length ≤ 15003 by omega) (by decide)
  have cw : ∀ (lo hi : Option Int), ∀ w ∈ cutG (Txt.split s " ") lo hi, Ch3 w := fun lo hi w hw => hcw w (mem_cutW hw)
  have wc := fun (lo hi : Option Int) => wt_cut (Txt.split s " ") lo hi
  have le2 : n + 1 + 1 ≤ n + 6 := ⟨by show n.n + 1 + 1 ≤ n.n + 6; omega, rfl, rfl⟩
  refine ⟨_, rfl, rfl, rfl, sh_int _, sh_int _, _, rfl, ?_⟩
  by_cases q0 : y = 0
  · subst q0
    refine ifT rfl ⟨" ", rfl, _, rfl, _, rfl, r, rfl, _, rfl, _, rfl, r, rfl, _, rfl, r + 1, rfl, lz _ _ (by have := lc none (some r); omega) (lc _ _), _, rfl, _, rfl, r, rfl, lz _ _ (by rw [List.length_append]; have := lc none (some r); have := lc (some r) (some (r + 1)); omega) (lc _ _), cutG (Txt.split s " ") none (some r) ++ cutG (Txt.split s " ") (some r) (some (r + 1)) ++ cutG (Txt.split s " ") (some r) none, by simp only [List.map_append, cut_mapG], jb _ ?_, fin _ _ ?_ ?_ le2⟩
    · rw [wt_app, wt_app]; have := wc none (some r); have := wc (some r) (some (r + 1)); have := wc (some r) none; omega
    · intro w hw
      rcases List.mem_append.mp hw with hw | hw
      · exact (List.mem_append.mp hw).elim (cw _ _ w) (cw _ _ w)
      · exact cw _ _ w hw
    · rw [wt_app, wt_app]; have := wc none (some r); have := wc (some r) (some (r + 1)); have := wc (some r) none; omega
  refine iteDF (c := y = 0) q0 ?_
  refine ⟨_, rfl, rfl, rfl, sh_int _, sh_int _, _, rfl, ?_⟩
  by_cases q1 : y = 1
  · subst q1
    refine ifT rfl ⟨" ", rfl, _, rfl, _, rfl, r, rfl, _, rfl, _, rfl, r, rfl, lz _ _ (by have := lc (some r) none; omega) (lc _ _), cutG (Txt.split s " ") (some r) none ++ cutG (Txt.split s " ") none (some r), by simp only [List.map_append, cut_mapG], jb _ ?_, fin _ _ ?_ ?_ le2⟩
    · rw [wt_app]; have := wc none (some r); have := wc (some r) none; omega
    · intro w hw
      exact (List.mem_append.mp hw).elim (cw _ _ w) (cw _ _ w)
    · rw [wt_app]; have := wc none (some r); have := wc (some r) none; omega
  refine iteDF (c := y = 1) q1 ?_
  refine ⟨_, rfl, rfl, rfl, sh_int _, sh_int _, _, rfl, ?_⟩
  by_cases q2 : y = 2
  · subst q2
    refine ifT rfl ⟨" ", rfl, _, rfl, _, rfl, r, rfl, _, rfl, _, rfl, r + 1, rfl, lz _ _ (by have := lc none (some r); omega) (lc _ _), cutG (Txt.split s " ") none (some r) ++ cutG (Txt.split s " ") (some (r + 1)) none, by simp only [List.map_append, cut_mapG], jb _ ?_, fin _ _ ?_ ?_ le2⟩
    · rw [wt_app]; have := wc none (some r); have := wc (some (r + 1)) none; omega
    · intro w hw
      exact (List.mem_append.mp hw).elim (cw _ _ w) (cw _ _ w)
    · rw [wt_app]; have := wc none (some r); have := wc (some (r + 1)) none; omega
  refine iteDF (c := y = 2) q2 ?_
  refine ⟨_, rfl, rfl, rfl, sh_int _, sh_int _, _, rfl, ?_⟩
  by_cases q3 : y = 3
  · subst q3
    refine ifT rfl ⟨" ", rfl, _, rfl, _, rfl, _, rfl, r, rfl, lz _ _ (by omega) (lc _ _), Txt.split s " " ++ cutG (Txt.split s " ") (some r) none, by simp only [List.map_append, cut_mapG], jb _ ?_, fin _ _ ?_ ?_ le2⟩
    · rw [wt_app]; have := wc (some r) none; omega
    · intro w hw
      exact (List.mem_append.mp hw).elim (hcw w) (cw _ _ w)
    · rw [wt_app]; have := wc (some r) none; omega
  refine iteDF (c := y = 3) q3 ?_
  have hz : s.length ≤ sizeLine := Nat.le_trans hl (by decide)
  refine ⟨_, rfl, _, rfl, s, rfl, hz, rfl, _, rfl, by omega, by omega, by show n.n + 1 + 1 ≤ _; omega, fun p p0 p1 => ?_⟩
  refine ⟨by show 12 ≤ sizeLine; decide, _, rfl, rfl, 12, rfl, by decide, by decide, by show n.n + 1 + 1 + 1 ≤ _; omega, fun u u0 u1 => ?_⟩
  obtain ⟨d, hd, hm⟩ := atI_mem (xs := sgns56) u0 (show u < 12 from u1)
  obtain ⟨g, rfl, hg1, hg2⟩ := sgn56_ok hm
  refine ⟨u, _, rfl, hd, ?_⟩
  refine ⟨_, rfl, s, rfl, _, rfl, p, rfl, hz, _, rfl, _, rfl, rfl, 2, rfl, by decide, by decide, by show n.n + 1 + 1 + 1 + 1 ≤ _; omega, fun m m0 m1 => ?_⟩
  obtain ⟨q, rfl⟩ : ∃ q : Nat, m = (q : Int) := ⟨m.toNat, by omega⟩
  have lp := cutS_length s none (some p)
  have lg : (repS g (q : Nat)).length ≤ 1 := by rw [repS_len, hg1]; omega
  refine ⟨g, q, rfl, rfl, by rw [hg1]; omega, by omega, _, _, rfl, rfl, Nat.le_trans (show _ ≤ 5001 by omega) (by decide), ?_⟩
  refine ⟨_, rfl, s, rfl, _, rfl, _, rfl, rfl, 2, rfl, by decide, by decide, by show n.n + 1 + 1 + 1 + 1 + 1 ≤ _; omega, fun k k0 k1 => ?_⟩
  have lq := cutS_length s (some (p + k)) none
  refine ⟨p + k, rfl, hz, _, _, rfl, rfl, Nat.le_trans (show _ ≤ 10002 by rw [app_len]; omega) (by decide), ?_⟩
  exact hR _ _ (Ch3.app (Ch3.app (hch.cut _ _) (hg2.rep q)) (hch.cut _ _)) (by rw [app_len, app_len]; omega) ⟨by show n.n + 1 + 1 + 1 + 1 + 1 + 1 ≤ n.n + 6; omega, rfl, rfl⟩
abbrev s__law_same : Stmt := topS 30
abbrev N__law_same : List Str := ["found", "due", "one", "other"]
theorem sc__law_same : FnScope N__law_same ["found", "due"] (defScope s__law_same) := ⟨rfl, rfl, rfl, by decide +kernel, rfl, by decide +kernel, by decide +kernel⟩
theorem fn__law_same {f : Addr} {fd : FuncData} (F : Fun K "_law_same" "_law_same" s__law_same f fd) (B : Bn K mg C) {j : Nat} (H__law_same : Has P w K mg base "_law_same" (0 + j) ["found", "due"] (c__law_same j)) : FnG P w K mg base (0 + j + 1) f fd ["found", "due"] (spD K 2 (c__law_same (j + 1))) := by
  refine fnd (c__law_same (j + 1)) F sc__law_same fun cdv A outer s H hgd0 hr Y => ?_
  have hu := hr.units
  have hu1 : (A.deeper (envOfC "_law_same" (defScope s__law_same) s.heap.objs.size f cdv)).units + 65 < cLine := by have := hr.un; omega
  have hu0 : (A.deeper (envOfC "_law_same" (defScope s__law_same) s.heap.objs.size f cdv)).units + 1 < cLine := by have := hr.un; omega
  have hgd : (A.deeper (envOfC "_law_same" (defScope s__law_same) s.heap.objs.size f cdv)).guards = some [] := hgd0
  refine ⟨_, (dss_cons (ds_if (wt_val (we_isi (.inr (.inr (.inr (.inl rfl)))) (by rfl) B.isinstance (we_var 1) (by rfl) B.tuple PyProof.Rows.boot_tuple)) (dss_cons (ds_if (wt_w (ww_or (wt_not (wt_val (we_isi (.inr (.inr (.inr (.inl rfl)))) (by rfl) B.isinstance (we_var 0) (by rfl) B.tuple PyProof.Rows.boot_tuple))) (ww_or1 (wt_cmp (or_neA hu) bi_neA (we_callB call_len_seq ck_len (by rfl) B.len PySem.boot_len (wa_cons (we_var 0) wa_nil)) (we_callB call_len_seq ck_len (by rfl) B.len PySem.boot_len (wa_cons (we_var 1) wa_nil)) (nomark _))))) (dss_one (ds_ret we_bl)) dss_nil) (dss_one (ds_ret (we_cmp (or_eqA hu) bi_eqA (we_ofM (me_compV (own := [("one", 2), ("other", 3)]) rfl sc__law_same.nd (div_of (di_zipT (by rfl) B.zip (wa_cons (we_var 0) (wa_cons (we_var 1) wa_nil)))) (blkOk_by (N := N__law_same) (sc := defScope s__law_same) (by decide +kernel)) gok_two (fun _ _ _ _ _ => (pg_tup rfl (pgs_cons (pg_name (i := 2) sc__law_same.nd rfl (Or.inl rfl)) (pgs_cons (pg_name (i := 3) sc__law_same.nd rfl (Or.inl rfl)) pgs_nil)))) (fun _ _ _ _ _ => (wts_one (wt_not (wt_val (we_has H__law_same hgd (hr.mono (by omega)) (by rfl) (wa_cons (we_var 2) (wa_cons (we_var 3) wa_nil))))))) (fun _ _ _ _ _ => we_int) (by decide))) (we_ofM (me_lst wa_nil)) (nomark _))))) dss_nil) (dss_cons (ds_if (wt_cmp op_isN bi_isN (we_var 1) we_non (nomark _)) (dss_one (ds_ret (we_cmp op_isN bi_isN (we_var 0) we_non (nomark _)))) dss_nil) (dss_cons (ds_if (wt_val (we_isi (.inr (.inr (.inl rfl))) (by rfl) B.isinstance (we_var 1) (by rfl) B.str PyProof.Rows.boot_str)) (dss_one (ds_ret (we_and (we_isi (.inr (.inr (.inl rfl))) (by rfl) B.isinstance (we_var 0) (by rfl) B.str PyProof.Rows.boot_str) (we_one (we_cmp (or_eqA hu) bi_eqA (we_var 0) (we_var 1) (nomark _)))))) dss_nil) (dss_one (ds_ret (we_and (we_isi (.inl rfl) (by rfl) B.isinstance (we_var 0) (by rfl) B.int PyProof.Rows.boot_int) (we_and (we_cmp (or_eqA hu) bi_eqA (we_isi (.inr (.inl rfl)) (by rfl) B.isinstance (we_var 0) (by rfl) B.bool PyProof.Rows.boot_bool) (we_isi (.inr (.inl rfl)) (by rfl) B.isinstance (we_var 1) (by rfl) B.bool PyProof.Rows.boot_bool) (nomark _)) (we_one (we_cmp (or_eqA hu) bi_eqA (we_var 0) (we_var 1) (nomark _)))))))))), fun as n R hl hc => ?_⟩
  obtain ⟨d, rfl, hs, hR⟩ := hc
  have key : (d = .none ∨ (∃ s, d = .str s) ∨ ∃ i, d = .int i) ∨ ∃ q ds, j = q + 1 ∧ d = .tuple ds ∧ ds.length ≤ 1000 ∧ ∀ x ∈ ds, SmK q x := by
    cases j with
    | zero => exact .inl hs
    | succ q =>
      rcases hs with h | ⟨ds, h1, h2, h3⟩
      · exact .inl h
      · exact .inr ⟨q, ds, rfl, h1, h2, h3⟩
  rcases key with (rfl | ⟨s, rfl⟩ | ⟨i, rfl⟩) | ⟨q, ds, rfl, rfl, hl, hds⟩
  · exact ⟨_, rfl, rfl, _, rfl, iteF ⟨_, rfl, rfl, rfl, _, rfl, iteT ⟨_, rfl, rfl, rfl, hR⟩⟩⟩
  · refine ⟨_, rfl, rfl, _, rfl, iteF ⟨_, rfl, rfl, rfl, _, rfl, iteF ⟨_, rfl, rfl, _, rfl, ifT (isi_ss _) ⟨_, rfl, rfl, asB_T (isi_ss _) (iteT ⟨_, rfl, _, rfl, ?_⟩)⟩⟩⟩⟩
    show R (.bool (decide (s = s))) n
    rw [decide_eq_true rfl]; exact hR
  · refine ⟨_, rfl, rfl, _, rfl, iteF ⟨_, rfl, rfl, rfl, _, rfl, iteF ⟨_, rfl, rfl, _, rfl, iteF ⟨_, rfl, rfl, asB_T (isi_ii _) (iteT ⟨_, rfl, rfl, _, rfl, rfl, rfl, rfl, rfl, rfl, asB_T ?_ (iteT ⟨_, rfl, _, rfl, rfl, rfl, sh_int _, sh_int _, ?_⟩)⟩)⟩⟩⟩⟩
    · show PyData.eqv (.bool (isiB (tyD (.int i)) "bool")) (.bool (isiB (tyD (.int i)) "bool")) = true
      rw [isi_ib]; rfl
    · show R (.bool (PyData.eqv (.int i) (.int i))) n
      rw [eqv_int, decide_eq_true rfl]; exact hR
  · refine ⟨_, rfl, rfl, _, rfl, ifT (isi_tt _) ⟨_, rfl, rfl, _, rfl, ifNF' (isi_tt _) ⟨_, rfl, _, _, rfl, rfl, _, rfl, _, _, rfl, rfl, rfl, rfl, sh_int _, sh_int _, _, rfl, neI rfl ?_⟩⟩⟩
    refine ⟨_, rfl, _, rfl, ds, ds, rfl, ?_⟩
    rw [zip_self]
    refine compR_p ds (fun x => .tuple [x, x]) (fun _ => false) (fun _ => .int 1) (Nat.lt_of_le_of_lt hl (by decide)) (fun x hx acc KK hK => ⟨_, _, rfl, _, rfl, _, rfl, rfl, x, rfl, hds x hx, _, rfl, iteF hK⟩) ?_
    have e : (ds.filter fun _ => false) = [] := List.filter_eq_nil_iff.mpr fun _ _ => Bool.false_ne_true
    rw [e]
    exact ⟨Nat.zero_le _, rfl, rfl, rfl, rfl, hR⟩
abbrev s__fitting : Stmt := topS 22
abbrev N__fitting : List Str := ["hall", "guest", "left", "feet", "pairs", "pair"]
theorem sc__fitting : FnScope N__fitting ["hall", "guest", "left"] (defScope s__fitting) := ⟨rfl, rfl, rfl, by decide +kernel, rfl, by decide +kernel, by decide +kernel⟩
theorem fn__fitting {f : Addr} {fd : FuncData} (F : Fun K "_fitting" "_fitting" s__fitting f fd) (B : Bn K mg C) : FnG P w K mg base 1 f fd ["hall", "guest", "left"] (spD K 3 c__fitting) := by
  refine fnd (k := 0) c__fitting F sc__fitting fun cdv A outer s H hgd0 hr Y => ?_
  have hu := hr.units
  have hu1 : (A.deeper (envOfC "_fitting" (defScope s__fitting) s.heap.objs.size f cdv)).units + 65 < cLine := by have := hr.un; omega
  have hu0 : (A.deeper (envOfC "_fitting" (defScope s__fitting) s.heap.objs.size f cdv)).units + 1 < cLine := by have := hr.un; omega
  have hgd : (A.deeper (envOfC "_fitting" (defScope s__fitting) s.heap.objs.size f cdv)).guards = some [] := hgd0
  refine ⟨_, (dss_cons (ds_asgG (we_var 0) ⟨(pg_tup rfl (pgs_cons (pg_name (i := 3) sc__fitting.nd rfl (Or.inr rfl)) (pgs_cons (pg_name (i := 4) sc__fitting.nd rfl (Or.inr rfl)) pgs_nil))), gok_two⟩) (dss_one (ds_ret (we_ofM (me_compV (own := [("pair", 5)]) rfl sc__fitting.nd (di_seqV (we_var 2)) (blkOk_by (N := N__fitting) (sc := defScope s__fitting) (by decide +kernel)) gok_name (fun _ _ _ _ _ => (pg_name (i := 5) sc__fitting.nd rfl (Or.inl rfl))) (fun _ _ _ _ _ => (wts_one (wt_cmp op_ge bi_B0 (we_ix (we_var 4) (we_var 5) (fun _ _ => rfl)) (we_ix (we_var 3) (we_var 1) (fun _ _ => rfl)) (nomark _)))) (fun _ _ _ _ _ => (we_var 5)) (by decide)))))), fun as n R hl hc => ?_⟩
  obtain ⟨feet, pairs, left, g, rfl, hg1, hg2, hl1, hl2, hR⟩ := hc
  refine ⟨_, rfl, _, _, rfl, _, rfl, _, rfl, compR_p left .int (fun j => decide (getI feet g ≤ getI pairs j)) .int (small1000 (by omega)) (fun x hx acc KK hK => ⟨_, rfl, _, rfl, _, _, rfl, atI_get (hl1 x hx).1 (hl1 x hx).2, _, rfl, _, rfl, _, _, rfl, atI_get hg1 hg2, _, rfl, ite_imp (fun h => ⟨_, rfl, h⟩) id hK⟩) hR⟩
abbrev s_run_by_liking : Stmt := topS 25
abbrev N_run_by_liking : List Str := ["hall", "order", "liking", "left", "run", "guest", "fitting"]
theorem sc_run_by_liking : FnScope N_run_by_liking ["hall", "order", "liking"] (defScope s_run_by_liking) := ⟨rfl, rfl, rfl, by decide +kernel, rfl, by decide +kernel, by decide +kernel⟩
theorem fn_run_by_liking {f : Addr} {fd : FuncData} (F : Fun K "run_by_liking" "run_by_liking" s_run_by_liking f fd) (B : Bn K mg C) (H__fitting : Has P w K mg base "_fitting" 1 ["hall", "guest", "left"] c__fitting) : FnG P w K mg base 2 f fd ["hall", "order", "liking"] (spD K 3 c_run_by_liking) := by
  refine fnd (k := 1) c_run_by_liking F sc_run_by_liking fun cdv A outer s H hgd0 hr Y => ?_
  have hu := hr.units
  have hu1 : (A.deeper (envOfC "run_by_liking" (defScope s_run_by_liking) s.heap.objs.size f cdv)).units + 65 < cLine := by have := hr.un; omega
  have hu0 : (A.deeper (envOfC "run_by_liking" (defScope s_run_by_liking) s.heap.objs.size f cdv)).units + 1 < cLine := by have := hr.un; omega
  have hgd : (A.deeper (envOfC "run_by_liking" (defScope s_run_by_liking) s.heap.objs.size f cdv)).guards = some [] := hgd0
  refine ⟨_, (dss_cons (ds_set (i := 3) sc_run_by_liking.nd rfl (Or.inl rfl) (xe_m (me_callTy call_list_of ck_list (by rfl) B.list PyProof.Rows.boot_list (wa_cons (we_var 2) wa_nil)))) (dss_cons (ds_set (i := 4) sc_run_by_liking.nd rfl (Or.inl rfl) (xe_m (me_lst wa_nil))) (dss_cons (ds_for PassesOwn.never rfl (di_seq (we_var 1)) ⟨(pg_name (i := 5) sc_run_by_liking.nd rfl (Or.inl rfl)), gok_name⟩ (dss_cons (ds_set (i := 6) sc_run_by_liking.nd rfl (Or.inl rfl) (xe_d (we_has H__fitting hgd (hr.mono (by decide)) (by rfl) (wa_cons (we_var 0) (wa_cons (we_var 5) (wa_cons (we_var 3) wa_nil)))))) (dss_one (ds_if (wt_tru (we_var 6)) (dss_cons (ds_append (pv 4) (we_tup (wa_cons (we_var 5) (wa_cons (we_ix (we_var 6) we_int (fun _ _ => rfl)) wa_nil)))) (dss_one (ds_remove (pv 3) (we_ix (we_var 6) we_int (fun _ _ => rfl))))) (dss_one (ds_append (pv 4) (we_tup (wa_cons (we_var 5) (wa_cons (we_gint (by rfl) B.NO_PAIR.choose_spec) wa_nil))))))))) (dss_one (ds_ret (we_callTy call_tuple_of ck_tuple (by rfl) B.tuple PyProof.Rows.boot_tuple (wa_cons (we_var 4) wa_nil))))))), fun as n R hl hc => ?_⟩
  obtain ⟨feet, pairs, order, liking, rfl, ho, hk, ho2, hk2, hR⟩ := hc
  refine ⟨_, rfl, _, _, rfl, rfl, Nat.zero_le _, _, rfl, _, rfl, ?_⟩
  refine forR_inv (fun k ρ n' => n' = n ∧ ∃ left run, (left, run) = (order.take k).foldl (stepF feet pairs) (liking, []) ∧ InR pairs.length left ∧ left.length ≤ 100 ∧ run.length ≤ k ∧ ∃ a5 a6, ρ = [some (.dat (hallD feet pairs)), some (.dat (.tuple (order.map .int))), some (.dat (.list (liking.map .int))), some (.mt (left.map .int)), some (.mt (run.map prD)), a5, a6])
    ⟨rfl, liking, [], rfl, hk, hk2, Nat.le_refl _, none, none, rfl⟩ ?_ ?_
  · rintro k x ρ n' hx ⟨rfl, left, run, he, hl1, hl2, hr2, a5, a6, rfl⟩
    obtain ⟨g, hg, rfl⟩ := map_get hx
    have hgo := ho g (List.mem_of_getElem? hg)
    have hk100 : k < 100 := Nat.lt_of_lt_of_le (List.getElem?_eq_some_iff.mp hg).1 ho2
    have hstep := fold_take (f := stepF feet pairs) (b := (liking, [])) hg
    rw [← he] at hstep
    refine ⟨_, rfl, _, rfl, _, rfl, rfl, feet, pairs, left, g, rfl, hgo.1, hgo.2, hl1, hl2, ?_⟩
    unfold stepF at hstep
    simp only at hstep
    have hsub : ∀ j ∈ left.filter (fun j => decide (getI feet g ≤ getI pairs j)), j ∈ left := fun j hj => (List.mem_filter.mp hj).1
    cases e : left.filter (fun j => decide (getI feet g ≤ getI pairs j)) with
    | nil =>
      rw [e] at hstep
      refine ⟨_, rfl, _, rfl, _, rfl, by show 2 ≤ sizeLine; decide, small1000 (by rw [List.length_map]; omega), rfl, left, run ++ [(g, -1)], hstep.symm, hl1, hl2, by rw [List.length_append]; exact Nat.succ_le_succ hr2, some (.dat (.int g)), some (.dat (.list [])), by rw [List.map_append]; rfl⟩
    | cons j js =>
      rw [e] at hstep hsub
      have hj := hsub j (by simp)
      refine ⟨_, rfl, _, rfl, _, rfl, _, rfl, 0, _, rfl, atI0 j js, by show 2 ≤ sizeLine; decide, small1000 (by rw [List.length_map]; omega), _, rfl, _, rfl, 0, _, rfl, atI0 j js, left, j, rfl, rfl, hj, rfl, left.erase j, run ++ [(g, j)], hstep.symm, fun i hi => hl1 i (List.mem_of_mem_erase hi), Nat.le_trans (List.erase_sublist.length_le) hl2, by rw [List.length_append]; exact Nat.succ_le_succ hr2, some (.dat (.int g)), some (.dat (.list ((j :: js).map .int))), by rw [List.map_append]; rfl⟩
  · rintro ρ n' ⟨rfl, left, run, he, hl1, hl2, hr2, a5, a6, rfl⟩
    rw [List.length_map, List.take_length] at he
    rw [← he] at hR
    exact ⟨_, rfl, _, _, rfl, rfl, hR⟩
abbrev s_small_run : Stmt := topS 26
abbrev N_small_run : List Str := ["hall", "order", "ranks", "pair", "size", "_"]
theorem sc_small_run : FnScope N_small_run ["hall", "order"] (defScope s_small_run) := ⟨rfl, rfl, rfl, by decide +kernel, rfl, by decide +kernel, by decide +kernel⟩
theorem fn_small_run {f : Addr} {fd : FuncData} (F : Fun K "small_run" "small_run" s_small_run f fd) (B : Bn K mg C) (H_run_by_liking : Has P w K mg base "run_by_liking" 2 ["hall", "order", "liking"] c_run_by_liking) : FnG P w K mg base 3 f fd ["hall", "order"] (spD K 2 c_small_run) := by
  refine fnd (k := 2) c_small_run F sc_small_run fun cdv A outer s H hgd0 hr Y => ?_
  have hu := hr.units
  have hu1 : (A.deeper (envOfC "small_run" (defScope s_small_run) s.heap.objs.size f cdv)).units + 65 < cLine := by have := hr.un; omega
  have hu0 : (A.deeper (envOfC "small_run" (defScope s_small_run) s.heap.objs.size f cdv)).units + 1 < cLine := by have := hr.un; omega
  have hgd : (A.deeper (envOfC "small_run" (defScope s_small_run) s.heap.objs.size f cdv)).guards = some [] := hgd0
  refine ⟨_, (dss_cons (ds_set (i := 2) sc_small_run.nd rfl (Or.inl rfl) (xe_d (we_ofM (me_callB cr_sortedPO ck_sortP (by rfl) B.sorted PyProof.Rows.boot_sorted (wa_cons (we_ofM (me_compV (own := [("pair", 3), ("size", 4)]) rfl sc_small_run.nd (div_of (di_enumA (by rfl) B.enumerate (wa_cons (we_ix (we_var 0) we_int (fun _ _ => rfl)) wa_nil))) (blkOk_by (N := N_small_run) (sc := defScope s_small_run) (by decide +kernel)) gok_two (fun _ _ _ _ _ => (pg_tup rfl (pgs_cons (pg_name (i := 3) sc_small_run.nd rfl (Or.inl rfl)) (pgs_cons (pg_name (i := 4) sc_small_run.nd rfl (Or.inl rfl)) pgs_nil)))) (fun _ _ _ _ _ => wts_nil) (fun _ _ _ _ _ => (we_tup (wa_cons (we_var 4) (wa_cons (we_var 3) wa_nil)))) (by decide))) wa_nil))))) (dss_one (ds_ret (we_has H_run_by_liking hgd (hr.mono (by decide)) (by rfl) (wa_cons (we_var 0) (wa_cons (we_var 1) (wa_cons (we_ofM (me_compV (own := [("_", 5), ("pair", 3)]) rfl sc_small_run.nd (di_seqV (we_var 2)) (blkOk_by (N := N_small_run) (sc := defScope s_small_run) (by decide +kernel)) gok_two (fun _ _ _ _ _ => (pg_tup rfl (pgs_cons (pg_name (i := 5) sc_small_run.nd rfl (Or.inl rfl)) (pgs_cons (pg_name (i := 3) sc_small_run.nd rfl (Or.inl rfl)) pgs_nil)))) (fun _ _ _ _ _ => wts_nil) (fun _ _ _ _ _ => (we_var 3)) (by decide))) wa_nil))))))), fun as n R hl hc => ?_⟩
  obtain ⟨feet, pairs, order, rfl, hh, ho, ho2, hR⟩ := hc
  have hp40 := hh.p2
  have hil : (intsN pairs.length).length = pairs.length := by simp [intsN]
  refine ⟨_, rfl, 1, _, rfl, rfl, _, _, rfl, rfl, ?_⟩
  rw [enum_ints]
  refine compR_m (intsN pairs.length) _ (fun j => prD ((getI pairs) j, j)) (small1000 (by omega)) (fun x hx acc KK ha hK => ⟨_, _, rfl, _, rfl, _, rfl, by show 2 ≤ sizeLine; decide, ha, hK⟩) ?_
  refine ⟨_, (intsN pairs.length).map fun j => ((getI pairs) j, j), rfl, by rw [List.map_map]; rfl, fun qs hp hs => ?_⟩
  have hql : qs.length = pairs.length := by rw [hp.length_eq, List.length_map, hil]
  refine ⟨_, rfl, _, rfl, _, rfl, _, rfl, compR_m qs prD (fun q => .int q.2) (small1000 (by omega)) (fun x hx acc KK ha hK => ⟨_, _, rfl, _, rfl, ha, hK⟩) ?_⟩
  have hp2 : (qs.map (·.2)).Perm (intsN pairs.length) := by
    have := hp.map (·.2)
    rw [List.map_map] at this
    rwa [show ((fun x : Int × Int => x.2) ∘ fun j => ((getI pairs) j, j)) = id from rfl, List.map_id] at this
  have hkey : ∀ q ∈ qs, q.1 = (getI pairs) q.2 := fun q hq => by
    obtain ⟨j, _, rfl⟩ := List.mem_map.mp (hp.mem_iff.mp hq)
    rfl
  refine ⟨rfl, feet, pairs, order, qs.map (·.2), by rw [List.map_map]; rfl, ho, fun j hj => mem_intsN (hp2.mem_iff.mp hj), ho2, by rw [List.length_map]; omega, ?_⟩
  rw [run_same (getI pairs) feet pairs order _ (intsN pairs.length) [] hp2 ?_ (intsN_lt _) fun x hx => (mem_intsN hx).1]
  · exact hR
  · rw [List.pairwise_map]
    refine hs.imp_of_mem fun {a b} ha hb h => ?_
    rw [hkey a ha, hkey b hb] at h
    exact h
abbrev s__law_turned : Stmt := topS 34
abbrev N__law_turned : List Str := ["word"]
theorem sc__law_turned : FnScope N__law_turned ["word"] (defScope s__law_turned) := ⟨rfl, rfl, rfl, by decide +kernel, rfl, by decide +kernel, by decide +kernel⟩
theorem fn__law_turned {f : Addr} {fd : FuncData} (F : Fun K "_law_turned" "_law_turned" s__law_turned f fd) (B : Bn K mg C) : FnG P w K mg base 1 f fd ["word"] (spD K 1 c__law_turned) := by
  refine fnd (k := 0) c__law_turned F sc__law_turned fun cdv A outer s H hgd0 hr Y => ?_
  have hu := hr.units
  have hu1 : (A.deeper (envOfC "_law_turned" (defScope s__law_turned) s.heap.objs.size f cdv)).units + 65 < cLine := by have := hr.un; omega
  have hu0 : (A.deeper (envOfC "_law_turned" (defScope s__law_turned) s.heap.objs.size f cdv)).units + 1 < cLine := by have := hr.un; omega
  have hgd : (A.deeper (envOfC "_law_turned" (defScope s__law_turned) s.heap.objs.size f cdv)).guards = some [] := hgd0
  refine ⟨_, (dss_one (ds_ret (we_join we_str (we_revL (we_ofM (me_split (we_var 0) we_str)))))), fun as n R hl hc => ?_⟩
  obtain ⟨xs, rfl, hl, hi, hR⟩ := hc
  have hpl := pairsT_len hi
  have hw := wt_split (s := pairsT xs) (y := ",") (by decide +kernel)
  refine ⟨",", rfl, _, rfl, pairsT xs, rfl, ",", rfl, by decide +kernel, Nat.le_trans (show _ ≤ 1000 by omega) (by decide), _, rfl, (Txt.split (pairsT xs) ",").reverse, by rw [List.map_reverse], by rw [wt_jb _ _ (by decide +kernel), wt_rev]; omega, ?_⟩
  rw [turned_eq]
  exact hR
abbrev s_left_by : Stmt := topS 24
abbrev N_left_by : List Str := ["hall", "run", "taken", "_", "pair"]
theorem sc_left_by : FnScope N_left_by ["hall", "run"] (defScope s_left_by) := ⟨rfl, rfl, rfl, by decide +kernel, rfl, by decide +kernel, by decide +kernel⟩
theorem fn_left_by {f : Addr} {fd : FuncData} (F : Fun K "left_by" "left_by" s_left_by f fd) (B : Bn K mg C) : FnG P w K mg base 1 f fd ["hall", "run"] (spD K 2 c_left_by) := by
  refine fnd (k := 0) c_left_by F sc_left_by fun cdv A outer s H hgd0 hr Y => ?_
  have hu := hr.units
  have hu1 : (A.deeper (envOfC "left_by" (defScope s_left_by) s.heap.objs.size f cdv)).units + 65 < cLine := by have := hr.un; omega
  have hu0 : (A.deeper (envOfC "left_by" (defScope s_left_by) s.heap.objs.size f cdv)).units + 1 < cLine := by have := hr.un; omega
  have hgd : (A.deeper (envOfC "left_by" (defScope s_left_by) s.heap.objs.size f cdv)).guards = some [] := hgd0
  refine ⟨_, (dss_cons (ds_set (i := 2) sc_left_by.nd rfl (Or.inr rfl) (xe_d (we_ofM (me_compV (own := [("_", 3), ("pair", 4)]) rfl sc_left_by.nd (di_seqV (we_var 1)) (blkOk_by (N := N_left_by) (sc := defScope s_left_by) (by decide +kernel)) gok_two (fun _ _ _ _ _ => (pg_tup rfl (pgs_cons (pg_name (i := 3) sc_left_by.nd rfl (Or.inl rfl)) (pgs_cons (pg_name (i := 4) sc_left_by.nd rfl (Or.inl rfl)) pgs_nil)))) (fun _ _ _ _ _ => wts_nil) (fun _ _ _ _ _ => (we_var 4)) (by decide))))) (dss_one (ds_ret (we_callTy call_tuple_of ck_tuple (by rfl) B.tuple PyProof.Rows.boot_tuple (wa_cons (we_ofM (me_compV (own := [("pair", 4)]) rfl sc_left_by.nd (div_of (di_range1 (by rfl) B.range (wa_cons (we_callB call_len_seq ck_len (by rfl) B.len PySem.boot_len (wa_cons (we_ix (we_var 0) we_int (fun _ _ => rfl)) wa_nil)) wa_nil))) (blkOk_by (N := N_left_by) (sc := defScope s_left_by) (by decide +kernel)) gok_name (fun _ _ _ _ _ => (pg_name (i := 4) sc_left_by.nd rfl (Or.inl rfl))) (fun _ _ _ _ _ => (wts_one (wt_cmp (op_notInD hu1) bi_notIn (we_var 4) (we_var 2) (by rfl)))) (fun _ _ _ _ _ => (we_var 4)) (by decide))) wa_nil))))), fun as n R hl hc => ?_⟩
  obtain ⟨feet, pairs, run, rfl, hr1, hp40, hR⟩ := hc
  refine ⟨_, rfl, _, rfl, compR_m run prD (fun q => .int q.2) (small1000 (by omega)) (fun x hx acc KK ha hK => ⟨_, _, rfl, _, rfl, ha, hK⟩) ?_⟩
  refine ⟨_, rfl, 1, _, rfl, rfl, _, _, rfl, rfl, ((pairs.map PyData.int).length : Nat), rfl, by omega, by rw [List.length_map]; omega, ?_⟩
  rw [List.length_map, rng_ints]
  refine compR_p (intsN pairs.length) .int (fun j => !(run.any fun q => decide (q.2 = j))) .int (small1000 (by rw [intsN_len]; omega)) (fun x hx acc KK hK => ⟨_, rfl, _, rfl, rfl, rfl, _, rfl, rfl, ?_, _, rfl, ?_⟩) ?_
  · rw [show (run.map fun q => PyData.int q.2) = (run.map (·.2)).map PyData.int by rw [List.map_map]; rfl]
    exact sh_ints _
  · show if (!((run.map fun q => PyData.int q.2).any fun z => PyData.eqv z (.int x))) = true then _ else _
    rw [show (run.map fun q => PyData.int q.2) = (run.map (·.2)).map PyData.int by rw [List.map_map]; rfl, any_eqv, List.any_map]
    exact ite_imp (fun h => ⟨_, rfl, h⟩) id hK
  · exact ⟨_, _, rfl, rfl, hR⟩
abbrev s_served_by : Stmt := topS 23
abbrev N_served_by : List Str := ["hall", "run", "guest", "pair"]
theorem sc_served_by : FnScope N_served_by ["hall", "run"] (defScope s_served_by) := ⟨rfl, rfl, rfl, by decide +kernel, rfl, by decide +kernel, by decide +kernel⟩
theorem fn_served_by {f : Addr} {fd : FuncData} (F : Fun K "served_by" "served_by" s_served_by f fd) (B : Bn K mg C) : FnG P w K mg base 1 f fd ["hall", "run"] (spD K 2 c_served_by) := by
  refine fnd (k := 0) c_served_by F sc_served_by fun cdv A outer s H hgd0 hr Y => ?_
  have hu := hr.units
  have hu1 : (A.deeper (envOfC "served_by" (defScope s_served_by) s.heap.objs.size f cdv)).units + 65 < cLine := by have := hr.un; omega
  have hu0 : (A.deeper (envOfC "served_by" (defScope s_served_by) s.heap.objs.size f cdv)).units + 1 < cLine := by have := hr.un; omega
  have hgd : (A.deeper (envOfC "served_by" (defScope s_served_by) s.heap.objs.size f cdv)).guards = some [] := hgd0
  refine ⟨_, (dss_one (ds_ret (we_callTy call_tuple_of ck_tuple (by rfl) B.tuple PyProof.Rows.boot_tuple (wa_cons (we_ofM (me_callB cr_sortedI ck_sortI (by rfl) B.sorted PyProof.Rows.boot_sorted (wa_cons (we_ofM (me_compV (own := [("guest", 2), ("pair", 3)]) rfl sc_served_by.nd (di_seqV (we_var 1)) (blkOk_by (N := N_served_by) (sc := defScope s_served_by) (by decide +kernel)) gok_two (fun _ _ _ _ _ => (pg_tup rfl (pgs_cons (pg_name (i := 2) sc_served_by.nd rfl (Or.inl rfl)) (pgs_cons (pg_name (i := 3) sc_served_by.nd rfl (Or.inl rfl)) pgs_nil)))) (fun _ _ _ _ _ => (wts_one (wt_cmp (or_neA hu) bi_neA (we_var 3) (we_gint (by rfl) B.NO_PAIR.choose_spec) (nomark _)))) (fun _ _ _ _ _ => (we_var 2)) (by decide))) wa_nil))) wa_nil)))), fun as n R hl hc => ?_⟩
  obtain ⟨feet, pairs, run, rfl, hr1, hr2, hR⟩ := hc
  have hrl := hr1.len
  refine ⟨_, rfl, _, rfl, compR_p run prD (fun q => decide (q.2 ≠ -1)) (fun q => .int q.1) (small1000 (by omega)) (fun x hx acc KK hK => ⟨_, _, rfl, _, rfl, rfl, rfl, rfl, rfl, _, rfl, ?_⟩) ?_⟩
  · show if (!PyData.eqv (.int x.2) (.int (-1))) = true then _ else _
    rw [eqv_int, show (!decide (x.2 = -1)) = decide (x.2 ≠ -1) by simp]
    exact ite_imp (fun h => ⟨_, rfl, h⟩) id hK
  refine ⟨_, (run.filter fun q => decide (q.2 ≠ -1)).map (·.1), rfl, by rw [List.map_map]; rfl, fun ns' hp hs => ?_⟩
  rw [shod_uniq hr1 hp hs]
  exact ⟨_, _, rfl, rfl, hR⟩
abbrev s__law_words_right : Stmt := topS 35
abbrev N__law_words_right : List Str := ["deck", "feet", "pairs", "words", "size", "run", "left", "rest", "parts", "some", "k"]
theorem sc__law_words_right : FnScope N__law_words_right ["deck", "feet", "pairs"] (defScope s__law_words_right) := ⟨rfl, rfl, rfl, by decide +kernel, rfl, by decide +kernel, by decide +kernel⟩
theorem fn__law_words_right {f : Addr} {fd : FuncData} (F : Fun K "_law_words_right" "_law_words_right" s__law_words_right f fd) (B : Bn K mg C) (H_small_run : Has P w K mg base "small_run" 3 ["hall", "order"] c_small_run) (H__law_draw : Has P w K mg base "_law_draw" 1 ["deck", "many"] c__law_draw) (H__law_turned : Has P w K mg base "_law_turned" 1 ["word"] c__law_turned) (H_left_by : Has P w K mg base "left_by" 1 ["hall", "run"] c_left_by) (H_hall_text : Has P w K mg base "hall_text" 2 ["hall"] c_hall_text) (H_served_by : Has P w K mg base "served_by" 1 ["hall", "run"] c_served_by) : FnG P w K mg base 4 f fd ["deck", "feet", "pairs"] (spD K 3 c__law_words_right) := by
  refine fnd (k := 3) c__law_words_right F sc__law_words_right fun cdv A outer s H hgd0 hr Y => ?_
  have hu := hr.units
  have hu1 : (A.deeper (envOfC "_law_words_right" (defScope s__law_words_right) s.heap.objs.size f cdv)).units + 65 < cLine := by have := hr.un; omega
  have hu0 : (A.deeper (envOfC "_law_words_right" (defScope s__law_words_right) s.heap.objs.size f cdv)).units + 1 < cLine := by have := hr.un; omega
  have hgd : (A.deeper (envOfC "_law_words_right" (defScope s__law_words_right) s.heap.objs.size f cdv)).guards = some [] := hgd0
  refine ⟨_, (dss_cons (ds_par (i := 3) (j := 4) rfl sc__law_words_right.nd rfl rfl (by decide) rfl rfl (xe_d (we_ofM (me_split (we_has H_hall_text hgd (hr.mono (by decide)) (by rfl) (wa_cons (we_tup (wa_cons (we_var 1) (wa_cons (we_var 2) wa_nil))) wa_nil)) we_str))) (xe_d (we_bin or_addA bi_add we_int (we_has H__law_draw hgd (hr.mono (by decide)) (by rfl) (wa_cons (we_var 0) (wa_cons (we_bin op_pow bi_I we_int we_int) wa_nil))))) (by rfl)) (dss_cons (ds_if (wt_w (ww_or (wt_cmp (or_neA hu) bi_neA (we_callB call_len_seq ck_len (by rfl) B.len PySem.boot_len (wa_cons (we_var 3) wa_nil)) we_int (nomark _)) (ww_or (wt_cmp (or_neA hu) bi_neA (we_ix (we_var 3) we_int (fun _ _ => rfl)) we_str (nomark _)) (ww_or1 (wt_cmp (or_neA hu) bi_neA (we_cmp (or_eqA hu) bi_eqA (we_ix (we_var 3) we_int (fun _ _ => rfl)) we_str (nomark _)) (we_cmp (or_eqA hu) bi_eqA (we_var 2) (we_tup wa_nil) (nomark _)) (nomark _)))))) (dss_one (ds_ret we_bl)) dss_nil) (dss_cons (ds_if (wt_cmp (or_neA hu) bi_neA (we_ofM (me_split (we_has H_hall_text hgd (hr.mono (by decide)) (by rfl) (wa_cons (we_tup (wa_cons (we_revT (we_var 1)) (wa_cons (we_revT (we_var 2)) wa_nil))) wa_nil)) we_str)) (we_ofM (me_lst (wa_cons (we_has H__law_turned hgd (hr.mono (by decide)) (by rfl) (wa_cons (we_ix (we_var 3) we_int (fun _ _ => rfl)) wa_nil)) (wa_cons we_str (wa_cons (we_has H__law_turned hgd (hr.mono (by decide)) (by rfl) (wa_cons (we_ix (we_var 3) we_int (fun _ _ => rfl)) wa_nil)) wa_nil))))) (nomark _)) (dss_one (ds_ret we_bl)) dss_nil) (dss_cons (ds_if (wt_w (ww_and (wt_cmp (or_neA hu) bi_neA (we_var 2) (we_tup wa_nil) (nomark _)) (ww_and1 (wt_cmp (or_neA hu) bi_neA (we_ofM (me_split (we_has H_hall_text hgd (hr.mono (by decide)) (by rfl) (wa_cons (we_tup (wa_cons (we_var 2) (wa_cons (we_var 1) wa_nil))) wa_nil)) we_str)) (we_revL (we_var 3)) (nomark _))))) (dss_one (ds_ret we_bl)) dss_nil) (dss_cut (ds_if (wt_cmp op_lt bi_B0 (we_callB call_len_seq ck_len (by rfl) B.len PySem.boot_len (wa_cons (we_var 1) wa_nil)) we_int (nomark _)) (dss_one (ds_if (wt_cmp (or_neA hu) bi_neA (we_ofM (me_split (we_has H_hall_text hgd (hr.mono (by decide)) (by rfl) (wa_cons (we_tup (wa_cons (we_bin or_addA bi_add (we_var 1) (we_tup (wa_cons (we_var 4) wa_nil))) (wa_cons (we_var 2) wa_nil))) wa_nil)) we_str)) (we_bin or_addA bi_add (we_ofM (me_lst (wa_cons (we_bin op_add_str bi_addS (we_bin op_add_str bi_addS (we_ix (we_var 3) we_int (fun _ _ => rfl)) we_str) (we_callTy call_str_int cr_str (by rfl) B.str PyProof.Rows.boot_str (wa_cons (we_var 4) wa_nil))) wa_nil))) (we_slice (we_var 3) (wo_some we_int) wo_none)) (nomark _)) (dss_one (ds_ret we_bl)) dss_nil)) dss_nil) (dss_cut (ds_if (wt_chain op_lt op_lt bi_B0 bi_B0 we_int (we_callB call_len_seq ck_len (by rfl) B.len PySem.boot_len (wa_cons (we_var 2) wa_nil)) we_int) (dss_one (ds_if (wt_cmp (or_neA hu) bi_neA (we_ofM (me_split (we_has H_hall_text hgd (hr.mono (by decide)) (by rfl) (wa_cons (we_tup (wa_cons (we_var 1) (wa_cons (we_bin or_addA bi_add (we_var 2) (we_tup (wa_cons (we_var 4) wa_nil))) wa_nil))) wa_nil)) we_str)) (we_bin or_addA bi_add (we_slice (we_var 3) wo_none (wo_some we_int)) (we_ofM (me_lst (wa_cons (we_bin op_add_str bi_addS (we_bin op_add_str bi_addS (we_ix (we_var 3) we_int (fun _ _ => rfl)) we_str) (we_callTy call_str_int cr_str (by rfl) B.str PyProof.Rows.boot_str (wa_cons (we_var 4) wa_nil))) wa_nil)))) (nomark _)) (dss_one (ds_ret we_bl)) dss_nil)) dss_nil) (dss_cons (ds_set (i := 5) sc__law_words_right.nd rfl (Or.inl rfl) (xe_d (we_has H_small_run hgd (hr.mono (by decide)) (by rfl) (wa_cons (we_tup (wa_cons (we_var 1) (wa_cons (we_var 2) wa_nil))) (wa_cons (we_tupRg rfl (by rfl) B.tuple (wr_1 (by rfl) B.range (we_callB call_len_seq ck_len (by rfl) B.len PySem.boot_len (wa_cons (we_var 1) wa_nil)))) wa_nil))))) (dss_cons (ds_set (i := 6) sc__law_words_right.nd rfl (Or.inl rfl) (xe_d (we_callTy call_tuple_of ck_tuple (by rfl) B.tuple PyProof.Rows.boot_tuple (wa_cons (we_ofM (me_compV (own := [("k", 10)]) rfl sc__law_words_right.nd (di_seqV (we_has H_left_by hgd (hr.mono (by decide)) (by rfl) (wa_cons (we_tup (wa_cons (we_var 1) (wa_cons (we_var 2) wa_nil))) (wa_cons (we_var 5) wa_nil)))) (blkOk_by (N := N__law_words_right) (sc := defScope s__law_words_right) (by decide +kernel)) gok_name (fun _ _ _ _ _ => (pg_name (i := 10) sc__law_words_right.nd rfl (Or.inl rfl))) (fun _ _ _ _ _ => wts_nil) (fun _ _ _ _ _ => (we_ix (we_var 2) (we_var 10) (fun _ _ => rfl))) (by decide))) wa_nil)))) (dss_cons (ds_set (i := 7) sc__law_words_right.nd rfl (Or.inl rfl) (xe_d (we_ix (we_ofM (me_split (we_has H_hall_text hgd (hr.mono (by decide)) (by rfl) (wa_cons (we_tup (wa_cons (we_var 1) (wa_cons (we_var 6) wa_nil))) wa_nil)) we_str)) we_int (fun _ _ => rfl)))) (dss_cons (ds_set (i := 8) sc__law_words_right.nd rfl (Or.inr rfl) (xe_d (we_ofM (me_split (we_ix (we_var 3) we_int (fun _ _ => rfl)) we_str)))) (dss_cons (ds_setLcV (i := 9) (u := xD (dOfM _)) (hyl := rfl) (hy := rfl) (hsw := sw_true rfl rfl rfl (by decide +kernel)) (hu := lc_dat) (own := [("k", 10)]) (hc := rfl) (hN := sc__law_words_right.nd) (hi := (di_seqV (we_has H_left_by hgd (hr.mono (by decide)) (by rfl) (wa_cons (we_tup (wa_cons (we_var 1) (wa_cons (we_var 2) wa_nil))) (wa_cons (we_var 5) wa_nil))))) (ok := (blkOk_by (N := N__law_words_right) (sc := defScope s__law_words_right) (by decide +kernel))) (hk := gok_name) (hg := fun _ _ _ _ _ => (pg_name (i := 10) sc__law_words_right.nd rfl (Or.inl rfl))) (ht := fun _ _ _ _ _ => wts_nil) (he := fun _ _ _ _ _ => (we_ix (we_var 8) (we_var 10) (fun _ _ => rfl))) (hv := by decide)) (dss_cons (ds_if (wt_cmp (or_neA hu) bi_neA (we_bin or_addA bi_add (we_callB call_len_seq ck_len (by rfl) B.len PySem.boot_len (wa_cons (we_var 6) wa_nil)) (we_callB call_len_seq ck_len (by rfl) B.len PySem.boot_len (wa_cons (we_has H_served_by hgd (hr.mono (by decide)) (by rfl) (wa_cons (we_tup (wa_cons (we_var 1) (wa_cons (we_var 2) wa_nil))) (wa_cons (we_var 5) wa_nil))) wa_nil))) (we_callB call_len_seq ck_len (by rfl) B.len PySem.boot_len (wa_cons (we_var 2) wa_nil)) (nomark _)) (dss_one (ds_ret we_bl)) dss_nil) (dss_one (ds_ret (we_cmp (or_eqA hu) bi_eqA (we_var 7) (we_if (wt_cmp (or_neA hu) bi_neA (we_var 9) (we_ofM (me_lst wa_nil)) (nomark _)) (we_join we_str (we_var 9)) we_str) (nomark _)))))))))))))))), fun as n R hl hc => ?_⟩
  obtain ⟨F, P, rfl, hh, f20, p20, hn, hR⟩ := hc
  have hF : F ≠ [] := fun e => by have := hh.f1; rw [e] at this; cases this
  have tl : ∀ {A B : List Int}, HallOk A B → (hallT A B).length + 2 ≤ sizeLine := fun h => Nat.le_trans (Nat.add_le_add_right (hallT_len h) 2) (by decide)
  have pl := pairsT_len hh.pi
  have hhr : HallOk F.reverse P.reverse := ⟨by rw [List.length_reverse]; exact hh.f1, by rw [List.length_reverse]; exact hh.f2, by rw [List.length_reverse]; exact hh.p2, fun x hx => hh.fi x (List.mem_reverse.mp hx), fun x hx => hh.pi x (List.mem_reverse.mp hx)⟩
  have hFr : F.reverse ≠ [] := fun e => hF (by simpa using e)
  have c3 : ∀ A B : List Int, ∀ w ∈ [pairsT A, ("/" : Str), pairsT B], Ch3 w := fun A B w hw => by
    simp only [List.mem_cons, List.not_mem_nil, or_false] at hw
    rcases hw with rfl | rfl | rfl
    · exact ch_pairs A
    · exact ch_slash
    · exact ch_pairs B
  have e1 : (F.map PyData.int).length = F.length := List.length_map ..
  have e2 : (P.map PyData.int).length = P.length := List.length_map ..
  have eqv_nilT : ∀ L : List Int, PyData.eqv (.tuple (L.map .int)) (.tuple []) = L.isEmpty := fun L => by cases L <;> rfl
  refine ⟨_, rfl, _, rfl, by show 2 ≤ sizeLine; decide, rfl, F, P, rfl, hh, _, rfl, " ", rfl, by decide +kernel, tl hh, ?_⟩
  rw [split_hall, ← pairsT_of hF]
  refine ⟨_, rfl, ⟨by decide, by decide, by decide⟩, rfl, _, rfl, by decide, by decide, by omega, fun z z0 z1 => ?_⟩
  have z1 : z < 1000000 := z1
  refine ⟨_, rfl, _, _, rfl, rfl, rfl, rfl, sh_int _, sh_int _, _, rfl, ifF rfl ?_⟩
  refine ⟨_, rfl, 1, _, rfl, rfl, _, rfl, ifF (by decide +kernel) ?_⟩
  refine ⟨_, rfl, 2, _, rfl, rfl, _, rfl, Nat.zero_le _, rfl, rfl, sh_tints _, sh_tints [], rfl, rfl, rfl, rfl, _, rfl, neB ?_ ?_⟩
  · show decide (pairsT P = "-") = PyData.eqv (.tuple (P.map .int)) (.tuple [])
    rw [eqv_nilT, Bool.eq_iff_iff, decide_eq_true_eq, pairsT_dash hh.pi, List.isEmpty_iff]
  refine ⟨_, rfl, _, rfl, _, rfl, _, rfl, by show 2 ≤ sizeLine; decide, rfl, F.reverse, P.reverse, by rw [← List.map_reverse, ← List.map_reverse]; rfl, hhr, _, rfl, " ", rfl, by decide +kernel, tl hhr, ?_⟩
  rw [split_hall, ← pairsT_of hFr]
  refine ⟨_, rfl, 0, _, rfl, rfl, rfl, F, rfl, by omega, hh.fi, ?_⟩
  refine ⟨_, rfl, 2, _, rfl, rfl, rfl, P, rfl, by omega, hh.pi, by show 3 ≤ sizeLine; decide, rfl, rfl, sh_strs (c3 F.reverse P.reverse), sh_strs (c3 F.reverse P.reverse), _, rfl, ifF (by show (!PyData.eqv (.list ([pairsT F.reverse, "/", pairsT P.reverse].map .str)) (.list ([pairsT F.reverse, "/", pairsT P.reverse].map .str))) = false; rw [eqv_strs]; simp) ?_⟩
  have keep : ∀ {A B : Prop}, B → (P ≠ [] → B → A) → if (!PyData.eqv (.tuple (P.map .int)) (.tuple [])) = true then A else B := fun {A B} hB h => by
    rw [eqv_nilT]; by_cases e : P = []
    · subst e; exact hB
    · rw [show P.isEmpty = false by cases hP : P with | nil => exact absurd hP e | cons => rfl]; exact h e hB
  refine ⟨_, rfl, Nat.zero_le _, rfl, rfl, sh_tints _, sh_tints [], _, rfl, keep ?_ fun hP hB => ?_⟩
  rotate_left
  · have hsw : HallOk P F := ⟨Nat.pos_of_ne_zero fun e => hP (List.length_eq_zero_iff.mp e), hh.p2, hh.f2, hh.pi, hh.fi⟩
    refine ⟨_, rfl, _, rfl, by show 2 ≤ sizeLine; decide, rfl, P, F, rfl, hsw, _, rfl, " ", rfl, by decide +kernel, tl hsw, ?_⟩
    rw [split_hall, ← pairsT_of hP]
    refine ⟨_, rfl, _, rfl, rfl, rfl, sh_strs (c3 P F), sh_strs (c3 P F), _, rfl, ifF (by show (!PyData.eqv (.list ([pairsT P, "/", pairsT F].map .str)) (.list ([pairsT P, "/", pairsT F].map .str))) = false; rw [eqv_strs]; simp) hB⟩
  refine ifF rfl ?_
  have sz2 : (F.map PyData.int).length + 1 ≤ sizeLine := by rw [e1]; exact Nat.le_trans (show _ ≤ 1000 by omega) (by decide)
  have sz3 : (P.map PyData.int).length + 1 ≤ sizeLine := by rw [e2]; exact Nat.le_trans (show _ ≤ 1000 by omega) (by decide)
  have lg : (1 + z).natAbs.log2 < 1920 := num_log (by omega)
  have pl3 : ∀ X : List Int, X.length ≤ 20 → In1 (10 ^ 6) X → (pairsT X).length + 2 ≤ sizeLine := fun X hX h => by
    have := pairsT_len h
    exact Nat.le_trans (show _ ≤ 1000 by omega) (by decide)
  have lc : ("," : Str).length = 1 := by decide +kernel
  have pl1 : ∀ X : List Int, X.length ≤ 20 → In1 (10 ^ 6) X → (pairsT X).length + (",":Str).length ≤ sizeLine := fun X hX h => by
    have := pairsT_len h
    rw [lc]
    exact Nat.le_trans (show _ ≤ 1000 by omega) (by decide)
  have pl2 : ∀ X : List Int, X.length ≤ 20 → In1 (10 ^ 6) X → (pairsT X ++ ",").length + (toString (1 + z):Str).length ≤ sizeLine := fun X hX h => by
    have h1 := pairsT_len h
    have h2 : (toString (1 + z):Str).length ≤ 7 := num_len (by omega)
    have h3 : (pairsT X ++ "," : Str).length = (pairsT X).length + ("," : Str).length := by rw [len_chs, len_chs, len_chs, chs_app, List.length_append]
    rw [h3, lc]
    exact Nat.le_trans (show _ ≤ 1000 by omega) (by decide)
  refine ⟨fun ρ m => m = n + 1 ∧ ρ = [some (.deck false), some (.dat (sizesD F)), some (.dat (sizesD P)), some (.dat (.list ([pairsT F, "/", pairsT P].map .str))), some (.dat (.int (1 + z))), none, none, none, none, none, none], ?_, ?_⟩
  · refine ⟨_, rfl, _, _, rfl, rfl, _, rfl, ?_⟩
    by_cases hl : F.length < 20
    rotate_left
    · exact iteDF (by rw [List.length_map]; omega) ⟨rfl, rfl⟩
    refine iteD (by rw [List.length_map]; omega) ?_
    have hh1 : HallOk (F ++ [1 + z]) P := ⟨by rw [List.length_append]; show 1 ≤ F.length + 1; omega, by rw [List.length_append]; show F.length + 1 ≤ 40; omega, hh.p2, fun x hx => by
      rcases List.mem_append.mp hx with h | h
      · exact hh.fi x h
      · rw [List.mem_singleton.mp h]; omega, hh.pi⟩
    refine ⟨_, rfl, _, rfl, by show 1 ≤ sizeLine; decide, sz2, _, rfl, by show 2 ≤ sizeLine; decide, rfl, F ++ [1 + z], P, by rw [show hallD (F ++ [1 + z]) P = .tuple [.tuple ((F ++ [1 + z]).map .int), .tuple (P.map .int)] from rfl, List.map_append]; rfl, hh1, _, rfl, " ", rfl, by decide +kernel, tl hh1, ?_⟩
    rw [split_hall, joinT_snoc hF, ← pairsT_of hF]
    refine ⟨_, rfl, 0, _, rfl, rfl, _, _, rfl, rfl, pl1 F f20 hh.fi, _, rfl, 1 + z, rfl, lg, _, _, rfl, rfl, pl2 F f20 hh.fi, by show 1 ≤ sizeLine; decide, _, rfl, 1, rfl, by show 3 ≤ sizeLine; decide, rfl, rfl, ?_⟩
    have w1 : ∀ w ∈ [pairsT F ++ "," ++ numT (1 + z), ("/" : Str), pairsT P], Ch3 w := fun w hw => by
      simp only [List.mem_cons, List.not_mem_nil, or_false] at hw
      rcases hw with rfl | rfl | rfl
      · exact ((ch_pairs F).app ch_comma).app (Ch3.num _)
      · exact ch_slash
      · exact ch_pairs P
    exact ⟨sh_strs w1, sh_strs w1, _, rfl, ifF (by show (!PyData.eqv (.list ([pairsT F ++ "," ++ numT (1 + z), "/", pairsT P].map .str)) (.list ([pairsT F ++ "," ++ numT (1 + z), "/", pairsT P].map .str))) = false; rw [eqv_strs]; simp) ⟨rfl, rfl⟩⟩
  intro ρ' n' hj
  obtain ⟨rfl, rfl⟩ := hj
  refine ⟨fun ρ m => m = n + 1 ∧ ρ = [some (.deck false), some (.dat (sizesD F)), some (.dat (sizesD P)), some (.dat (.list ([pairsT F, "/", pairsT P].map .str))), some (.dat (.int (1 + z))), none, none, none, none, none, none], ?_, ?_⟩
  · refine ⟨_, rfl, _, _, rfl, rfl, _, rfl, ?_⟩
    by_cases hP : P = []
    · subst hP
      exact ifF rfl ⟨_, rfl, ifF rfl ⟨rfl, rfl⟩⟩
    have hp0 : 0 < P.length := Nat.pos_of_ne_zero fun e => hP (List.length_eq_zero_iff.mp e)
    refine iteD (by rw [List.length_map]; omega) ⟨_, rfl, ?_⟩
    by_cases hl : P.length < 20
    rotate_left
    · exact iteDF (by rw [List.length_map]; omega) ⟨rfl, rfl⟩
    refine iteD (by rw [List.length_map]; omega) ?_
    have hh1 : HallOk F (P ++ [1 + z]) := ⟨hh.f1, hh.f2, by rw [List.length_append]; show P.length + 1 ≤ 40; omega, hh.fi, fun x hx => by
      rcases List.mem_append.mp hx with h | h
      · exact hh.pi x h
      · rw [List.mem_singleton.mp h]; omega⟩
    have hP1 : P ++ [1 + z] ≠ [] := by simp
    refine ⟨_, rfl, _, rfl, _, rfl, by show 1 ≤ sizeLine; decide, sz3, by show 2 ≤ sizeLine; decide, rfl, F, P ++ [1 + z], by rw [show hallD F (P ++ [1 + z]) = .tuple [.tuple (F.map .int), .tuple ((P ++ [1 + z]).map .int)] from rfl, List.map_append]; rfl, hh1, _, rfl, " ", rfl, by decide +kernel, tl hh1, ?_⟩
    rw [split_hall, pairsT_of hP1, joinT_snoc hP, ← pairsT_of hF, ← pairsT_of hP]
    refine ⟨_, rfl, 2, rfl, _, rfl, 2, _, rfl, rfl, _, _, rfl, rfl, pl1 P p20 hh.pi, _, rfl, 1 + z, rfl, lg, _, _, rfl, rfl, pl2 P p20 hh.pi, by show 1 ≤ sizeLine; decide, by show 3 ≤ sizeLine; decide, rfl, rfl, ?_⟩
    have w1 : ∀ w ∈ [pairsT F, ("/" : Str), pairsT P ++ "," ++ numT (1 + z)], Ch3 w := fun w hw => by
      simp only [List.mem_cons, List.not_mem_nil, or_false] at hw
      rcases hw with rfl | rfl | rfl
      · exact ch_pairs F
      · exact ch_slash
      · exact ((ch_pairs P).app ch_comma).app (Ch3.num _)
    exact ⟨sh_strs w1, sh_strs w1, _, rfl, ifF (by show (!PyData.eqv (.list ([pairsT F, "/", pairsT P ++ "," ++ numT (1 + z)].map .str)) (.list ([pairsT F, "/", pairsT P ++ "," ++ numT (1 + z)].map .str))) = false; rw [eqv_strs]; simp) ⟨rfl, rfl⟩⟩
  intro ρ' n' hj
  obtain ⟨rfl, rfl⟩ := hj
  have hv : RunV (fun a b => getI P a ≤ getI P b) F P (smallR F P) := small_v F P
  have hrl : (smallR F P).length = F.length := hv.len
  have hLi : ∀ j ∈ leftL P.length (smallR F P), 0 ≤ j ∧ j < P.length := fun j hj => mem_intsN (leftL_iff.mp hj).1
  have hLn : (leftL P.length (smallR F P)).length ≤ 20 := Nat.le_trans (List.length_filter_le _ _) (by rw [intsN_len]; exact p20)
  have rng : ∀ k : Nat, rngD 0 ((k : Int) - 0).toNat = (intsN k).map .int := fun k => by
    rw [show ((k : Int) - 0).toNat = ((k : Nat) : Int).toNat by omega, rng_ints]
  refine ⟨_, rfl, _, rfl, by show 2 ≤ sizeLine; decide, _, rfl, _, _, rfl, rfl, _, rfl, ⟨by omega, by omega, by rw [e1]; omega, by rw [e1]; omega, by rw [e1]; omega⟩, ?_⟩
  rw [rng, e1]
  refine ⟨rfl, F, P, intsN F.length, rfl, hh, fun _ h => mem_intsN h, by rw [intsN_len]; omega, ?_⟩
  rw [show ruled (getI P) F P (intsN F.length) = smallR F P from rfl]
  refine ⟨_, rfl, _, rfl, by show 2 ≤ sizeLine; decide, _, rfl, rfl, F, P, smallR F P, rfl, by omega, by omega, ?_⟩
  refine ⟨_, rfl, compR_m (leftL P.length (smallR F P)) .int (fun j => .int (getI P j)) (small1000 (by omega)) (fun j hj acc KK ha hK => ⟨_, rfl, _, rfl, j, _, rfl, atI_get (hLi j hj).1 (hLi j hj).2, ha, hK⟩) ?_⟩
  have hLP : HallOk F ((leftL P.length (smallR F P)).map (getI P)) := ⟨hh.f1, hh.f2, by rw [List.length_map]; omega, hh.fi, fun x hx => by
    obtain ⟨j, hj, rfl⟩ := List.mem_map.mp hx
    exact hh.pi _ (getI_mem (hLi j hj).1 (hLi j hj).2)⟩
  have eL : (leftL P.length (smallR F P)).map (fun j => PyData.int (getI P j)) = ((leftL P.length (smallR F P)).map (getI P)).map .int := by rw [List.map_map]; rfl
  rw [eL]
  refine ⟨_, _, rfl, rfl, _, rfl, _, rfl, by show 2 ≤ sizeLine; decide, rfl, F, (leftL P.length (smallR F P)).map (getI P), rfl, hLP, _, rfl, " ", rfl, by decide +kernel, tl hLP, ?_⟩
  rw [split_hall]
  refine ⟨2, _, rfl, rfl, _, rfl, 2, _, rfl, rfl, _, rfl, ",", rfl, by decide +kernel, pl3 P p20 hh.pi, ?_⟩
  have hpt : ∀ j ∈ leftL P.length (smallR F P), atI ((Txt.split (pairsT P) ",").map PyData.str) j = some (.str (numT (getI P j))) := fun j hj => by
    have hb := hLi j hj
    have hP : P ≠ [] := fun e => by rw [e] at hb; simp at hb; omega
    have hj2 : j.toNat < P.length := by omega
    rw [split_pairsT, if_neg hP]
    unfold atI ixN getI
    rw [if_pos hb.1, if_pos (by rw [List.length_map, List.length_map]; exact hb.2)]
    simp [hj2]
  refine ⟨_, rfl, _, rfl, by show 2 ≤ sizeLine; decide, _, rfl, rfl, F, P, smallR F P, rfl, by omega, by omega, ?_⟩
  refine ⟨_, rfl, compR_m (leftL P.length (smallR F P)) .int (fun j => .str (numT (getI P j))) (small1000 (by omega)) (fun j hj acc KK ha hK => ⟨_, rfl, _, rfl, j, _, rfl, hpt j hj, ha, hK⟩) ?_⟩
  refine ⟨_, rfl, _, _, rfl, rfl, _, rfl, _, rfl, by show 2 ≤ sizeLine; decide, _, rfl, rfl, F, P, smallR F P, rfl, hv.ok, hh.f2, _, _, rfl, rfl, ?_⟩
  refine ⟨_, rfl, _, _, rfl, rfl, rfl, rfl, sh_int _, sh_int _, _, rfl, neI ?_ ?_⟩
  · rw [List.length_map, List.length_map, List.length_map, List.length_map, shod_len hv.ok]
    have := left_cntP hh.f1 hv.any
    omega
  have ews : (leftL P.length (smallR F P)).map (fun j => PyData.str (numT (getI P j))) = ((leftL P.length (smallR F P)).map (fun j => numT (getI P j))).map .str := by rw [List.map_map]; rfl
  have shw : Sh (.list (((leftL P.length (smallR F P)).map (fun j => numT (getI P j))).map .str)) := sh_strs fun w hw => by
    obtain ⟨j, _, rfl⟩ := List.mem_map.mp hw
    exact Ch3.num _
  rw [ews]
  by_cases hL : leftL P.length (smallR F P) = []
  · rw [hL]
    refine ⟨_, rfl, _, rfl, Nat.zero_le _, rfl, rfl, sh_strs (fun w hw => nomatch hw), sh_strs (ws := []) (fun w hw => nomatch hw), _, rfl, ifF rfl ?_⟩
    exact hR
  · refine ⟨_, rfl, _, rfl, Nat.zero_le _, rfl, rfl, shw, sh_strs (ws := []) (fun w hw => nomatch hw), _, rfl, ifN' ?_ ?_⟩
    · show PyData.eqv (.list (((leftL P.length (smallR F P)).map (fun j => numT (getI P j))).map .str)) (.list (([] : List Str).map .str)) = false
      rw [eqv_strs]
      exact decide_eq_false (by simpa using hL)
    have hL2 : (leftL P.length (smallR F P)).map (getI P) ≠ [] := by simpa using hL
    have ej : Txt.join "," ((leftL P.length (smallR F P)).map (fun j => numT (getI P j))) = pairsT ((leftL P.length (smallR F P)).map (getI P)) := by
      rw [pairsT_of hL2]
      unfold joinT
      rw [List.map_map]
      rfl
    have hjl : (((leftL P.length (smallR F P)).map (fun j => numT (getI P j))).map (·.length)).sum + ((leftL P.length (smallR F P)).map (fun j => numT (getI P j))).length * (",":Str).length ≤ 16777216 := by
      have hn : ∀ w ∈ (leftL P.length (smallR F P)).map (fun j => numT (getI P j)), w.length ≤ 7 := fun w hw => by
        obtain ⟨j, hj, rfl⟩ := List.mem_map.mp hw
        have hb := hLi j hj
        have h1 := hh.pi _ (getI_mem hb.1 hb.2)
        exact num_len (by omega)
      have key : ∀ ws : List Str, (∀ w ∈ ws, w.length ≤ 7) → (ws.map (·.length)).sum ≤ 7 * ws.length := fun ws => by
        induction ws with
        | nil => intro _; exact Nat.zero_le _
        | cons w ws ih =>
          intro h
          have h1 := h w (List.mem_cons_self ..)
          have h2 := ih fun x hx => h x (List.mem_cons_of_mem _ hx)
          simp only [List.map_cons, List.sum_cons, List.length_cons]
          omega
      have h1 := key _ hn
      rw [List.length_map] at h1 ⊢
      rw [lc]
      omega
    refine ⟨_, rfl, _, rfl, _, rfl, hjl, ?_⟩
    rw [ej]
    show R (.bool (decide (pairsT ((leftL P.length (smallR F P)).map (getI P)) = pairsT ((leftL P.length (smallR F P)).map (getI P))))) _
    rw [decide_eq_true rfl]
    exact hR
abbrev s_number_in : Stmt := topS 14
abbrev N_number_in : List Str := ["word", "digits", "number"]
theorem sc_number_in : FnScope N_number_in ["word", "digits"] (defScope s_number_in) := ⟨rfl, rfl, rfl, by decide +kernel, rfl, by decide +kernel, by decide +kernel⟩
theorem fn_number_in {f : Addr} {fd : FuncData} (F : Fun K "number_in" "number_in" s_number_in f fd) (B : Bn K mg C) : FnG P w K mg base 1 f fd ["word", "digits"] (spD K 2 c_number_in) := by
  refine fnd (k := 0) c_number_in F sc_number_in fun cdv A outer s H hgd0 hr Y => ?_
  have hu := hr.units
  have hu1 : (A.deeper (envOfC "number_in" (defScope s_number_in) s.heap.objs.size f cdv)).units + 65 < cLine := by have := hr.un; omega
  have hu0 : (A.deeper (envOfC "number_in" (defScope s_number_in) s.heap.objs.size f cdv)).units + 1 < cLine := by have := hr.un; omega
  have hgd : (A.deeper (envOfC "number_in" (defScope s_number_in) s.heap.objs.size f cdv)).guards = some [] := hgd0
  refine ⟨_, (dss_cons (ds_if (wt_w (ww_or (wt_cmp op_gt bi_B0 (we_callB call_len_str ck_lenS (by rfl) B.len PySem.boot_len (wa_cons (we_var 0) wa_nil)) (we_var 1) (nomark _)) (ww_or (wt_not (wt_val (we_isascii (we_var 0)))) (ww_or1 (wt_not (wt_val (we_isdigit (we_var 0)))))))) (dss_one (ds_ret we_non)) dss_nil) (dss_cons (ds_set (i := 2) sc_number_in.nd rfl (Or.inl rfl) (xe_d (we_callTy call_int_str ck_intS (by rfl) B.int PyProof.Rows.boot_int (wa_cons (we_var 0) wa_nil)))) (dss_cons (ds_if (wt_cmp (or_neA hu) bi_neA (we_callTy call_str_int cr_str (by rfl) B.str PyProof.Rows.boot_str (wa_cons (we_var 2) wa_nil)) (we_var 0) (nomark _)) (dss_one (ds_ret we_non)) dss_nil) (dss_one (ds_ret (we_var 2)))))), fun as n R hl hc => ?_⟩
  obtain ⟨w, k, rfl, hw, hk, hR⟩ := hc
  have hs := digs_txt w
  refine ⟨_, rfl, w, rfl, Nat.le_trans hw (by decide), _, rfl, _, rfl, ?_⟩
  by_cases h1 : w.length ≤ k
  · refine iteDF (by omega) ⟨_, rfl, w, rfl, trivial, _, rfl, ?_⟩
    cases ha : Txt.isascii w with
    | false =>
      rw [ha, Bool.false_and] at hs
      refine iteT (iteT ?_)
      show R .none n
      unfold numOD numO at hR
      rw [← hs] at hR
      simpa using hR
    | true =>
      rw [ha, Bool.true_and] at hs
      refine iteF ⟨_, rfl, w, rfl, trivial, _, rfl, ?_⟩
      cases hb : Txt.isdigit w with
      | false =>
        rw [hb] at hs
        refine iteT ?_
        show R .none n
        unfold numOD numO at hR
        rw [← hs] at hR
        simpa using hR
      | true =>
        rw [hb] at hs
        refine iteF ⟨_, rfl, w, _, rfl, int_txt hs.symm (by omega), by omega, ?_⟩
        refine ⟨_, rfl, _, rfl, ?_, _, rfl, ?_⟩
        · exact val_log (digs_all hs.symm).1 (by rw [← len_chs]; omega)
        refine ⟨_, rfl, ?_⟩
        unfold numOD numO at hR
        by_cases h3 : TL.numL (valL (chs w)) = chs w
        · rw [if_pos ⟨h1, hs.symm, h3⟩] at hR
          refine ifN (by rw [str_num]; exact decide_eq_true h3) ⟨_, rfl, hR⟩
        · rw [if_neg fun q => h3 q.2.2] at hR
          refine ifNF (by rw [str_num]; exact decide_eq_false h3) hR
  · refine iteD (by omega) ?_
    show R .none n
    unfold numOD numO at hR
    rw [if_neg fun q => h1 q.1] at hR
    exact hR
abbrev s_is_number : Stmt := topS 7
abbrev N_is_number : List Str := ["value"]
theorem sc_is_number : FnScope N_is_number ["value"] (defScope s_is_number) := ⟨rfl, rfl, rfl, by decide +kernel, rfl, by decide +kernel, by decide +kernel⟩
theorem fn_is_number {f : Addr} {fd : FuncData} (F : Fun K "is_number" "is_number" s_is_number f fd) (B : Bn K mg C) : FnG P w K mg base 1 f fd ["value"] (spD K 1 c_is_number) := by
  refine fnd (k := 0) c_is_number F sc_is_number fun cdv A outer s H hgd0 hr Y => ?_
  have hu := hr.units
  have hu1 : (A.deeper (envOfC "is_number" (defScope s_is_number) s.heap.objs.size f cdv)).units + 65 < cLine := by have := hr.un; omega
  have hu0 : (A.deeper (envOfC "is_number" (defScope s_is_number) s.heap.objs.size f cdv)).units + 1 < cLine := by have := hr.un; omega
  have hgd : (A.deeper (envOfC "is_number" (defScope s_is_number) s.heap.objs.size f cdv)).guards = some [] := hgd0
  refine ⟨_, (dss_one (ds_ret (we_and (we_isi (.inl rfl) (by rfl) B.isinstance (we_var 0) (by rfl) B.int PyProof.Rows.boot_int) (we_one (we_not (we_isi (.inr (.inl rfl)) (by rfl) B.isinstance (we_var 0) (by rfl) B.bool PyProof.Rows.boot_bool)))))), fun as n R hl hc => ?_⟩
  obtain ⟨d, rfl, hnr, hR⟩ := hc
  cases d with
  | int z => exact ⟨_, rfl, rfl, asB_T (isi_ii z) (iteT ⟨_, rfl, rfl, asB_F (isi_ib z) hR⟩)⟩
  | bool b => exact ⟨_, rfl, rfl, asB_T (isi_bi b) (iteT ⟨_, rfl, rfl, asB_T (isi_bb b) hR⟩)⟩
  | none => exact ⟨_, rfl, rfl, asB_F (show isiB "NoneType" "int" = false by decide +kernel) hR⟩
  | str s => exact ⟨_, rfl, rfl, asB_F (show isiB "str" "int" = false by decide +kernel) hR⟩
  | list ds => exact ⟨_, rfl, rfl, asB_F (show isiB "list" "int" = false by decide +kernel) hR⟩
  | tuple ds => exact ⟨_, rfl, rfl, asB_F (show isiB "tuple" "int" = false by decide +kernel) hR⟩
  | dict kvs => exact ⟨_, rfl, isDR_dat hnr, asB_F (show isiB "dict" "int" = false by decide +kernel) hR⟩
abbrev s_is_number_from : Stmt := topS 8
abbrev N_is_number_from : List Str := ["value", "low", "high"]
theorem sc_is_number_from : FnScope N_is_number_from ["value", "low", "high"] (defScope s_is_number_from) := ⟨rfl, rfl, rfl, by decide +kernel, rfl, by decide +kernel, by decide +kernel⟩
theorem fn_is_number_from {f : Addr} {fd : FuncData} (F : Fun K "is_number_from" "is_number_from" s_is_number_from f fd) (B : Bn K mg C) (H_is_number : Has P w K mg base "is_number" 1 ["value"] c_is_number) : FnG P w K mg base 2 f fd ["value", "low", "high"] (spD K 3 c_is_number_from) := by
  refine fnd (k := 1) c_is_number_from F sc_is_number_from fun cdv A outer s H hgd0 hr Y => ?_
  have hu := hr.units
  have hu1 : (A.deeper (envOfC "is_number_from" (defScope s_is_number_from) s.heap.objs.size f cdv)).units + 65 < cLine := by have := hr.un; omega
  have hu0 : (A.deeper (envOfC "is_number_from" (defScope s_is_number_from) s.heap.objs.size f cdv)).units + 1 < cLine := by have := hr.un; omega
  have hgd : (A.deeper (envOfC "is_number_from" (defScope s_is_number_from) s.heap.objs.size f cdv)).guards = some [] := hgd0
  refine ⟨_, (dss_one (ds_ret (we_and (we_has H_is_number hgd (hr.mono (by decide)) (by rfl) (wa_cons (we_var 0) wa_nil)) (we_one (we_chain op_le op_le bi_B0 bi_B0 (we_var 1) (we_var 0) (we_var 2)))))), fun as n R hl hc => ?_⟩
  obtain ⟨d, a, b, rfl, hnr, hR⟩ := hc
  refine ⟨_, rfl, rfl, d, rfl, hnr, ?_⟩
  cases d with
  | int z =>
    have hR : R (.bool (decide (a ≤ z) && decide (z ≤ b))) n := hR
    refine asB_T (c := true) rfl (iteT ⟨_, rfl, _, rfl, _, rfl, ?_⟩)
    by_cases h : a ≤ z
    · rw [decide_eq_true h, Bool.true_and] at hR
      exact iteD h ⟨_, rfl, hR⟩
    · rw [decide_eq_false h, Bool.false_and] at hR
      exact ifF (decide_eq_false h) hR
  | bool z => exact asB_F (c := false) rfl hR
  | none => exact asB_F (c := false) rfl hR
  | str s => exact asB_F (c := false) rfl hR
  | list ds => exact asB_F (c := false) rfl hR
  | tuple ds => exact asB_F (c := false) rfl hR
  | dict kvs => exact asB_F (c := false) rfl hR
abbrev s_is_size : Stmt := topS 9
abbrev N_is_size : List Str := ["value"]
theorem sc_is_size : FnScope N_is_size ["value"] (defScope s_is_size) := ⟨rfl, rfl, rfl, by decide +kernel, rfl, by decide +kernel, by decide +kernel⟩
theorem fn_is_size {f : Addr} {fd : FuncData} (F : Fun K "is_size" "is_size" s_is_size f fd) (B : Bn K mg C) (H_is_number_from : Has P w K mg base "is_number_from" 2 ["value", "low", "high"] c_is_number_from) : FnG P w K mg base 3 f fd ["value"] (spD K 1 c_is_size) := by
  refine fnd (k := 2) c_is_size F sc_is_size fun cdv A outer s H hgd0 hr Y => ?_
  have hu := hr.units
  have hu1 : (A.deeper (envOfC "is_size" (defScope s_is_size) s.heap.objs.size f cdv)).units + 65 < cLine := by have := hr.un; omega
  have hu0 : (A.deeper (envOfC "is_size" (defScope s_is_size) s.heap.objs.size f cdv)).units + 1 < cLine := by have := hr.un; omega
  have hgd : (A.deeper (envOfC "is_size" (defScope s_is_size) s.heap.objs.size f cdv)).guards = some [] := hgd0
  refine ⟨_, (dss_one (ds_ret (we_has H_is_number_from hgd (hr.mono (by decide)) (by rfl) (wa_cons (we_var 0) (wa_cons we_int (wa_cons (we_gint (by rfl) B.MAX_SIZE.choose_spec) wa_nil)))))), fun as n R hl hc => ?_⟩
  obtain ⟨d, rfl, hnr, hR⟩ := hc
  exact ⟨_, rfl, rfl, d, 1, 1000000, rfl, hnr, hR⟩
abbrev s__sizes_in : Stmt := topS 15
abbrev N__sizes_in : List Str := ["word", "most", "sizes", "text", "size"]
theorem sc__sizes_in : FnScope N__sizes_in ["word", "most"] (defScope s__sizes_in) := ⟨rfl, rfl, rfl, by decide +kernel, rfl, by decide +kernel, by decide +kernel⟩
theorem fn__sizes_in {f : Addr} {fd : FuncData} (F : Fun K "_sizes_in" "_sizes_in" s__sizes_in f fd) (B : Bn K mg C) (H_number_in : Has P w K mg base "number_in" 1 ["word", "digits"] c_number_in) (H_is_size : Has P w K mg base "is_size" 3 ["value"] c_is_size) : FnG P w K mg base 4 f fd ["word", "most"] (spD K 2 c__sizes_in) := by
  refine fnd (k := 3) c__sizes_in F sc__sizes_in fun cdv A outer s H hgd0 hr Y => ?_
  have hu := hr.units
  have hu1 : (A.deeper (envOfC "_sizes_in" (defScope s__sizes_in) s.heap.objs.size f cdv)).units + 65 < cLine := by have := hr.un; omega
  have hu0 : (A.deeper (envOfC "_sizes_in" (defScope s__sizes_in) s.heap.objs.size f cdv)).units + 1 < cLine := by have := hr.un; omega
  have hgd : (A.deeper (envOfC "_sizes_in" (defScope s__sizes_in) s.heap.objs.size f cdv)).guards = some [] := hgd0
  refine ⟨_, (dss_cons (ds_setLcV (i := 2) (u := xD (dOfM _)) (hyl := rfl) (hy := rfl) (hsw := sw_true rfl rfl rfl (by decide +kernel)) (hu := lc_dat) (own := [("text", 3)]) (hc := rfl) (hN := sc__sizes_in.nd) (hi := (di_seqV (we_ofM (me_split (we_var 0) we_str)))) (ok := (blkOk_by (N := N__sizes_in) (sc := defScope s__sizes_in) (by decide +kernel))) (hk := gok_name) (hg := fun _ _ _ _ _ => (pg_name (i := 3) sc__sizes_in.nd rfl (Or.inl rfl))) (ht := fun _ _ _ _ _ => wts_nil) (he := fun _ _ _ _ _ => (we_has H_number_in hgd (hr.mono (by decide)) (by rfl) (wa_cons (we_var 3) (wa_cons (we_callB call_len_str ck_lenS (by rfl) B.len PySem.boot_len (wa_cons (we_callTy call_str_int cr_str (by rfl) B.str PyProof.Rows.boot_str (wa_cons (we_gint (by rfl) B.MAX_SIZE.choose_spec) wa_nil)) wa_nil)) wa_nil)))) (hv := by decide)) (dss_cons (ds_if (wt_w (ww_or (wt_cmp op_gt bi_B0 (we_callB call_len_seq ck_len (by rfl) B.len PySem.boot_len (wa_cons (we_var 2) wa_nil)) (we_var 1) (nomark _)) (ww_or1 (wt_not (wt_val (we_callB (cr_all rfl) ck_all (by rfl) B.all PyProof.Rows.boot_all (wa_cons (we_ofM (me_compV (own := [("size", 4)]) rfl sc__sizes_in.nd (di_seqV (we_var 2)) (blkOk_by (N := N__sizes_in) (sc := defScope s__sizes_in) (by decide +kernel)) gok_name (fun _ _ _ _ _ => (pg_name (i := 4) sc__sizes_in.nd rfl (Or.inl rfl))) (fun _ _ _ _ _ => wts_nil) (fun _ _ _ _ _ => (we_has H_is_size hgd (hr.mono (by decide)) (by rfl) (wa_cons (we_var 4) wa_nil))) (by decide))) wa_nil))))))) (dss_one (ds_ret we_non)) dss_nil) (dss_one (ds_ret (we_callTy call_tuple_of ck_tuple (by rfl) B.tuple PyProof.Rows.boot_tuple (wa_cons (we_var 2) wa_nil)))))), fun as n R hl hc => ?_⟩
  obtain ⟨w, k, rfl, hw, hk, hR⟩ := hc
  have hwt := wt_split (s := w) (y := ",") (by decide +kernel)
  have hwl := wt_len (Txt.split w ",")
  have hl7 : (toString (1000000 : Int) : Str).length = 7 := by decide +kernel
  have hlt : (Txt.split w ",").length < sizeLine := Nat.lt_of_le_of_lt (Nat.le_trans hwl (Nat.le_trans hwt (Nat.add_le_add_right hw 1))) (by decide)
  refine ⟨_, rfl, w, rfl, ",", rfl, by decide +kernel, Nat.le_trans (Nat.add_le_add_right hw 2) (by decide), _, rfl, compR_m (Txt.split w ",") .str (fun t => numOD t 7) hlt (fun t ht acc KK ha hK => ?_) ?_⟩
  · have := wt_mem ht
    refine ⟨_, rfl, 1000000, rfl, by decide, (toString (1000000 : Int) : Str), rfl, by rw [hl7]; decide, rfl, t, 7, ?_, by omega, by decide, ha, hK⟩
    rw [hl7]
  refine ⟨_, rfl, _, _, rfl, rfl, _, rfl, _, rfl, ?_⟩
  have hall : ((Txt.split w ",").map fun t => szD (numOD t 7)).all id = (Txt.split w ",").all fun t => (szO t).isSome := by
    rw [List.all_map]
    congr 1
    funext t
    exact szD_num t
  unfold szsD szsO at hR
  rw [List.length_map]
  by_cases h1 : (Txt.split w ",").length ≤ k
  · refine iteDF (by omega) ?_
    refine ⟨_, rfl, _, rfl, compR_m (Txt.split w ",") (fun t => numOD t 7) (fun t => .bool (szD (numOD t 7))) hlt (fun t ht acc KK ha hK => ⟨_, rfl, rfl, _, rfl, ?_, ha, hK⟩) ?_⟩
    · unfold numOD; split <;> rfl
    refine ⟨_, (Txt.split w ",").map fun t => szD (numOD t 7), rfl, by rw [List.map_map]; rfl, ?_⟩
    rw [hall]
    refine ⟨_, rfl, ?_⟩
    cases ha : ((Txt.split w ",").all fun t => (szO t).isSome) with
    | false =>
      refine iteT ?_
      show R .none n
      rw [if_neg fun q => by rw [ha] at q; exact absurd q.2 Bool.false_ne_true] at hR
      exact hR
    | true =>
      refine iteF ⟨_, rfl, _, _, rfl, rfl, ?_⟩
      rw [if_pos ⟨h1, ha⟩] at hR
      have e : (Txt.split w ",").map (fun t => numOD t 7) = ((Txt.split w ",").map szV).map .int := by
        rw [List.map_map]
        exact List.map_congr_left fun t ht => numOD_val (List.all_eq_true.mp ha t ht)
      rw [e]
      exact hR
  · refine iteD (by omega) ?_
    show R .none n
    rw [if_neg fun q => h1 q.1] at hR
    exact hR
abbrev s__part_in : Stmt := topS 16
abbrev N__part_in : List Str := ["word", "index"]
theorem sc__part_in : FnScope N__part_in ["word", "index"] (defScope s__part_in) := ⟨rfl, rfl, rfl, by decide +kernel, rfl, by decide +kernel, by decide +kernel⟩
theorem fn__part_in {f : Addr} {fd : FuncData} (F : Fun K "_part_in" "_part_in" s__part_in f fd) (B : Bn K mg C) (H__sizes_in : Has P w K mg base "_sizes_in" 4 ["word", "most"] c__sizes_in) : FnG P w K mg base 5 f fd ["word", "index"] (spD K 2 c__part_in) := by
  refine fnd (k := 4) c__part_in F sc__part_in fun cdv A outer s H hgd0 hr Y => ?_
  have hu := hr.units
  have hu1 : (A.deeper (envOfC "_part_in" (defScope s__part_in) s.heap.objs.size f cdv)).units + 65 < cLine := by have := hr.un; omega
  have hu0 : (A.deeper (envOfC "_part_in" (defScope s__part_in) s.heap.objs.size f cdv)).units + 1 < cLine := by have := hr.un; omega
  have hgd : (A.deeper (envOfC "_part_in" (defScope s__part_in) s.heap.objs.size f cdv)).guards = some [] := hgd0
  refine ⟨_, (dss_cons (ds_if (wt_cmp (or_eqA hu) bi_eqA (we_var 1) we_int (nomark _)) (dss_one (ds_ret (we_has H__sizes_in hgd (hr.mono (by decide)) (by rfl) (wa_cons (we_var 0) (wa_cons (we_gint (by rfl) B.MAX_GUESTS.choose_spec) wa_nil))))) dss_nil) (dss_cons (ds_if (wt_w (ww_and (wt_cmp (or_eqA hu) bi_eqA (we_var 1) we_int (nomark _)) (ww_and1 (wt_cmp (or_eqA hu) bi_eqA (we_var 0) (we_gstr (by rfl) B.SLASH.choose_spec) (nomark _))))) (dss_one (ds_ret (we_var 0))) dss_nil) (dss_cons (ds_if (wt_w (ww_and (wt_cmp (or_eqA hu) bi_eqA (we_var 1) we_int (nomark _)) (ww_and1 (wt_cmp (or_eqA hu) bi_eqA (we_var 0) (we_gstr (by rfl) B.NO_PAIRS.choose_spec) (nomark _))))) (dss_one (ds_ret (we_tup wa_nil))) dss_nil) (dss_cons (ds_if (wt_cmp (or_eqA hu) bi_eqA (we_var 1) we_int (nomark _)) (dss_one (ds_ret (we_has H__sizes_in hgd (hr.mono (by decide)) (by rfl) (wa_cons (we_var 0) (wa_cons (we_gint (by rfl) B.MAX_PAIRS.choose_spec) wa_nil))))) dss_nil) (dss_one (ds_ret we_non)))))), fun as n R hl hc => ?_⟩
  obtain ⟨w, i, rfl, hw, hR⟩ := hc
  unfold partD at hR
  refine ⟨_, rfl, rfl, rfl, sh_int _, sh_int _, _, rfl, ?_⟩
  by_cases h0 : i = 0
  · subst h0
    rw [if_pos rfl] at hR
    exact ifT rfl ⟨_, rfl, rfl, w, 20, rfl, hw, by decide, hR⟩
  rw [if_neg h0] at hR
  refine iteDF (c := ((i : Nat) : Int) = 0) (by omega) ?_
  refine ⟨_, rfl, rfl, rfl, sh_int _, sh_int _, _, rfl, ?_⟩
  by_cases h1 : i = 1
  · subst h1
    rw [if_pos rfl] at hR
    refine ifT rfl ⟨_, rfl, _, rfl, ?_⟩
    by_cases hs : w = "/"
    · rw [if_pos hs] at hR
      exact iteD hs ⟨_, rfl, hR⟩
    · rw [if_neg hs] at hR
      refine iteDF hs ?_
      refine ⟨_, rfl, rfl, rfl, sh_int _, sh_int _, _, rfl, ifF rfl (iteF ?_)⟩
      refine ⟨_, rfl, rfl, rfl, sh_int _, sh_int _, _, rfl, ifF rfl hR⟩
  rw [if_neg h1] at hR
  refine iteDF (c := ((i : Nat) : Int) = 1) (by omega) (iteF ?_)
  refine ⟨_, rfl, rfl, rfl, sh_int _, sh_int _, _, rfl, ?_⟩
  by_cases h2 : i = 2
  · subst h2
    rw [if_pos rfl] at hR
    refine ifT rfl ⟨_, rfl, _, rfl, ?_⟩
    by_cases hs : w = "-"
    · rw [if_pos hs] at hR
      exact iteD hs ⟨Nat.zero_le _, hR⟩
    · rw [if_neg hs] at hR
      refine iteDF hs ?_
      refine ⟨_, rfl, rfl, rfl, sh_int _, sh_int _, _, rfl, ifT rfl ⟨_, rfl, rfl, w, 20, rfl, hw, by decide, hR⟩⟩
  rw [if_neg h2] at hR
  refine iteDF (c := ((i : Nat) : Int) = 2) (by omega) (iteF ?_)
  refine ⟨_, rfl, rfl, rfl, sh_int _, sh_int _, _, rfl, iteDF (c := ((i : Nat) : Int) = 2) (by omega) hR⟩
abbrev s_parse_hall : Stmt := topS 19
abbrev N_parse_hall : List Str := ["value", "parts", "index", "word", "part", "feet", "_", "pairs"]
theorem sc_parse_hall : FnScope N_parse_hall ["value"] (defScope s_parse_hall) := ⟨rfl, rfl, rfl, by decide +kernel, rfl, by decide +kernel, by decide +kernel⟩
theorem fn_parse_hall {f : Addr} {fd : FuncData} (F : Fun K "parse_hall" "parse_hall" s_parse_hall f fd) (B : Bn K mg C) (H__part_in : Has P w K mg base "_part_in" 5 ["word", "index"] c__part_in) (H_BadText : ErrC P w K mg base "BadText" C.BadText "index") : FnGX P w K mg base 6 f fd ["value"] (spDX K 1 (c_parse_hall C)) := by
  refine fndX (k := 5) (c_parse_hall C) F sc_parse_hall fun cdv A outer s H Eh hgd0 hr Y E ok tk => ?_
  have hu := hr.units
  have hu1 : (A.deeper (envOfC "parse_hall" (defScope s_parse_hall) s.heap.objs.size f cdv)).units + 65 < cLine := by have := hr.un; omega
  have hu0 : (A.deeper (envOfC "parse_hall" (defScope s_parse_hall) s.heap.objs.size f cdv)).units + 1 < cLine := by have := hr.un; omega
  have hgd : (A.deeper (envOfC "parse_hall" (defScope s_parse_hall) s.heap.objs.size f cdv)).guards = some [] := hgd0
  refine ⟨_, (dss_cons (ds_if (wt_not (wt_val (we_isi (.inr (.inr (.inl rfl))) (by rfl) B.isinstance (we_var 0) (by rfl) B.str PyProof.Rows.boot_str))) (dss_one (ds_raise rfl tk ok H_BadText (hr.mono (by decide)) (by rfl) we_non)) dss_nil) (dss_cons (ds_set (i := 1) sc_parse_hall.nd rfl (Or.inl rfl) (xe_m (me_lst wa_nil))) (dss_cons (ds_for (passes_of rfl) rfl (di_enumA (by rfl) B.enumerate (wa_cons (we_ofM (me_split (we_var 0) we_str)) wa_nil)) ⟨(pg_tup rfl (pgs_cons (pg_name (i := 2) sc_parse_hall.nd rfl (Or.inl rfl)) (pgs_cons (pg_name (i := 3) sc_parse_hall.nd rfl (Or.inl rfl)) pgs_nil))), gok_two⟩ (dss_cons (ds_set (i := 4) sc_parse_hall.nd rfl (Or.inl rfl) (xe_d (we_has H__part_in hgd (hr.mono (by decide)) (by rfl) (wa_cons (we_var 3) (wa_cons (we_var 2) wa_nil))))) (dss_cons (ds_if (wt_cmp op_isN bi_isN (we_var 4) we_non (nomark _)) (dss_one (ds_raise rfl tk ok H_BadText (hr.mono (by decide)) (by rfl) (we_var 2))) dss_nil) (dss_one (ds_append (pv 1) (we_var 4)))))) (dss_cons (ds_if (wt_cmp op_lt bi_B0 (we_callB call_len_seq ck_len (by rfl) B.len PySem.boot_len (wa_cons (we_var 1) wa_nil)) (we_gint (by rfl) B.WORDS.choose_spec) (nomark _)) (dss_one (ds_raise rfl tk ok H_BadText (hr.mono (by decide)) (by rfl) (we_callB call_len_seq ck_len (by rfl) B.len PySem.boot_len (wa_cons (we_var 1) wa_nil)))) dss_nil) (dss_thaw (i := 1) (dss_cons (ds_asgG (we_var 1) ⟨(pg_unl rfl (pgs_cons (pg_name (i := 5) sc_parse_hall.nd rfl (Or.inl rfl)) (pgs_cons (pg_name (i := 6) sc_parse_hall.nd rfl (Or.inl rfl)) (pgs_cons (pg_name (i := 7) sc_parse_hall.nd rfl (Or.inl rfl)) pgs_nil)))), gok_threeL⟩) (dss_one (ds_ret (we_tup (wa_cons (we_var 5) (wa_cons (we_var 7) wa_nil))))))))))), fun as n R hl hc => ?_⟩
  obtain ⟨d, rfl, hnr, hl, hE, hS⟩ := hc
  rcases Classical.em (∃ s, d = .str s) with ⟨s, rfl⟩ | hd
  · obtain ⟨h1, h2⟩ := hS s rfl
    have hl := hl s rfl
    have hwt := wt_split (s := s) (y := " ") (by decide +kernel)
    have hwl := wt_len (Txt.split s " ")
    have hlt : (Txt.split s " ").length < 50000 := by omega
    refine ⟨_, rfl, rfl, _, rfl, ifNF' (isi_ss _) ?_⟩
    refine ⟨Nat.zero_le _, ?_⟩
    refine ⟨_, rfl, s, rfl, " ", rfl, by decide +kernel, Nat.le_trans (Nat.add_le_add_right hl 2) (by decide), _, _, rfl, rfl, ?_⟩
    rw [enumD_strs]
    refine forR_inv (fun k ρ n' => n' = n ∧ (∀ d ∈ (partsD (Txt.split s " ")).take k, isN d = false) ∧ ∃ a2 a3 a4 a5 a6 a7, ρ = [some (.dat (.str s)), some (.mt ((partsD (Txt.split s " ")).take k)), a2, a3, a4, a5, a6, a7])
      ⟨rfl, fun _ h => (nomatch h), none, none, none, none, none, none, rfl⟩ ?_ ?_
    · rintro k x ρ n' hx ⟨rfl, hno, a2, a3, a4, a5, a6, a7, rfl⟩
      rw [List.getElem?_map, List.getElem?_zipIdx] at hx
      obtain ⟨p, hp, rfl⟩ := Option.map_eq_some_iff.mp hx
      obtain ⟨w, hw, rfl⟩ := Option.map_eq_some_iff.mp hp
      rw [Nat.zero_add]
      have hpk := partsD_get hw
      have hwm := wt_mem (List.mem_of_getElem? hw)
      have hk : k < (Txt.split s " ").length := (List.getElem?_eq_some_iff.mp hw).1
      refine ⟨_, _, rfl, ?_⟩
      refine ⟨_, rfl, _, rfl, rfl, w, k, rfl, by omega, ?_⟩
      refine ⟨_, rfl, rfl, rfl, _, rfl, ?_⟩
      cases hn : isN (partD k w) with
      | true => exact ifT hn ⟨_, rfl, h1 k (by unfold parseR; rw [firstN_eq hpk hn hno, Nat.zero_add])⟩
      | false =>
        refine ifF hn ⟨_, rfl, Dv.dat (partD k w), rfl, ?_, rfl, fun d hd => ?_, _, _, _, _, _, _, by rw [List.take_add_one, hpk]; rfl⟩
        · rw [List.length_take, partsD_length]
          exact Nat.lt_of_le_of_lt (Nat.min_le_left _ _) (Nat.lt_trans (Nat.lt_trans hk hlt) (by decide))
        · rw [List.take_add_one, hpk] at hd
          rcases List.mem_append.mp hd with q | q
          · exact hno d q
          · rw [List.mem_singleton.mp q]; exact hn
    · rintro ρ n' ⟨rfl, hno, a2, a3, a4, a5, a6, a7, rfl⟩
      have e0 : ((Txt.split s " ").zipIdx.map fun p => PyData.tuple [.int (p.2 : Nat), .str p.1]).length = (partsD (Txt.split s " ")).length := by rw [List.length_map, List.length_zipIdx, partsD_length]
      rw [e0, List.take_length] at hno ⊢
      have hf := firstN_all (i := 0) hno
      have hpl := partsD_length (Txt.split s " ")
      refine ⟨_, rfl, _, _, rfl, rfl, _, rfl, ?_⟩
      by_cases h3 : (partsD (Txt.split s " ")).length < 3
      · refine iteD (by omega) ⟨_, rfl, _, _, rfl, rfl, h1 _ ?_⟩
        unfold parseR
        rw [hf, hpl]
        exact if_neg (by omega)
      · refine iteDF (by omega) ⟨_, rfl, ?_⟩
        have h3' : (partsD (Txt.split s " ")).length = 3 := by
          by_cases h4 : 3 < (partsD (Txt.split s " ")).length
          · exfalso
            obtain ⟨w, hw⟩ : ∃ w, (Txt.split s " ")[3]? = some w := ⟨_, List.getElem?_eq_getElem (by omega)⟩
            have := hno _ (List.mem_of_getElem? (partsD_get hw))
            have e3 : partD 3 w = .none := rfl
            rw [e3] at this
            cases this
          · omega
        have h2 := h2 (twoD (partsD (Txt.split s " "))) (by
          unfold parseR
          rw [hf]
          exact if_pos (by omega))
        generalize partsD (Txt.split s " ") = ds at *
        match ds, h3', h2 with
        | [a, b, c], _, h2 => exact ⟨_, rfl, a, b, c, rfl, _, rfl, _, rfl, by show 2 ≤ sizeLine; decide, h2⟩
  · have hd : ∀ s, d ≠ .str s := fun s e => hd ⟨s, e⟩
    have hE := hE hd
    refine ⟨_, rfl, isDR_dat hnr, _, rfl, ifN' (isi_ns hd) ?_⟩
    exact hE
abbrev s__law_accepted_right : Stmt := topS 33
abbrev N__law_accepted_right : List Str := ["text", "found"]
theorem sc__law_accepted_right : FnScope N__law_accepted_right ["text"] (defScope s__law_accepted_right) := ⟨rfl, rfl, rfl, by decide +kernel, rfl, by decide +kernel, by decide +kernel⟩
theorem fn__law_accepted_right {f : Addr} {fd : FuncData} (F : Fun K "_law_accepted_right" "_law_accepted_right" s__law_accepted_right f fd) (B : Bn K mg C) (H_parse_hall : HasX P w K mg base "parse_hall" 6 ["value"] (c_parse_hall C)) (H_hall_text : Has P w K mg base "hall_text" 2 ["hall"] c_hall_text) : FnG P w K mg base 7 f fd ["text"] (spD K 1 (c__law_accepted_right C)) := by
  refine fnd (k := 6) (c__law_accepted_right C) F sc__law_accepted_right fun cdv A outer s H hgd0 hr Y => ?_
  have hu := hr.units
  have hu1 : (A.deeper (envOfC "_law_accepted_right" (defScope s__law_accepted_right) s.heap.objs.size f cdv)).units + 65 < cLine := by have := hr.un; omega
  have hu0 : (A.deeper (envOfC "_law_accepted_right" (defScope s__law_accepted_right) s.heap.objs.size f cdv)).units + 1 < cLine := by have := hr.un; omega
  have hgd : (A.deeper (envOfC "_law_accepted_right" (defScope s__law_accepted_right) s.heap.objs.size f cdv)).guards = some [] := hgd0
  refine ⟨_, (dss_cons (ds_try_g takes0 wok0 rfl rfl (fun Y1 W1 pn xe dw1 tk1 ok1 => (dss_one (ds_set (i := 1) sc__law_accepted_right.nd rfl (Or.inl rfl) (xe_d (we_hasX tk1 ok1 H_parse_hall hgd (hr.mono (by decide)) (by rfl) (wa_cons (we_var 0) wa_nil)))))) (.bare (.one (names_own (by rfl) B.g_BadText)) (fun a oe cls d pn hz hf => (dss_one (ds_ret we_bl))) .nil)) (dss_one (ds_ret (we_cmp (or_eqA hu) bi_eqA (we_has H_hall_text hgd (hr.mono (by decide)) (by rfl) (wa_cons (we_var 1) wa_nil)) (we_var 0) (nomark _))))), fun as n R hl hc => ?_⟩
  obtain ⟨s, rfl, hl, hR⟩ := hc
  refine ⟨_, rfl, rfl, .str s, rfl, rfl, fun t e => by cases e; exact hl, fun hd => absurd rfl (hd s), fun t e => ⟨fun j hj => ?_, fun p hp => ?_⟩⟩
  · exact ⟨true, B.m_BadText_BadText, fun _ a dd => hR _ rfl, fun q => Bool.noConfusion q⟩
  · cases e
    obtain ⟨F, P, rfl, hh, f20, p20, e⟩ := parse_acc hp
    refine ⟨_, rfl, rfl, F, P, rfl, hh, _, rfl, ?_⟩
    show R (.bool (decide (hallT F P = s))) n
    rw [decide_eq_true e]
    exact hR n rfl
/-- a def of the module with any promise -/
def HasS (P : Program) (w : World) (K : PySem.W.Frag) (mg : Str → Option Value) (base : Heap) (x : Str) (k : Nat) (ps : List Str) (sp : Sp) : Prop :=
  ∃ f fd, mg x = some (.ref f) ∧ PySem.W.keepIn K (.ref f) = true ∧ Binds K fd ps [] ∧ FnG P w K mg base k f fd ps sp
theorem pe_hasS {X : Cx} {k : Nat} {ps : List Str} {sp : Sp} {x : Str} {p pos : Pos} {e : Expr} {es : List Expr} {t : TA} (h : HasS X.prog X.w X.K X.mg X.base x k ps sp) (hgd : X.A.guards = some []) (hr : Room k X.A) (hg : Gl X x)
    (ha : PA X (e :: es) t) (hdb : (x == ("__debug__" : Str)) = false := by decide) (he : starEach (e :: es) X.env = (false, eval e X.env) :: starEach es X.env := by rfl) (hpl : (backTo pos (starEach es X.env)).any (·.1) = false := by rfl) :
    PE X (.Call (.Name x p) (e :: es) [] pos) (fun σ H Q => t σ H fun vs H1 => sp vs H1 Q E0) := by
  obtain ⟨f, fd, h1, h2, h3, h4⟩ := h
  exact pe_callg h4 hgd hr hg h1 h2 h3 ha hdb he hpl
theorem spDeckA_ok {K : PySem.W.Frag} (a : Addr) (ns : List Int) (H : Hp) (Q : VK) (hS : SqL K H a (ns.map V.int)) (hl : ns.length ≤ 63)
    (k : ∀ (H' : Hp) (δ : DkS) (p : Addr), Same H H' → IsDk false δ p → δ.at0 H' 0 → (∀ b, b ∈ δ.own → H' b ≠ none) → Q (.ref p) H') : spDeckA K [.ref a] H Q E0 :=
  ⟨a, ns, rfl, hS, hl, fun H' p q s _ _ hat => k H' (dkA p q) p s ⟨q, rfl⟩ hat fun b hb => by
    obtain ⟨cells, h1, h2, _⟩ := hat
    simp only [dkA, List.mem_cons, List.not_mem_nil, or_false] at hb
    rcases hb with rfl | rfl
    · rw [h1]; nofun
    · rw [h2]; nofun⟩
abbrev s_law : Stmt := topS 36
abbrev N_law : List Str := ["script", "deck", "turn", "feet", "pairs", "text", "k", "once"]
theorem sc_law : FnScope N_law ["script"] (defScope s_law) := ⟨rfl, rfl, rfl, by decide +kernel, rfl, by decide +kernel, by decide +kernel⟩
theorem fn_law {f : Addr} {fd : FuncData} (F : Fun K "law" "law" s_law f fd) (B : Bn K mg C) (HD : HasS P w K mg base "_law_deck" 1 ["script"] (spDeckA K)) (H__law_state : Has P w K mg base "_law_state" 2 ["deck", "guests", "most"] c__law_state) (H_hall_text : Has P w K mg base "hall_text" 2 ["hall"] c_hall_text) (H__law_bent : Has P w K mg base "_law_bent" 2 ["deck", "text"] c__law_bent) (H__law_same : Has P w K mg base "_law_same" 4 ["found", "due"] (c__law_same 4)) (H__law_words_right : Has P w K mg base "_law_words_right" 4 ["deck", "feet", "pairs"] c__law_words_right) (H_parse_hall : HasX P w K mg base "parse_hall" 6 ["value"] (c_parse_hall C)) (H__law_accepted_right : Has P w K mg base "_law_accepted_right" 7 ["text"] (c__law_accepted_right C)) : FnG P w K mg base 8 f fd ["script"] (spLaw K) := by
  refine law_start (N := N_law) (k := 7) (m := 6) (kd := false) (spD0 := spDeckA) F sc_law rfl rfl spDeckA_ok fun cdv A outer s H hgd0 hr => ?_
  have hu := hr.units
  have hu1 : (A.deeper (envOfC "law" (defScope s_law) s.heap.objs.size f cdv)).units + 65 < cLine := by have := hr.un; omega
  have hu0 : (A.deeper (envOfC "law" (defScope s_law) s.heap.objs.size f cdv)).units + 1 < cLine := by have := hr.un; omega
  have hgd : (A.deeper (envOfC "law" (defScope s_law) s.heap.objs.size f cdv)).guards = some [] := hgd0
  refine ⟨ps_set (i := 1) sc_law.nd rfl (Or.inl rfl) (pe_hasS HD hgd (hr.mono (by decide)) (by rfl) (pa_cons (pv 0) pa_nil)), fun Y => ⟨_, (dss_cons (ds_for PassesOwn.never rfl (di_range1 (by rfl) B.range (wa_cons we_int wa_nil)) ⟨(pg_name (i := 2) sc_law.nd rfl (Or.inl rfl)), gok_name⟩ (dss_cons (ds_asgG (we_has H__law_state hgd (hr.mono (by decide)) (by rfl) (wa_cons (we_var 1) (wa_cons (we_ix (we_ofM (me_lst (wa_cons we_int (wa_cons we_int (wa_cons we_int wa_nil))))) (we_bin op_mod bi_I (we_var 2) we_int) (fun _ _ => rfl)) (wa_cons (we_ix (we_ofM (me_lst (wa_cons we_int (wa_cons we_int (wa_cons we_int wa_nil))))) (we_bin op_fdiv bi_I (we_var 2) we_int) (fun _ _ => rfl)) wa_nil)))) ⟨(pg_tup rfl (pgs_cons (pg_name (i := 3) sc_law.nd rfl (Or.inl rfl)) (pgs_cons (pg_name (i := 4) sc_law.nd rfl (Or.inl rfl)) pgs_nil))), gok_two⟩) (dss_cons (ds_set (i := 5) sc_law.nd rfl (Or.inl rfl) (xe_d (we_has H_hall_text hgd (hr.mono (by decide)) (by rfl) (wa_cons (we_tup (wa_cons (we_var 3) (wa_cons (we_var 4) wa_nil))) wa_nil)))) (dss_cons (ds_if (wt_w (ww_or (wt_not (wt_val (we_has H__law_same hgd (hr.mono (by decide)) (by rfl) (wa_cons (we_hasX takes0 wok0 H_parse_hall hgd (hr.mono (by decide)) (by rfl) (wa_cons (we_var 5) wa_nil)) (wa_cons (we_tup (wa_cons (we_var 3) (wa_cons (we_var 4) wa_nil))) wa_nil))))) (ww_or1 (wt_not (wt_val (we_has H__law_words_right hgd (hr.mono (by decide)) (by rfl) (wa_cons (we_var 1) (wa_cons (we_var 3) (wa_cons (we_var 4) wa_nil))))))))) (dss_one (ds_ret we_bl)) dss_nil) (dss_one (ds_for PassesOwn.never rfl (di_range1 (by rfl) B.range (wa_cons we_int wa_nil)) ⟨(pg_name (i := 6) sc_law.nd rfl (Or.inl rfl)), gok_name⟩ (dss_cons (ds_set (i := 7) sc_law.nd rfl (Or.inl rfl) (xe_d (we_has H__law_bent hgd (hr.mono (by decide)) (by rfl) (wa_cons (we_var 1) (wa_cons (we_var 5) wa_nil))))) (dss_one (ds_if (wt_w (ww_or (wt_not (wt_val (we_has H__law_accepted_right hgd (hr.mono (by decide)) (by rfl) (wa_cons (we_var 7) wa_nil)))) (ww_or1 (wt_not (wt_val (we_has H__law_accepted_right hgd (hr.mono (by decide)) (by rfl) (wa_cons (we_has H__law_bent hgd (hr.mono (by decide)) (by rfl) (wa_cons (we_var 1) (wa_cons (we_var 7) wa_nil))) wa_nil))))))) (dss_one (ds_ret we_bl)) dss_nil))))))))) (dss_one (ds_ret we_bl))), ?_⟩⟩
  have hall : ∀ {F P : List Int}, F.length ≤ 20 → P.length ≤ 20 → SmK 3 (hallD F P) := fun {F P} f p =>
    .inr ⟨_, rfl, by show 2 ≤ 1000; decide, fun x hx => by
      have key : ∀ L : List Int, L.length ≤ 20 → SmK 2 (.tuple (L.map .int)) := fun L hL => .inr ⟨_, rfl, by rw [List.length_map]; omega, fun y hy => by
        obtain ⟨i, _, rfl⟩ := List.mem_map.mp hy
        exact .inl (.inr (.inr ⟨i, rfl⟩))⟩
      simp only [List.mem_cons, List.not_mem_nil, or_false] at hx
      rcases hx with rfl | rfl
      · exact key F f
      · exact key P p⟩
  have ix : ∀ k : Nat, k < 6 → (∃ g : Int, atI [PyData.int 20, .int 4, .int 12] ((0 + (k : Int)) % 3) = some (.int g) ∧ 1 ≤ g ∧ g ≤ 20) ∧ ∃ m : Int, atI [PyData.int 20, .int 5, .int 2] ((0 + (k : Int)) / 2) = some (.int m) ∧ 0 ≤ m ∧ m ≤ 20 := fun k hk => by
    rcases (by omega : k = 0 ∨ k = 1 ∨ k = 2 ∨ k = 3 ∨ k = 4 ∨ k = 5) with rfl | rfl | rfl | rfl | rfl | rfl <;> exact ⟨⟨_, rfl, by decide, by decide⟩, ⟨_, rfl, by decide, by decide⟩⟩
  refine ⟨6, rfl, by decide, by decide, forR_inv (fun k ρ n => n.n ≤ k * 400 ∧ ∃ b2 b3 b4 b5 b6 b7, ρ = [none, some (.deck false), b2, b3, b4, b5, b6, b7])
    ⟨Nat.zero_le _, _, _, _, _, _, _, rfl⟩ ?_ ?_⟩
  rotate_left
  · rintro ρ n ⟨hn, b2, b3, b4, b5, b6, b7, rfl⟩
    exact rfl
  · rintro k y ρ n hy ⟨hn, b2, b3, b4, b5, b6, b7, rfl⟩
    obtain ⟨rfl, hk⟩ := rngD_mem hy
    have hk : k < 6 := hk
    obtain ⟨⟨g, hg, g1, g2⟩, m, hm, m1, m2⟩ := ix k hk
    refine ⟨_, rfl, by show 3 ≤ sizeLine; decide, _, rfl, (by decide : (0 : Int) < 3), _, _, rfl, hg, by show 3 ≤ sizeLine; decide, _, rfl, ⟨by omega, by omega⟩, _, _, rfl, hm, rfl, g, m, rfl, g1, g2, m1, m2, by omega, fun F P n1 hh f20 p20 hn1 => ?_⟩
    have hn1' : n1.n ≤ n.n + 200 := hn1.1
    have h7 := hallT_len hh
    refine ⟨_, _, rfl, _, rfl, _, rfl, by show 2 ≤ sizeLine; decide, rfl, F, P, rfl, hh, ?_⟩
    refine ⟨_, rfl, rfl, .str (hallT F P), rfl, rfl, fun t e => by cases e; omega, fun hd => absurd rfl (hd _), fun t e => by
      cases e
      refine ⟨fun j hj => ?_, fun p hp => ?_⟩
      · rw [parse_hallT hh f20 p20] at hj; cases hj
      rw [parse_hallT hh f20 p20] at hp
      cases hp
      refine ⟨_, rfl, _, rfl, by show 2 ≤ sizeLine; decide, rfl, hallD F P, rfl, hall f20 p20, _, rfl, ?_⟩
      refine ifF rfl ⟨_, rfl, _, rfl, _, rfl, rfl, F, P, rfl, hh, f20, p20, by omega, _, rfl, ifF rfl ?_⟩
      refine ⟨10, rfl, by decide, by decide, forR_inv (fun j ρ n => n.n ≤ k * 400 + 201 + j * 12 ∧ ∃ b6 b7, ρ = [none, some (.deck false), some (.dat (.int (0 + k))), some (.dat (sizesD F)), some (.dat (sizesD P)), some (.dat (.str (hallT F P))), b6, b7])
        ⟨by show n1.n + 1 ≤ _; omega, _, _, rfl⟩ ?_ ?_⟩
      rotate_left
      · rintro ρ n2 ⟨hn2, c6, c7, rfl⟩
        have hn2 : n2.n ≤ k * 400 + 201 + 10 * 12 := hn2
        exact ⟨by omega, _, _, _, _, _, _, rfl⟩
      rintro j y2 ρ n2 hy2 ⟨hn2, c6, c7, rfl⟩
      obtain ⟨rfl, hj⟩ := rngD_mem hy2
      have hj : j < 10 := hj
      refine ⟨_, rfl, _, rfl, rfl, hallT F P, rfl, Ch3.hall, by omega, by omega, fun s1 n3 hs1 hl1 hn3 => ?_⟩
      have hn3' : n3.n ≤ n2.n + 6 := hn3.1
      refine ⟨_, rfl, rfl, s1, rfl, by omega, fun n4 hn4 => ⟨_, rfl, ifF rfl ⟨_, rfl, _, rfl, rfl, s1, rfl, hs1, by omega, by omega, fun s2 n5 hs2 hl2 hn5 => ?_⟩⟩⟩
      have hn5' : n5.n ≤ n4.n + 6 := hn5.1
      refine ⟨rfl, s2, rfl, by omega, fun n6 hn6 => ⟨_, rfl, ifF rfl ⟨by show n6.n ≤ _; omega, _, _, rfl⟩⟩⟩⟩
end
theorem all_mk {l : PySem.W.OpenLaw} {w : World} {K : PySem.W.Frag} {h : Heap} {mg : Str → Option Value} {fa : Addr} {C : CA} (X : K.In h) (G : h.Ns mainGlobals mg) (hfa : mg "law" = some (.ref fa))
    {f0 : Addr} {od0 an0 : Option Addr} {sl0 : Array (Option Value)} {oc0 kV0 dc0 pm0 cd0 ct0 : Value}
    (a0 : PySem.W.nsIn K mainGlobals "_law_deck" = some (some (.ref f0)))
    (l0 : K.lookup f0 = some ⟨oc0, od0, .func (PySem.W.fnOf "_law_deck" "_law_deck" (defArgs s__law_deck) (defBody s__law_deck) (defScope s__law_deck) .none kV0 dc0 pm0 an0 cd0 ct0), sl0⟩) (c0 : PySem.W.codeIn K cd0 "_law_deck" = true) (k0 : PySem.W.keepIn K (.ref f0) = true)
    {f1 : Addr} {od1 an1 : Option Addr} {sl1 : Array (Option Value)} {oc1 kV1 dc1 pm1 cd1 ct1 : Value}
    (a1 : PySem.W.nsIn K mainGlobals "_law_draw" = some (some (.ref f1)))
    (l1 : K.lookup f1 = some ⟨oc1, od1, .func (PySem.W.fnOf "_law_draw" "_law_draw" (defArgs s__law_draw) (defBody s__law_draw) (defScope s__law_draw) .none kV1 dc1 pm1 an1 cd1 ct1), sl1⟩) (c1 : PySem.W.codeIn K cd1 "_law_draw" = true) (k1 : PySem.W.keepIn K (.ref f1) = true)
    {f2 : Addr} {od2 an2 : Option Addr} {sl2 : Array (Option Value)} {oc2 kV2 dc2 pm2 cd2 ct2 : Value}
    (a2 : PySem.W.nsIn K mainGlobals "_law_state" = some (some (.ref f2)))
    (l2 : K.lookup f2 = some ⟨oc2, od2, .func (PySem.W.fnOf "_law_state" "_law_state" (defArgs s__law_state) (defBody s__law_state) (defScope s__law_state) .none kV2 dc2 pm2 an2 cd2 ct2), sl2⟩) (c2 : PySem.W.codeIn K cd2 "_law_state" = true) (k2 : PySem.W.keepIn K (.ref f2) = true)
    {f3 : Addr} {od3 an3 : Option Addr} {sl3 : Array (Option Value)} {oc3 kV3 dc3 pm3 cd3 ct3 : Value}
    (a3 : PySem.W.nsIn K mainGlobals "_sizes_text" = some (some (.ref f3)))
    (l3 : K.lookup f3 = some ⟨oc3, od3, .func (PySem.W.fnOf "_sizes_text" "_sizes_text" (defArgs s__sizes_text) (defBody s__sizes_text) (defScope s__sizes_text) .none kV3 dc3 pm3 an3 cd3 ct3), sl3⟩) (c3 : PySem.W.codeIn K cd3 "_sizes_text" = true) (k3 : PySem.W.keepIn K (.ref f3) = true)
    {f4 : Addr} {od4 an4 : Option Addr} {sl4 : Array (Option Value)} {oc4 kV4 dc4 pm4 cd4 ct4 : Value}
    (a4 : PySem.W.nsIn K mainGlobals "hall_text" = some (some (.ref f4)))
    (l4 : K.lookup f4 = some ⟨oc4, od4, .func (PySem.W.fnOf "hall_text" "hall_text" (defArgs s_hall_text) (defBody s_hall_text) (defScope s_hall_text) .none kV4 dc4 pm4 an4 cd4 ct4), sl4⟩) (c4 : PySem.W.codeIn K cd4 "hall_text" = true) (k4 : PySem.W.keepIn K (.ref f4) = true)
    {f5 : Addr} {od5 an5 : Option Addr} {sl5 : Array (Option Value)} {oc5 kV5 dc5 pm5 cd5 ct5 : Value}
    (a5 : PySem.W.nsIn K mainGlobals "_law_bent" = some (some (.ref f5)))
    (l5 : K.lookup f5 = some ⟨oc5, od5, .func (PySem.W.fnOf "_law_bent" "_law_bent" (defArgs s__law_bent) (defBody s__law_bent) (defScope s__law_bent) .none kV5 dc5 pm5 an5 cd5 ct5), sl5⟩) (c5 : PySem.W.codeIn K cd5 "_law_bent" = true) (k5 : PySem.W.keepIn K (.ref f5) = true)
    {f6 : Addr} {od6 an6 : Option Addr} {sl6 : Array (Option Value)} {oc6 kV6 dc6 pm6 cd6 ct6 : Value}
    (a6 : PySem.W.nsIn K mainGlobals "_law_same" = some (some (.ref f6)))
    (l6 : K.lookup f6 = some ⟨oc6, od6, .func (PySem.W.fnOf "_law_same" "_law_same" (defArgs s__law_same) (defBody s__law_same) (defScope s__law_same) .none kV6 dc6 pm6 an6 cd6 ct6), sl6⟩) (c6 : PySem.W.codeIn K cd6 "_law_same" = true) (k6 : PySem.W.keepIn K (.ref f6) = true)
    {f7 : Addr} {od7 an7 : Option Addr} {sl7 : Array (Option Value)} {oc7 kV7 dc7 pm7 cd7 ct7 : Value}
    (a7 : PySem.W.nsIn K mainGlobals "_fitting" = some (some (.ref f7)))
    (l7 : K.lookup f7 = some ⟨oc7, od7, .func (PySem.W.fnOf "_fitting" "_fitting" (defArgs s__fitting) (defBody s__fitting) (defScope s__fitting) .none kV7 dc7 pm7 an7 cd7 ct7), sl7⟩) (c7 : PySem.W.codeIn K cd7 "_fitting" = true) (k7 : PySem.W.keepIn K (.ref f7) = true)
    {f8 : Addr} {od8 an8 : Option Addr} {sl8 : Array (Option Value)} {oc8 kV8 dc8 pm8 cd8 ct8 : Value}
    (a8 : PySem.W.nsIn K mainGlobals "run_by_liking" = some (some (.ref f8)))
    (l8 : K.lookup f8 = some ⟨oc8, od8, .func (PySem.W.fnOf "run_by_liking" "run_by_liking" (defArgs s_run_by_liking) (defBody s_run_by_liking) (defScope s_run_by_liking) .none kV8 dc8 pm8 an8 cd8 ct8), sl8⟩) (c8 : PySem.W.codeIn K cd8 "run_by_liking" = true) (k8 : PySem.W.keepIn K (.ref f8) = true)
    {f9 : Addr} {od9 an9 : Option Addr} {sl9 : Array (Option Value)} {oc9 kV9 dc9 pm9 cd9 ct9 : Value}
    (a9 : PySem.W.nsIn K mainGlobals "small_run" = some (some (.ref f9)))
    (l9 : K.lookup f9 = some ⟨oc9, od9, .func (PySem.W.fnOf "small_run" "small_run" (defArgs s_small_run) (defBody s_small_run) (defScope s_small_run) .none kV9 dc9 pm9 an9 cd9 ct9), sl9⟩) (c9 : PySem.W.codeIn K cd9 "small_run" = true) (k9 : PySem.W.keepIn K (.ref f9) = true)
    {f10 : Addr} {od10 an10 : Option Addr} {sl10 : Array (Option Value)} {oc10 kV10 dc10 pm10 cd10 ct10 : Value}
    (a10 : PySem.W.nsIn K mainGlobals "_law_turned" = some (some (.ref f10)))
    (l10 : K.lookup f10 = some ⟨oc10, od10, .func (PySem.W.fnOf "_law_turned" "_law_turned" (defArgs s__law_turned) (defBody s__law_turned) (defScope s__law_turned) .none kV10 dc10 pm10 an10 cd10 ct10), sl10⟩) (c10 : PySem.W.codeIn K cd10 "_law_turned" = true) (k10 : PySem.W.keepIn K (.ref f10) = true)
    {f11 : Addr} {od11 an11 : Option Addr} {sl11 : Array (Option Value)} {oc11 kV11 dc11 pm11 cd11 ct11 : Value}
    (a11 : PySem.W.nsIn K mainGlobals "left_by" = some (some (.ref f11)))
    (l11 : K.lookup f11 = some ⟨oc11, od11, .func (PySem.W.fnOf "left_by" "left_by" (defArgs s_left_by) (defBody s_left_by) (defScope s_left_by) .none kV11 dc11 pm11 an11 cd11 ct11), sl11⟩) (c11 : PySem.W.codeIn K cd11 "left_by" = true) (k11 : PySem.W.keepIn K (.ref f11) = true)
    {f12 : Addr} {od12 an12 : Option Addr} {sl12 : Array (Option Value)} {oc12 kV12 dc12 pm12 cd12 ct12 : Value}
    (a12 : PySem.W.nsIn K mainGlobals "served_by" = some (some (.ref f12)))
    (l12 : K.lookup f12 = some ⟨oc12, od12, .func (PySem.W.fnOf "served_by" "served_by" (defArgs s_served_by) (defBody s_served_by) (defScope s_served_by) .none kV12 dc12 pm12 an12 cd12 ct12), sl12⟩) (c12 : PySem.W.codeIn K cd12 "served_by" = true) (k12 : PySem.W.keepIn K (.ref f12) = true)
    {f13 : Addr} {od13 an13 : Option Addr} {sl13 : Array (Option Value)} {oc13 kV13 dc13 pm13 cd13 ct13 : Value}
    (a13 : PySem.W.nsIn K mainGlobals "_law_words_right" = some (some (.ref f13)))
    (l13 : K.lookup f13 = some ⟨oc13, od13, .func (PySem.W.fnOf "_law_words_right" "_law_words_right" (defArgs s__law_words_right) (defBody s__law_words_right) (defScope s__law_words_right) .none kV13 dc13 pm13 an13 cd13 ct13), sl13⟩) (c13 : PySem.W.codeIn K cd13 "_law_words_right" = true) (k13 : PySem.W.keepIn K (.ref f13) = true)
    {f14 : Addr} {od14 an14 : Option Addr} {sl14 : Array (Option Value)} {oc14 kV14 dc14 pm14 cd14 ct14 : Value}
    (a14 : PySem.W.nsIn K mainGlobals "number_in" = some (some (.ref f14)))
    (l14 : K.lookup f14 = some ⟨oc14, od14, .func (PySem.W.fnOf "number_in" "number_in" (defArgs s_number_in) (defBody s_number_in) (defScope s_number_in) .none kV14 dc14 pm14 an14 cd14 ct14), sl14⟩) (c14 : PySem.W.codeIn K cd14 "number_in" = true) (k14 : PySem.W.keepIn K (.ref f14) = true)
    {f15 : Addr} {od15 an15 : Option Addr} {sl15 : Array (Option Value)} {oc15 kV15 dc15 pm15 cd15 ct15 : Value}
    (a15 : PySem.W.nsIn K mainGlobals "is_number" = some (some (.ref f15)))
    (l15 : K.lookup f15 = some ⟨oc15, od15, .func (PySem.W.fnOf "is_number" "is_number" (defArgs s_is_number) (defBody s_is_number) (defScope s_is_number) .none kV15 dc15 pm15 an15 cd15 ct15), sl15⟩) (c15 : PySem.W.codeIn K cd15 "is_number" = true) (k15 : PySem.W.keepIn K (.ref f15) = true)
    {f16 : Addr} {od16 an16 : Option Addr} {sl16 : Array (Option Value)} {oc16 kV16 dc16 pm16 cd16 ct16 : Value}
    (a16 : PySem.W.nsIn K mainGlobals "is_number_from" = some (some (.ref f16)))
    (l16 : K.lookup f16 = some ⟨oc16, od16, .func (PySem.W.fnOf "is_number_from" "is_number_from" (defArgs s_is_number_from) (defBody s_is_number_from) (defScope s_is_number_from) .none kV16 dc16 pm16 an16 cd16 ct16), sl16⟩) (c16 : PySem.W.codeIn K cd16 "is_number_from" = true) (k16 : PySem.W.keepIn K (.ref f16) = true)
    {f17 : Addr} {od17 an17 : Option Addr} {sl17 : Array (Option Value)} {oc17 kV17 dc17 pm17 cd17 ct17 : Value}
    (a17 : PySem.W.nsIn K mainGlobals "is_size" = some (some (.ref f17)))
    (l17 : K.lookup f17 = some ⟨oc17, od17, .func (PySem.W.fnOf "is_size" "is_size" (defArgs s_is_size) (defBody s_is_size) (defScope s_is_size) .none kV17 dc17 pm17 an17 cd17 ct17), sl17⟩) (c17 : PySem.W.codeIn K cd17 "is_size" = true) (k17 : PySem.W.keepIn K (.ref f17) = true)
    {f18 : Addr} {od18 an18 : Option Addr} {sl18 : Array (Option Value)} {oc18 kV18 dc18 pm18 cd18 ct18 : Value}
    (a18 : PySem.W.nsIn K mainGlobals "_sizes_in" = some (some (.ref f18)))
    (l18 : K.lookup f18 = some ⟨oc18, od18, .func (PySem.W.fnOf "_sizes_in" "_sizes_in" (defArgs s__sizes_in) (defBody s__sizes_in) (defScope s__sizes_in) .none kV18 dc18 pm18 an18 cd18 ct18), sl18⟩) (c18 : PySem.W.codeIn K cd18 "_sizes_in" = true) (k18 : PySem.W.keepIn K (.ref f18) = true)
    {f19 : Addr} {od19 an19 : Option Addr} {sl19 : Array (Option Value)} {oc19 kV19 dc19 pm19 cd19 ct19 : Value}
    (a19 : PySem.W.nsIn K mainGlobals "_part_in" = some (some (.ref f19)))
    (l19 : K.lookup f19 = some ⟨oc19, od19, .func (PySem.W.fnOf "_part_in" "_part_in" (defArgs s__part_in) (defBody s__part_in) (defScope s__part_in) .none kV19 dc19 pm19 an19 cd19 ct19), sl19⟩) (c19 : PySem.W.codeIn K cd19 "_part_in" = true) (k19 : PySem.W.keepIn K (.ref f19) = true)
    {f20 : Addr} {od20 an20 : Option Addr} {sl20 : Array (Option Value)} {oc20 kV20 dc20 pm20 cd20 ct20 : Value}
    (a20 : PySem.W.nsIn K mainGlobals "parse_hall" = some (some (.ref f20)))
    (l20 : K.lookup f20 = some ⟨oc20, od20, .func (PySem.W.fnOf "parse_hall" "parse_hall" (defArgs s_parse_hall) (defBody s_parse_hall) (defScope s_parse_hall) .none kV20 dc20 pm20 an20 cd20 ct20), sl20⟩) (c20 : PySem.W.codeIn K cd20 "parse_hall" = true) (k20 : PySem.W.keepIn K (.ref f20) = true)
    {f21 : Addr} {od21 an21 : Option Addr} {sl21 : Array (Option Value)} {oc21 kV21 dc21 pm21 cd21 ct21 : Value}
    (a21 : PySem.W.nsIn K mainGlobals "_law_accepted_right" = some (some (.ref f21)))
    (l21 : K.lookup f21 = some ⟨oc21, od21, .func (PySem.W.fnOf "_law_accepted_right" "_law_accepted_right" (defArgs s__law_accepted_right) (defBody s__law_accepted_right) (defScope s__law_accepted_right) .none kV21 dc21 pm21 an21 cd21 ct21), sl21⟩) (c21 : PySem.W.codeIn K cd21 "_law_accepted_right" = true) (k21 : PySem.W.keepIn K (.ref f21) = true)
    {f22 : Addr} {od22 an22 : Option Addr} {sl22 : Array (Option Value)} {oc22 kV22 dc22 pm22 cd22 ct22 : Value}
    (a22 : PySem.W.nsIn K mainGlobals "law" = some (some (.ref f22)))
    (l22 : K.lookup f22 = some ⟨oc22, od22, .func (PySem.W.fnOf "law" "law" (defArgs s_law) (defBody s_law) (defScope s_law) .none kV22 dc22 pm22 an22 cd22 ct22), sl22⟩) (c22 : PySem.W.codeIn K cd22 "law" = true) (k22 : PySem.W.keepIn K (.ref f22) = true)
    {f23 : Addr} {od23 an23 : Option Addr} {sl23 : Array (Option Value)} {oc23 kV23 dc23 pm23 cd23 ct23 : Value}
    (a23 : PySem.W.findIn K (.ref C.BadText) "__init__" = some (some (.ref f23))) (tI23 : PySem.W.typeIn K (.ref f23) = some (.type "function"))
    (l23 : K.lookup f23 = some ⟨oc23, od23, .func (PySem.W.fnOf "__init__" "BadText.__init__" (defArgs s_BadText_init) (defBody s_BadText_init) (defScope s_BadText_init) .none kV23 dc23 pm23 an23 cd23 ct23), sl23⟩) (c23 : PySem.W.codeIn K cd23 "BadText.__init__" = true) (k23 : PySem.W.keepIn K (.ref f23) = true)
    (z_ValueError : PySem.W.nsIn K mainGlobals "ValueError" = some none)
    (z_abs : PySem.W.nsIn K mainGlobals "abs" = some none)
    (z_all : PySem.W.nsIn K mainGlobals "all" = some none)
    (z_bool : PySem.W.nsIn K mainGlobals "bool" = some none)
    (z_enumerate : PySem.W.nsIn K mainGlobals "enumerate" = some none)
    (z_int : PySem.W.nsIn K mainGlobals "int" = some none)
    (z_isinstance : PySem.W.nsIn K mainGlobals "isinstance" = some none)
    (z_len : PySem.W.nsIn K mainGlobals "len" = some none)
    (z_list : PySem.W.nsIn K mainGlobals "list" = some none)
    (z_max : PySem.W.nsIn K mainGlobals "max" = some none)
    (z_min : PySem.W.nsIn K mainGlobals "min" = some none)
    (z_range : PySem.W.nsIn K mainGlobals "range" = some none)
    (z_sorted : PySem.W.nsIn K mainGlobals "sorted" = some none)
    (z_str : PySem.W.nsIn K mainGlobals "str" = some none)
    (z_tuple : PySem.W.nsIn K mainGlobals "tuple" = some none)
    (z_zip : PySem.W.nsIn K mainGlobals "zip" = some none)
    {t_MAX_SIZE : Tok} (y_MAX_SIZE : PySem.W.nsIn K mainGlobals "MAX_SIZE" = some (some (.int (1000000) t_MAX_SIZE)))
    {t_MAX_GUESTS : Tok} (y_MAX_GUESTS : PySem.W.nsIn K mainGlobals "MAX_GUESTS" = some (some (.int (20) t_MAX_GUESTS)))
    {t_MAX_PAIRS : Tok} (y_MAX_PAIRS : PySem.W.nsIn K mainGlobals "MAX_PAIRS" = some (some (.int (20) t_MAX_PAIRS)))
    {t_SLASH : Tok} (y_SLASH : PySem.W.nsIn K mainGlobals "SLASH" = some (some (.str "/" t_SLASH)))
    {t_NO_PAIRS : Tok} (y_NO_PAIRS : PySem.W.nsIn K mainGlobals "NO_PAIRS" = some (some (.str "-" t_NO_PAIRS)))
    {t_WORDS : Tok} (y_WORDS : PySem.W.nsIn K mainGlobals "WORDS" = some (some (.int (3) t_WORDS)))
    {t_NO_PAIR : Tok} (y_NO_PAIR : PySem.W.nsIn K mainGlobals "NO_PAIR" = some (some (.int (-1) t_NO_PAIR)))
    (h_a_PartyError : PySem.W.nsIn K mainGlobals "PartyError" = some (some (.ref C.PartyError)))
    (h_a_BadText : PySem.W.nsIn K mainGlobals "BadText" = some (some (.ref C.BadText)))
    (h_ty_BadText : PySem.W.typeIn K (.ref C.BadText) = some (.type "type"))
    (h_k_BadText : PySem.W.keepIn K (.ref C.BadText) = true)
    (h_hd_BadText : PySem.W.hasDictIn K C.BadText = true)
    (h_sa_BadText : PySem.W.findIn K (.ref C.BadText) "__setattr__" = some (some (.builtin "object.__setattr__")))
    (h_s_BadText_BadText : PySem.W.subIn K (.ref C.BadText) (.ref C.BadText) = some true)
    (h_sb_BadText : PySem.W.subIn K (.ref C.BadText) (.type "BaseException") = some true)
    (h_n_BadText : PySem.W.findIn K (.ref C.BadText) "index" = some none)
    {nm_BadText q_BadText : Str} {N_BadText : Addr} {bs_BadText bm_BadText : List Value} {sn_BadText : List Str} {sub_BadText : List Value} {ab_BadText : Bool} {col_BadText : Option Bool} {dd_BadText : Option Addr} {m0_BadText m1_BadText m2_BadText m3_BadText m5_BadText : Option Value}
    (xL_BadText : K.lookup C.BadText = some (excClassObj nm_BadText q_BadText C.BadText N_BadText bs_BadText bm_BadText true sn_BadText sub_BadText ab_BadText col_BadText dd_BadText m0_BadText m1_BadText m2_BadText m3_BadText m5_BadText "ValueError.__new__")) (xr_BadText : PySem.HandSPX.refsVE bm_BadText = true)
    (e0_PartyError : PySem.W.excIn K C.PartyError [.type "ValueError", .type "Exception", .type "BaseException", .type "object"] "ValueError.__new__" = true)
    : ∃ fd : FuncData, (∀ (s : Shared) (v : Value), BindsTo s fd ⟨[v], []⟩ [("script", v)]) ∧ ∀ base : Heap, K.In base → base.Ns mainGlobals mg → FnG l.prog w K mg base 8 fa fd ["script"] (spLaw K) := by
  have e := hfa.symm.trans (PySem.W.mg_of X G a22)
  cases e
  have B : Bn K mg C := { ValueError := PySem.W.mg_none_of X G z_ValueError, abs := PySem.W.mg_none_of X G z_abs, all := PySem.W.mg_none_of X G z_all, bool := PySem.W.mg_none_of X G z_bool, enumerate := PySem.W.mg_none_of X G z_enumerate, int := PySem.W.mg_none_of X G z_int, isinstance := PySem.W.mg_none_of X G z_isinstance, len := PySem.W.mg_none_of X G z_len, list := PySem.W.mg_none_of X G z_list, max := PySem.W.mg_none_of X G z_max, min := PySem.W.mg_none_of X G z_min, range := PySem.W.mg_none_of X G z_range, sorted := PySem.W.mg_none_of X G z_sorted, str := PySem.W.mg_none_of X G z_str, tuple := PySem.W.mg_none_of X G z_tuple, zip := PySem.W.mg_none_of X G z_zip, MAX_SIZE := ⟨_, PySem.W.mg_of X G y_MAX_SIZE⟩, MAX_GUESTS := ⟨_, PySem.W.mg_of X G y_MAX_GUESTS⟩, MAX_PAIRS := ⟨_, PySem.W.mg_of X G y_MAX_PAIRS⟩, SLASH := ⟨_, PySem.W.mg_of X G y_SLASH⟩, NO_PAIRS := ⟨_, PySem.W.mg_of X G y_NO_PAIRS⟩, WORDS := ⟨_, PySem.W.mg_of X G y_WORDS⟩, NO_PAIR := ⟨_, PySem.W.mg_of X G y_NO_PAIR⟩, g_PartyError := PySem.W.mg_of X G h_a_PartyError, g_BadText := PySem.W.mg_of X G h_a_BadText, ty_BadText := h_ty_BadText, k_BadText := h_k_BadText, hd_BadText := h_hd_BadText, sa_BadText := h_sa_BadText, s_BadText_BadText := h_s_BadText_BadText, sb_BadText := h_sb_BadText, n_BadText := h_n_BadText, e0_PartyError := e0_PartyError }
  have F0 := fun_mk (st := s__law_deck) l0 c0 k0
  have b0 := F0.binds (ps := ["script"]) fun _ _ _ _ _ _ us hl => match us, hl with | [_], _ => rfl
  have F1 := fun_mk (st := s__law_draw) l1 c1 k1
  have b1 := F1.binds (ps := ["deck", "many"]) fun _ _ _ _ _ _ us hl => match us, hl with | [_, _], _ => rfl
  have F2 := fun_mk (st := s__law_state) l2 c2 k2
  have b2 := F2.binds (ps := ["deck", "guests", "most"]) fun _ _ _ _ _ _ us hl => match us, hl with | [_, _, _], _ => rfl
  have F3 := fun_mk (st := s__sizes_text) l3 c3 k3
  have b3 := F3.binds (ps := ["sizes"]) fun _ _ _ _ _ _ us hl => match us, hl with | [_], _ => rfl
  have F4 := fun_mk (st := s_hall_text) l4 c4 k4
  have b4 := F4.binds (ps := ["hall"]) fun _ _ _ _ _ _ us hl => match us, hl with | [_], _ => rfl
  have F5 := fun_mk (st := s__law_bent) l5 c5 k5
  have b5 := F5.binds (ps := ["deck", "text"]) fun _ _ _ _ _ _ us hl => match us, hl with | [_, _], _ => rfl
  have F6 := fun_mk (st := s__law_same) l6 c6 k6
  have b6 := F6.binds (ps := ["found", "due"]) fun _ _ _ _ _ _ us hl => match us, hl with | [_, _], _ => rfl
  have F7 := fun_mk (st := s__fitting) l7 c7 k7
  have b7 := F7.binds (ps := ["hall", "guest", "left"]) fun _ _ _ _ _ _ us hl => match us, hl with | [_, _, _], _ => rfl
  have F8 := fun_mk (st := s_run_by_liking) l8 c8 k8
  have b8 := F8.binds (ps := ["hall", "order", "liking"]) fun _ _ _ _ _ _ us hl => match us, hl with | [_, _, _], _ => rfl
  have F9 := fun_mk (st := s_small_run) l9 c9 k9
  have b9 := F9.binds (ps := ["hall", "order"]) fun _ _ _ _ _ _ us hl => match us, hl with | [_, _], _ => rfl
  have F10 := fun_mk (st := s__law_turned) l10 c10 k10
  have b10 := F10.binds (ps := ["word"]) fun _ _ _ _ _ _ us hl => match us, hl with | [_], _ => rfl
  have F11 := fun_mk (st := s_left_by) l11 c11 k11
  have b11 := F11.binds (ps := ["hall", "run"]) fun _ _ _ _ _ _ us hl => match us, hl with | [_, _], _ => rfl
  have F12 := fun_mk (st := s_served_by) l12 c12 k12
  have b12 := F12.binds (ps := ["hall", "run"]) fun _ _ _ _ _ _ us hl => match us, hl with | [_, _], _ => rfl
  have F13 := fun_mk (st := s__law_words_right) l13 c13 k13
  have b13 := F13.binds (ps := ["deck", "feet", "pairs"]) fun _ _ _ _ _ _ us hl => match us, hl with | [_, _, _], _ => rfl
  have F14 := fun_mk (st := s_number_in) l14 c14 k14
  have b14 := F14.binds (ps := ["word", "digits"]) fun _ _ _ _ _ _ us hl => match us, hl with | [_, _], _ => rfl
  have F15 := fun_mk (st := s_is_number) l15 c15 k15
  have b15 := F15.binds (ps := ["value"]) fun _ _ _ _ _ _ us hl => match us, hl with | [_], _ => rfl
  have F16 := fun_mk (st := s_is_number_from) l16 c16 k16
  have b16 := F16.binds (ps := ["value", "low", "high"]) fun _ _ _ _ _ _ us hl => match us, hl with | [_, _, _], _ => rfl
  have F17 := fun_mk (st := s_is_size) l17 c17 k17
  have b17 := F17.binds (ps := ["value"]) fun _ _ _ _ _ _ us hl => match us, hl with | [_], _ => rfl
  have F18 := fun_mk (st := s__sizes_in) l18 c18 k18
  have b18 := F18.binds (ps := ["word", "most"]) fun _ _ _ _ _ _ us hl => match us, hl with | [_, _], _ => rfl
  have F19 := fun_mk (st := s__part_in) l19 c19 k19
  have b19 := F19.binds (ps := ["word", "index"]) fun _ _ _ _ _ _ us hl => match us, hl with | [_, _], _ => rfl
  have F20 := fun_mk (st := s_parse_hall) l20 c20 k20
  have b20 := F20.binds (ps := ["value"]) fun _ _ _ _ _ _ us hl => match us, hl with | [_], _ => rfl
  have F21 := fun_mk (st := s__law_accepted_right) l21 c21 k21
  have b21 := F21.binds (ps := ["text"]) fun _ _ _ _ _ _ us hl => match us, hl with | [_], _ => rfl
  have F23 := fun_mk (st := s_BadText_init) l23 c23 k23
  have b23 := F23.binds (ps := ["self", "index"]) fun _ _ _ _ _ _ us hl => match us, hl with | [_, _], _ => rfl
  refine ⟨PySem.W.fnOf "law" "law" (defArgs s_law) (defBody s_law) (defScope s_law) .none kV22 dc22 pm22 an22 cd22 ct22, fun s v => .of_eq rfl, fun base _ _ => ?_⟩
  have T_BadText : OexC K C.BadText := ⟨⟨_, _, _, _, _, _, _, _, _, _, _, _, _, _, _, xL_BadText, xr_BadText⟩, h_sa_BadText, h_sb_BadText, h_ty_BadText, h_k_BadText⟩
  have H_BadText : ErrC l.prog w K mg base "BadText" C.BadText "index" := ⟨B.g_BadText, T_BadText, f23, _, _, a23, tI23, ok_BadText_init F23 T_BadText B, b23⟩
  have H__law_deck : HasS l.prog w K mg base "_law_deck" 1 ["script"] (spDeckA K) := ⟨f0, _, PySem.W.mg_of X G a0, k0, b0, ok_deck F0 B.abs⟩
  have H__law_draw : Has l.prog w K mg base "_law_draw" 1 ["deck", "many"] c__law_draw := ⟨f1, _, PySem.W.mg_of X G a1, k1, b1, ok_draw F1 B.len⟩
  have H__law_state : Has l.prog w K mg base "_law_state" 2 ["deck", "guests", "most"] c__law_state := ⟨f2, _, PySem.W.mg_of X G a2, k2, b2, fn__law_state F2 B H__law_draw⟩
  have H__sizes_text : Has l.prog w K mg base "_sizes_text" 1 ["sizes"] c__sizes_text := ⟨f3, _, PySem.W.mg_of X G a3, k3, b3, fn__sizes_text F3 B⟩
  have H_hall_text : Has l.prog w K mg base "hall_text" 2 ["hall"] c_hall_text := ⟨f4, _, PySem.W.mg_of X G a4, k4, b4, fn_hall_text F4 B H__sizes_text⟩
  have H__law_bent : Has l.prog w K mg base "_law_bent" 2 ["deck", "text"] c__law_bent := ⟨f5, _, PySem.W.mg_of X G a5, k5, b5, fn__law_bent F5 B H__law_draw⟩
  have H__law_same : Has l.prog w K mg base "_law_same" 4 ["found", "due"] (c__law_same 4) := has_rec (L := 0) (c := c__law_same) rfl (PySem.W.mg_of X G a6) k6 b6 (fun j h => fn__law_same F6 B h) 4
  have H__fitting : Has l.prog w K mg base "_fitting" 1 ["hall", "guest", "left"] c__fitting := ⟨f7, _, PySem.W.mg_of X G a7, k7, b7, fn__fitting F7 B⟩
  have H_run_by_liking : Has l.prog w K mg base "run_by_liking" 2 ["hall", "order", "liking"] c_run_by_liking := ⟨f8, _, PySem.W.mg_of X G a8, k8, b8, fn_run_by_liking F8 B H__fitting⟩
  have H_small_run : Has l.prog w K mg base "small_run" 3 ["hall", "order"] c_small_run := ⟨f9, _, PySem.W.mg_of X G a9, k9, b9, fn_small_run F9 B H_run_by_liking⟩
  have H__law_turned : Has l.prog w K mg base "_law_turned" 1 ["word"] c__law_turned := ⟨f10, _, PySem.W.mg_of X G a10, k10, b10, fn__law_turned F10 B⟩
  have H_left_by : Has l.prog w K mg base "left_by" 1 ["hall", "run"] c_left_by := ⟨f11, _, PySem.W.mg_of X G a11, k11, b11, fn_left_by F11 B⟩
  have H_served_by : Has l.prog w K mg base "served_by" 1 ["hall", "run"] c_served_by := ⟨f12, _, PySem.W.mg_of X G a12, k12, b12, fn_served_by F12 B⟩
  have H__law_words_right : Has l.prog w K mg base "_law_words_right" 4 ["deck", "feet", "pairs"] c__law_words_right := ⟨f13, _, PySem.W.mg_of X G a13, k13, b13, fn__law_words_right F13 B H_small_run H__law_draw H__law_turned H_left_by H_hall_text H_served_by⟩
  have H_number_in : Has l.prog w K mg base "number_in" 1 ["word", "digits"] c_number_in := ⟨f14, _, PySem.W.mg_of X G a14, k14, b14, fn_number_in F14 B⟩
  have H_is_number : Has l.prog w K mg base "is_number" 1 ["value"] c_is_number := ⟨f15, _, PySem.W.mg_of X G a15, k15, b15, fn_is_number F15 B⟩
  have H_is_number_from : Has l.prog w K mg base "is_number_from" 2 ["value", "low", "high"] c_is_number_from := ⟨f16, _, PySem.W.mg_of X G a16, k16, b16, fn_is_number_from F16 B H_is_number⟩
  have H_is_size : Has l.prog w K mg base "is_size" 3 ["value"] c_is_size := ⟨f17, _, PySem.W.mg_of X G a17, k17, b17, fn_is_size F17 B H_is_number_from⟩
  have H__sizes_in : Has l.prog w K mg base "_sizes_in" 4 ["word", "most"] c__sizes_in := ⟨f18, _, PySem.W.mg_of X G a18, k18, b18, fn__sizes_in F18 B H_number_in H_is_size⟩
  have H__part_in : Has l.prog w K mg base "_part_in" 5 ["word", "index"] c__part_in := ⟨f19, _, PySem.W.mg_of X G a19, k19, b19, fn__part_in F19 B H__sizes_in⟩
  have H_parse_hall : HasX l.prog w K mg base "parse_hall" 6 ["value"] (c_parse_hall C) := ⟨f20, _, PySem.W.mg_of X G a20, k20, b20, fn_parse_hall F20 B H__part_in H_BadText⟩
  have H__law_accepted_right : Has l.prog w K mg base "_law_accepted_right" 7 ["text"] (c__law_accepted_right C) := ⟨f21, _, PySem.W.mg_of X G a21, k21, b21, fn__law_accepted_right F21 B H_parse_hall H_hall_text⟩
  exact fn_law (fun_mk (st := s_law) l22 c22 k22) B H__law_deck H__law_state H_hall_text H__law_bent H__law_same H__law_words_right H_parse_hall H__law_accepted_right
theorem all_mk2 {l : PySem.W.OpenLaw} {w : World} {K : PySem.W.Frag} {h : Heap} {mg : Str → Option Value} {fa : Addr} {C_PartyError C_BadText : Addr} (X : K.In h) (G : h.Ns mainGlobals mg) (hfa : mg "law" = some (.ref fa))
    {f0 : Addr} {od0 an0 : Option Addr} {sl0 : Array (Option Value)} {oc0 kV0 dc0 pm0 cd0 ct0 : Value}
    (a0 : PySem.W.nsIn K mainGlobals "_law_deck" = some (some (.ref f0)))
    (l0 : K.lookup f0 = some ⟨oc0, od0, .func (PySem.W.fnOf "_law_deck" "_law_deck" (defArgs s__law_deck) (defBody s__law_deck) (defScope s__law_deck) .none kV0 dc0 pm0 an0 cd0 ct0), sl0⟩) (c0 : PySem.W.codeIn K cd0 "_law_deck" = true) (k0 : PySem.W.keepIn K (.ref f0) = true)
    {f1 : Addr} {od1 an1 : Option Addr} {sl1 : Array (Option Value)} {oc1 kV1 dc1 pm1 cd1 ct1 : Value}
    (a1 : PySem.W.nsIn K mainGlobals "_law_draw" = some (some (.ref f1)))
    (l1 : K.lookup f1 = some ⟨oc1, od1, .func (PySem.W.fnOf "_law_draw" "_law_draw" (defArgs s__law_draw) (defBody s__law_draw) (defScope s__law_draw) .none kV1 dc1 pm1 an1 cd1 ct1), sl1⟩) (c1 : PySem.W.codeIn K cd1 "_law_draw" = true) (k1 : PySem.W.keepIn K (.ref f1) = true)
    {f2 : Addr} {od2 an2 : Option Addr} {sl2 : Array (Option Value)} {oc2 kV2 dc2 pm2 cd2 ct2 : Value}
    (a2 : PySem.W.nsIn K mainGlobals "_law_state" = some (some (.ref f2)))
    (l2 : K.lookup f2 = some ⟨oc2, od2, .func (PySem.W.fnOf "_law_state" "_law_state" (defArgs s__law_state) (defBody s__law_state) (defScope s__law_state) .none kV2 dc2 pm2 an2 cd2 ct2), sl2⟩) (c2 : PySem.W.codeIn K cd2 "_law_state" = true) (k2 : PySem.W.keepIn K (.ref f2) = true)
    {f3 : Addr} {od3 an3 : Option Addr} {sl3 : Array (Option Value)} {oc3 kV3 dc3 pm3 cd3 ct3 : Value}
    (a3 : PySem.W.nsIn K mainGlobals "_sizes_text" = some (some (.ref f3)))
    (l3 : K.lookup f3 = some ⟨oc3, od3, .func (PySem.W.fnOf "_sizes_text" "_sizes_text" (defArgs s__sizes_text) (defBody s__sizes_text) (defScope s__sizes_text) .none kV3 dc3 pm3 an3 cd3 ct3), sl3⟩) (c3 : PySem.W.codeIn K cd3 "_sizes_text" = true) (k3 : PySem.W.keepIn K (.ref f3) = true)
    {f4 : Addr} {od4 an4 : Option Addr} {sl4 : Array (Option Value)} {oc4 kV4 dc4 pm4 cd4 ct4 : Value}
    (a4 : PySem.W.nsIn K mainGlobals "hall_text" = some (some (.ref f4)))
    (l4 : K.lookup f4 = some ⟨oc4, od4, .func (PySem.W.fnOf "hall_text" "hall_text" (defArgs s_hall_text) (defBody s_hall_text) (defScope s_hall_text) .none kV4 dc4 pm4 an4 cd4 ct4), sl4⟩) (c4 : PySem.W.codeIn K cd4 "hall_text" = true) (k4 : PySem.W.keepIn K (.ref f4) = true)
    {f5 : Addr} {od5 an5 : Option Addr} {sl5 : Array (Option Value)} {oc5 kV5 dc5 pm5 cd5 ct5 : Value}
    (a5 : PySem.W.nsIn K mainGlobals "_law_bent" = some (some (.ref f5)))
    (l5 : K.lookup f5 = some ⟨oc5, od5, .func (PySem.W.fnOf "_law_bent" "_law_bent" (defArgs s__law_bent) (defBody s__law_bent) (defScope s__law_bent) .none kV5 dc5 pm5 an5 cd5 ct5), sl5⟩) (c5 : PySem.W.codeIn K cd5 "_law_bent" = true) (k5 : PySem.W.keepIn K (.ref f5) = true)
    {f6 : Addr} {od6 an6 : Option Addr} {sl6 : Array (Option Value)} {oc6 kV6 dc6 pm6 cd6 ct6 : Value}
    (a6 : PySem.W.nsIn K mainGlobals "_law_same" = some (some (.ref f6)))
    (l6 : K.lookup f6 = some ⟨oc6, od6, .func (PySem.W.fnOf "_law_same" "_law_same" (defArgs s__law_same) (defBody s__law_same) (defScope s__law_same) .none kV6 dc6 pm6 an6 cd6 ct6), sl6⟩) (c6 : PySem.W.codeIn K cd6 "_law_same" = true) (k6 : PySem.W.keepIn K (.ref f6) = true)
    {f7 : Addr} {od7 an7 : Option Addr} {sl7 : Array (Option Value)} {oc7 kV7 dc7 pm7 cd7 ct7 : Value}
    (a7 : PySem.W.nsIn K mainGlobals "_fitting" = some (some (.ref f7)))
    (l7 : K.lookup f7 = some ⟨oc7, od7, .func (PySem.W.fnOf "_fitting" "_fitting" (defArgs s__fitting) (defBody s__fitting) (defScope s__fitting) .none kV7 dc7 pm7 an7 cd7 ct7), sl7⟩) (c7 : PySem.W.codeIn K cd7 "_fitting" = true) (k7 : PySem.W.keepIn K (.ref f7) = true)
    {f8 : Addr} {od8 an8 : Option Addr} {sl8 : Array (Option Value)} {oc8 kV8 dc8 pm8 cd8 ct8 : Value}
    (a8 : PySem.W.nsIn K mainGlobals "run_by_liking" = some (some (.ref f8)))
    (l8 : K.lookup f8 = some ⟨oc8, od8, .func (PySem.W.fnOf "run_by_liking" "run_by_liking" (defArgs s_run_by_liking) (defBody s_run_by_liking) (defScope s_run_by_liking) .none kV8 dc8 pm8 an8 cd8 ct8), sl8⟩) (c8 : PySem.W.codeIn K cd8 "run_by_liking" = true) (k8 : PySem.W.keepIn K (.ref f8) = true)
    {f9 : Addr} {od9 an9 : Option Addr} {sl9 : Array (Option Value)} {oc9 kV9 dc9 pm9 cd9 ct9 : Value}
    (a9 : PySem.W.nsIn K mainGlobals "small_run" = some (some (.ref f9)))
    (l9 : K.lookup f9 = some ⟨oc9, od9, .func (PySem.W.fnOf "small_run" "small_run" (defArgs s_small_run) (defBody s_small_run) (defScope s_small_run) .none kV9 dc9 pm9 an9 cd9 ct9), sl9⟩) (c9 : PySem.W.codeIn K cd9 "small_run" = true) (k9 : PySem.W.keepIn K (.ref f9) = true)
    {f10 : Addr} {od10 an10 : Option Addr} {sl10 : Array (Option Value)} {oc10 kV10 dc10 pm10 cd10 ct10 : Value}
    (a10 : PySem.W.nsIn K mainGlobals "_law_turned" = some (some (.ref f10)))
    (l10 : K.lookup f10 = some ⟨oc10, od10, .func (PySem.W.fnOf "_law_turned" "_law_turned" (defArgs s__law_turned) (defBody s__law_turned) (defScope s__law_turned) .none kV10 dc10 pm10 an10 cd10 ct10), sl10⟩) (c10 : PySem.W.codeIn K cd10 "_law_turned" = true) (k10 : PySem.W.keepIn K (.ref f10) = true)
    {f11 : Addr} {od11 an11 : Option Addr} {sl11 : Array (Option Value)} {oc11 kV11 dc11 pm11 cd11 ct11 : Value}
    (a11 : PySem.W.nsIn K mainGlobals "left_by" = some (some (.ref f11)))
    (l11 : K.lookup f11 = some ⟨oc11, od11, .func (PySem.W.fnOf "left_by" "left_by" (defArgs s_left_by) (defBody s_left_by) (defScope s_left_by) .none kV11 dc11 pm11 an11 cd11 ct11), sl11⟩) (c11 : PySem.W.codeIn K cd11 "left_by" = true) (k11 : PySem.W.keepIn K (.ref f11) = true)
    {f12 : Addr} {od12 an12 : Option Addr} {sl12 : Array (Option Value)} {oc12 kV12 dc12 pm12 cd12 ct12 : Value}
    (a12 : PySem.W.nsIn K mainGlobals "served_by" = some (some (.ref f12)))
    (l12 : K.lookup f12 = some ⟨oc12, od12, .func (PySem.W.fnOf "served_by" "served_by" (defArgs s_served_by) (defBody s_served_by) (defScope s_served_by) .none kV12 dc12 pm12 an12 cd12 ct12), sl12⟩) (c12 : PySem.W.codeIn K cd12 "served_by" = true) (k12 : PySem.W.keepIn K (.ref f12) = true)
    {f13 : Addr} {od13 an13 : Option Addr} {sl13 : Array (Option Value)} {oc13 kV13 dc13 pm13 cd13 ct13 : Value}
    (a13 : PySem.W.nsIn K mainGlobals "_law_words_right" = some (some (.ref f13)))
    (l13 : K.lookup f13 = some ⟨oc13, od13, .func (PySem.W.fnOf "_law_words_right" "_law_words_right" (defArgs s__law_words_right) (defBody s__law_words_right) (defScope s__law_words_right) .none kV13 dc13 pm13 an13 cd13 ct13), sl13⟩) (c13 : PySem.W.codeIn K cd13 "_law_words_right" = true) (k13 : PySem.W.keepIn K (.ref f13) = true)
    {f14 : Addr} {od14 an14 : Option Addr} {sl14 : Array (Option Value)} {oc14 kV14 dc14 pm14 cd14 ct14 : Value}
    (a14 : PySem.W.nsIn K mainGlobals "number_in" = some (some (.ref f14)))
    (l14 : K.lookup f14 = some ⟨oc14, od14, .func (PySem.W.fnOf "number_in" "number_in" (defArgs s_number_in) (defBody s_number_in) (defScope s_number_in) .none kV14 dc14 pm14 an14 cd14 ct14), sl14⟩) (c14 : PySem.W.codeIn K cd14 "number_in" = true) (k14 : PySem.W.keepIn K (.ref f14) = true)
    {f15 : Addr} {od15 an15 : Option Addr} {sl15 : Array (Option Value)} {oc15 kV15 dc15 pm15 cd15 ct15 : Value}
    (a15 : PySem.W.nsIn K mainGlobals "is_number" = some (some (.ref f15)))
    (l15 : K.lookup f15 = some ⟨oc15, od15, .func (PySem.W.fnOf "is_number" "is_number" (defArgs s_is_number) (defBody s_is_number) (defScope s_is_number) .none kV15 dc15 pm15 an15 cd15 ct15), sl15⟩) (c15 : PySem.W.codeIn K cd15 "is_number" = true) (k15 : PySem.W.keepIn K (.ref f15) = true)
    {f16 : Addr} {od16 an16 : Option Addr} {sl16 : Array (Option Value)} {oc16 kV16 dc16 pm16 cd16 ct16 : Value}
    (a16 : PySem.W.nsIn K mainGlobals "is_number_from" = some (some (.ref f16)))
    (l16 : K.lookup f16 = some ⟨oc16, od16, .func (PySem.W.fnOf "is_number_from" "is_number_from" (defArgs s_is_number_from) (defBody s_is_number_from) (defScope s_is_number_from) .none kV16 dc16 pm16 an16 cd16 ct16), sl16⟩) (c16 : PySem.W.codeIn K cd16 "is_number_from" = true) (k16 : PySem.W.keepIn K (.ref f16) = true)
    {f17 : Addr} {od17 an17 : Option Addr} {sl17 : Array (Option Value)} {oc17 kV17 dc17 pm17 cd17 ct17 : Value}
    (a17 : PySem.W.nsIn K mainGlobals "is_size" = some (some (.ref f17)))
    (l17 : K.lookup f17 = some ⟨oc17, od17, .func (PySem.W.fnOf "is_size" "is_size" (defArgs s_is_size) (defBody s_is_size) (defScope s_is_size) .none kV17 dc17 pm17 an17 cd17 ct17), sl17⟩) (c17 : PySem.W.codeIn K cd17 "is_size" = true) (k17 : PySem.W.keepIn K (.ref f17) = true)
    {f18 : Addr} {od18 an18 : Option Addr} {sl18 : Array (Option Value)} {oc18 kV18 dc18 pm18 cd18 ct18 : Value}
    (a18 : PySem.W.nsIn K mainGlobals "_sizes_in" = some (some (.ref f18)))
    (l18 : K.lookup f18 = some ⟨oc18, od18, .func (PySem.W.fnOf "_sizes_in" "_sizes_in" (defArgs s__sizes_in) (defBody s__sizes_in) (defScope s__sizes_in) .none kV18 dc18 pm18 an18 cd18 ct18), sl18⟩) (c18 : PySem.W.codeIn K cd18 "_sizes_in" = true) (k18 : PySem.W.keepIn K (.ref f18) = true)
    {f19 : Addr} {od19 an19 : Option Addr} {sl19 : Array (Option Value)} {oc19 kV19 dc19 pm19 cd19 ct19 : Value}
    (a19 : PySem.W.nsIn K mainGlobals "_part_in" = some (some (.ref f19)))
    (l19 : K.lookup f19 = some ⟨oc19, od19, .func (PySem.W.fnOf "_part_in" "_part_in" (defArgs s__part_in) (defBody s__part_in) (defScope s__part_in) .none kV19 dc19 pm19 an19 cd19 ct19), sl19⟩) (c19 : PySem.W.codeIn K cd19 "_part_in" = true) (k19 : PySem.W.keepIn K (.ref f19) = true)
    {f20 : Addr} {od20 an20 : Option Addr} {sl20 : Array (Option Value)} {oc20 kV20 dc20 pm20 cd20 ct20 : Value}
    (a20 : PySem.W.nsIn K mainGlobals "parse_hall" = some (some (.ref f20)))
    (l20 : K.lookup f20 = some ⟨oc20, od20, .func (PySem.W.fnOf "parse_hall" "parse_hall" (defArgs s_parse_hall) (defBody s_parse_hall) (defScope s_parse_hall) .none kV20 dc20 pm20 an20 cd20 ct20), sl20⟩) (c20 : PySem.W.codeIn K cd20 "parse_hall" = true) (k20 : PySem.W.keepIn K (.ref f20) = true)
    {f21 : Addr} {od21 an21 : Option Addr} {sl21 : Array (Option Value)} {oc21 kV21 dc21 pm21 cd21 ct21 : Value}
    (a21 : PySem.W.nsIn K mainGlobals "_law_accepted_right" = some (some (.ref f21)))
    (l21 : K.lookup f21 = some ⟨oc21, od21, .func (PySem.W.fnOf "_law_accepted_right" "_law_accepted_right" (defArgs s__law_accepted_right) (defBody s__law_accepted_right) (defScope s__law_accepted_right) .none kV21 dc21 pm21 an21 cd21 ct21), sl21⟩) (c21 : PySem.W.codeIn K cd21 "_law_accepted_right" = true) (k21 : PySem.W.keepIn K (.ref f21) = true)
    {f22 : Addr} {od22 an22 : Option Addr} {sl22 : Array (Option Value)} {oc22 kV22 dc22 pm22 cd22 ct22 : Value}
    (a22 : PySem.W.nsIn K mainGlobals "law" = some (some (.ref f22)))
    (l22 : K.lookup f22 = some ⟨oc22, od22, .func (PySem.W.fnOf "law" "law" (defArgs s_law) (defBody s_law) (defScope s_law) .none kV22 dc22 pm22 an22 cd22 ct22), sl22⟩) (c22 : PySem.W.codeIn K cd22 "law" = true) (k22 : PySem.W.keepIn K (.ref f22) = true)
    {f23 : Addr} {od23 an23 : Option Addr} {sl23 : Array (Option Value)} {oc23 kV23 dc23 pm23 cd23 ct23 : Value}
    (a23 : PySem.W.findIn K (.ref C_BadText) "__init__" = some (some (.ref f23))) (tI23 : PySem.W.typeIn K (.ref f23) = some (.type "function"))
    (l23 : K.lookup f23 = some ⟨oc23, od23, .func (PySem.W.fnOf "__init__" "BadText.__init__" (defArgs s_BadText_init) (defBody s_BadText_init) (defScope s_BadText_init) .none kV23 dc23 pm23 an23 cd23 ct23), sl23⟩) (c23 : PySem.W.codeIn K cd23 "BadText.__init__" = true) (k23 : PySem.W.keepIn K (.ref f23) = true)
    (z_ValueError : PySem.W.nsIn K mainGlobals "ValueError" = some none)
    (z_abs : PySem.W.nsIn K mainGlobals "abs" = some none)
    (z_all : PySem.W.nsIn K mainGlobals "all" = some none)
    (z_bool : PySem.W.nsIn K mainGlobals "bool" = some none)
    (z_enumerate : PySem.W.nsIn K mainGlobals "enumerate" = some none)
    (z_int : PySem.W.nsIn K mainGlobals "int" = some none)
    (z_isinstance : PySem.W.nsIn K mainGlobals "isinstance" = some none)
    (z_len : PySem.W.nsIn K mainGlobals "len" = some none)
    (z_list : PySem.W.nsIn K mainGlobals "list" = some none)
    (z_max : PySem.W.nsIn K mainGlobals "max" = some none)
    (z_min : PySem.W.nsIn K mainGlobals "min" = some none)
    (z_range : PySem.W.nsIn K mainGlobals "range" = some none)
    (z_sorted : PySem.W.nsIn K mainGlobals "sorted" = some none)
    (z_str : PySem.W.nsIn K mainGlobals "str" = some none)
    (z_tuple : PySem.W.nsIn K mainGlobals "tuple" = some none)
    (z_zip : PySem.W.nsIn K mainGlobals "zip" = some none)
    {t_MAX_SIZE : Tok} (y_MAX_SIZE : PySem.W.nsIn K mainGlobals "MAX_SIZE" = some (some (.int (1000000) t_MAX_SIZE)))
    {t_MAX_GUESTS : Tok} (y_MAX_GUESTS : PySem.W.nsIn K mainGlobals "MAX_GUESTS" = some (some (.int (20) t_MAX_GUESTS)))
    {t_MAX_PAIRS : Tok} (y_MAX_PAIRS : PySem.W.nsIn K mainGlobals "MAX_PAIRS" = some (some (.int (20) t_MAX_PAIRS)))
    {t_SLASH : Tok} (y_SLASH : PySem.W.nsIn K mainGlobals "SLASH" = some (some (.str "/" t_SLASH)))
    {t_NO_PAIRS : Tok} (y_NO_PAIRS : PySem.W.nsIn K mainGlobals "NO_PAIRS" = some (some (.str "-" t_NO_PAIRS)))
    {t_WORDS : Tok} (y_WORDS : PySem.W.nsIn K mainGlobals "WORDS" = some (some (.int (3) t_WORDS)))
    {t_NO_PAIR : Tok} (y_NO_PAIR : PySem.W.nsIn K mainGlobals "NO_PAIR" = some (some (.int (-1) t_NO_PAIR)))
    (h_a_PartyError : PySem.W.nsIn K mainGlobals "PartyError" = some (some (.ref C_PartyError)))
    (h_a_BadText : PySem.W.nsIn K mainGlobals "BadText" = some (some (.ref C_BadText)))
    (h_ty_BadText : PySem.W.typeIn K (.ref C_BadText) = some (.type "type"))
    (h_k_BadText : PySem.W.keepIn K (.ref C_BadText) = true)
    (h_hd_BadText : PySem.W.hasDictIn K C_BadText = true)
    (h_sa_BadText : PySem.W.findIn K (.ref C_BadText) "__setattr__" = some (some (.builtin "object.__setattr__")))
    (h_s_BadText_BadText : PySem.W.subIn K (.ref C_BadText) (.ref C_BadText) = some true)
    (h_sb_BadText : PySem.W.subIn K (.ref C_BadText) (.type "BaseException") = some true)
    (h_n_BadText : PySem.W.findIn K (.ref C_BadText) "index" = some none)
    {nm_BadText q_BadText : Str} {N_BadText : Addr} {bs_BadText bm_BadText : List Value} {sn_BadText : List Str} {sub_BadText : List Value} {ab_BadText : Bool} {col_BadText : Option Bool} {dd_BadText : Option Addr} {m0_BadText m1_BadText m2_BadText m3_BadText m5_BadText : Option Value}
    (xL_BadText : K.lookup C_BadText = some (excClassObj nm_BadText q_BadText C_BadText N_BadText bs_BadText bm_BadText true sn_BadText sub_BadText ab_BadText col_BadText dd_BadText m0_BadText m1_BadText m2_BadText m3_BadText m5_BadText "ValueError.__new__")) (xr_BadText : PySem.HandSPX.refsVE bm_BadText = true)
    (e0_PartyError : PySem.W.excIn K C_PartyError [.type "ValueError", .type "Exception", .type "BaseException", .type "object"] "ValueError.__new__" = true)
    : ∃ fd : FuncData, (∀ (s : Shared) (v : Value), BindsTo s fd ⟨[v], []⟩ [("script", v)]) ∧ ∀ base : Heap, K.In base → base.Ns mainGlobals mg → FnG l.prog w K mg base 8 fa fd ["script"] (spLaw K) :=
  all_mk (C := ⟨C_PartyError, C_BadText⟩) X G hfa a0 l0 c0 k0 a1 l1 c1 k1 a2 l2 c2 k2 a3 l3 c3 k3 a4 l4 c4 k4 a5 l5 c5 k5 a6 l6 c6 k6 a7 l7 c7 k7 a8 l8 c8 k8 a9 l9 c9 k9 a10 l10 c10 k10 a11 l11 c11 k11 a12 l12 c12 k12 a13 l13 c13 k13 a14 l14 c14 k14 a15 l15 c15 k15 a16 l16 c16 k16 a17 l17 c17 k17 a18 l18 c18 k18 a19 l19 c19 k19 a20 l20 c20 k20 a21 l21 c21 k21 a22 l22 c22 k22 a23 tI23 l23 c23 k23 z_ValueError z_abs z_all z_bool z_enumerate z_int z_isinstance z_len z_list z_max z_min z_range z_sorted z_str z_tuple z_zip y_MAX_SIZE y_MAX_GUESTS y_MAX_PAIRS y_SLASH y_NO_PAIRS y_WORDS y_NO_PAIR h_a_PartyError h_a_BadText h_ty_BadText h_k_BadText h_hd_BadText h_sa_BadText h_s_BadText_BadText h_sb_BadText h_n_BadText xL_BadText xr_BadText e0_PartyError
end DL
namespace DL
open PySem PySem.W PySem.Calls PyProof.Rows
abbrev headR : OpenRow := OpenLaw.row PySem.Challenge.rw_shoeparty_k63_whole_texts_there_and_back
def headQ : Program := view headR.prog (([0, 1, 2, 4, 5, 7, 8, 9, 11, 12, 13, 14, 15, 16, 17, 18, 19, 21, 22, 23, 24, 25, 26, 28, 29, 30, 31, 32, 33, 34] : List Nat) ++ ([35, 36] : List Nat))
def headL : List PySem.Str := ([] : List PySem.Str)
def headD (p : Program) (i : Nat) : DefRec := match p.main.body[i]? with
  | some (.FunctionDef n a b _ _ _ sc _ _ pos) => ⟨n, a, b, sc, pos⟩
  | _ => ⟨"law", ⟨[], [], none, [], [], none, []⟩, [], ⟨.function, [], false, false, []⟩, default⟩
end DL
open PySem PySem.W PySem.Calls PyProof.Rows in
local macro_rules | `(tactic| o_head $H:term) => `(tactic| (refine holds_open (r := DL.headR) (q := DL.headQ) (loose := DL.headL) (Xt := fun s => xlAt DL.headQ [] s && recOk (RowW.records (OpenRow.toRowW DL.headR)) s) (XP := XL DL.headQ []) (Yf := Hook.obs $H) (Ya := Hook.val $H) (YP := Hook.says $H) (d := DL.headD DL.headR.prog 36) (kwd := []) (N := 3262) ?hl (Hook.of $H) (Hook.keeps $H) (fun s e => xl_of s (Bool.and_eq_true_iff.mp e).1) XL.keeps (by kernel_rfl) (by kernel_rfl) (by kernel_rfl) (fun s e => recFacts_of (Bool.and_eq_true_iff.mp e).2) (by rfl) (by first | assumption | decide +kernel) (by decide +kernel) ⟨rfl, rfl, rfl, rfl, rfl, by decide +kernel⟩ ?hw ?hc; (case hl => (refine HeadRun.left_oneK (M := 2562) (by kernel_rfl) (by rfl) (fun s => by kernel_rfl) (by rfl) ?_; intro w os; kernel_rfl))))
open PySem PySem.W PyProof.Rows in
set_option maxRecDepth 100000 in
set_option maxHeartbeats 0 in
theorem PySem.Challenge.cw_shoeparty_k63_whole_texts_there_and_back_holds : PySem.Challenge.rw_shoeparty_k63_whole_texts_there_and_back.Holds := by
  w_on; o_law; k_head; (case hw => w_witness2)
  k_fill
  refine DL.walk_g (l := PySem.Challenge.rw_shoeparty_k63_whole_texts_there_and_back) (k := 8) (x := "script") rfl (by kernel_rfl) ⟨rfl, by decide, by decide⟩ (fun w h Y => PySem.W.kIn_of Y) ?F
  case F =>
    intro w mg fa h KX G hmg0
    have hmg : mg ("law" : PySem.Str) = some (.ref fa) := by
      have e : (DL.headD DL.headR.prog 36).name = ("law" : PySem.Str) := by kernel_rfl
      rw [← e]
      exact hmg0
    refine' DL.all_mk2 KX G hmg ?a0 ?l0 ?c0 ?k0 ?a1 ?l1 ?c1 ?k1 ?a2 ?l2 ?c2 ?k2 ?a3 ?l3 ?c3 ?k3 ?a4 ?l4 ?c4 ?k4 ?a5 ?l5 ?c5 ?k5 ?a6 ?l6 ?c6 ?k6 ?a7 ?l7 ?c7 ?k7 ?a8 ?l8 ?c8 ?k8 ?a9 ?l9 ?c9 ?k9 ?a10 ?l10 ?c10 ?k10 ?a11 ?l11 ?c11 ?k11 ?a12 ?l12 ?c12 ?k12 ?a13 ?l13 ?c13 ?k13 ?a14 ?l14 ?c14 ?k14 ?a15 ?l15 ?c15 ?k15 ?a16 ?l16 ?c16 ?k16 ?a17 ?l17 ?c17 ?k17 ?a18 ?l18 ?c18 ?k18 ?a19 ?l19 ?c19 ?k19 ?a20 ?l20 ?c20 ?k20 ?a21 ?l21 ?c21 ?k21 ?a22 ?l22 ?c22 ?k22 ?a23 ?tI23 ?l23 ?c23 ?k23 ?z_ValueError ?z_abs ?z_all ?z_bool ?z_enumerate ?z_int ?z_isinstance ?z_len ?z_list ?z_max ?z_min ?z_range ?z_sorted ?z_str ?z_tuple ?z_zip ?y_MAX_SIZE ?y_MAX_GUESTS ?y_MAX_PAIRS ?y_SLASH ?y_NO_PAIRS ?y_WORDS ?y_NO_PAIR ?h_a_PartyError ?h_a_BadText ?h_ty_BadText ?h_k_BadText ?h_hd_BadText ?h_sa_BadText ?h_s_BadText_BadText ?h_sb_BadText ?h_n_BadText ?xL_BadText ?xr_BadText ?e0_PartyError
    (case h_a_PartyError => k_is)
    (case h_a_BadText => k_is)
    (case a0 => k_is)
    (case l0 => k_is)
    (case c0 => k_is)
    (case k0 => k_is)
    (case a1 => k_is)
    (case l1 => k_is)
    (case c1 => k_is)
    (case k1 => k_is)
    (case a2 => k_is)
    (case l2 => k_is)
    (case c2 => k_is)
    (case k2 => k_is)
    (case a3 => k_is)
    (case l3 => k_is)
    (case c3 => k_is)
    (case k3 => k_is)
    (case a4 => k_is)
    (case l4 => k_is)
    (case c4 => k_is)
    (case k4 => k_is)
    (case a5 => k_is)
    (case l5 => k_is)
    (case c5 => k_is)
    (case k5 => k_is)
    (case a6 => k_is)
    (case l6 => k_is)
    (case c6 => k_is)
    (case k6 => k_is)
    (case a7 => k_is)
    (case l7 => k_is)
    (case c7 => k_is)
    (case k7 => k_is)
    (case a8 => k_is)
    (case l8 => k_is)
    (case c8 => k_is)
    (case k8 => k_is)
    (case a9 => k_is)
    (case l9 => k_is)
    (case c9 => k_is)
    (case k9 => k_is)
    (case a10 => k_is)
    (case l10 => k_is)
    (case c10 => k_is)
    (case k10 => k_is)
    (case a11 => k_is)
    (case l11 => k_is)
    (case c11 => k_is)
    (case k11 => k_is)
    (case a12 => k_is)
    (case l12 => k_is)
    (case c12 => k_is)
    (case k12 => k_is)
    (case a13 => k_is)
    (case l13 => k_is)
    (case c13 => k_is)
    (case k13 => k_is)
    (case a14 => k_is)
    (case l14 => k_is)
    (case c14 => k_is)
    (case k14 => k_is)
    (case a15 => k_is)
    (case l15 => k_is)
    (case c15 => k_is)
    (case k15 => k_is)
    (case a16 => k_is)
    (case l16 => k_is)
    (case c16 => k_is)
    (case k16 => k_is)
    (case a17 => k_is)
    (case l17 => k_is)
    (case c17 => k_is)
    (case k17 => k_is)
    (case a18 => k_is)
    (case l18 => k_is)
    (case c18 => k_is)
    (case k18 => k_is)
    (case a19 => k_is)
    (case l19 => k_is)
    (case c19 => k_is)
    (case k19 => k_is)
    (case a20 => k_is)
    (case l20 => k_is)
    (case c20 => k_is)
    (case k20 => k_is)
    (case a21 => k_is)
    (case l21 => k_is)
    (case c21 => k_is)
    (case k21 => k_is)
    (case a22 => k_is)
    (case l22 => k_is)
    (case c22 => k_is)
    (case k22 => k_is)
    (case a23 => k_is)
    (case tI23 => k_is)
    (case l23 => k_is)
    (case c23 => k_is)
    (case k23 => k_is)
    (case z_ValueError => k_is)
    (case z_abs => k_is)
    (case z_all => k_is)
    (case z_bool => k_is)
    (case z_enumerate => k_is)
    (case z_int => k_is)
    (case z_isinstance => k_is)
    (case z_len => k_is)
    (case z_list => k_is)
    (case z_max => k_is)
    (case z_min => k_is)
    (case z_range => k_is)
    (case z_sorted => k_is)
    (case z_str => k_is)
    (case z_tuple => k_is)
    (case z_zip => k_is)
    (case y_MAX_SIZE => k_is)
    (case y_MAX_GUESTS => k_is)
    (case y_MAX_PAIRS => k_is)
    (case y_SLASH => k_is)
    (case y_NO_PAIRS => k_is)
    (case y_WORDS => k_is)
    (case y_NO_PAIR => k_is)
    (case h_ty_BadText => k_is)
    (case h_k_BadText => k_is)
    (case h_hd_BadText => k_is)
    (case h_sa_BadText => k_is)
    (case h_s_BadText_BadText => k_is)
    (case h_sb_BadText => k_is)
    (case h_n_BadText => k_is)
    (case xL_BadText => k_is)
    (case xr_BadText => decide +kernel)
    (case e0_PartyError => k_exc)
#print axioms PySem.Challenge.cw_shoeparty_k63_whole_texts_there_and_back_holds
