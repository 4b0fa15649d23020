import PyProof.Rows.All
import Wide.All
import OpenK.AllK
import Wide.FinOn
import HandS.ForMost
import HandS.TupAny
import HandS.TupMul
import HandS.IsInst
import HandS.SortInts
import HandS.Wide
import HandS.Style
import HandS.Flow
import HandS.Deep
import HandS.SetFor
import HandS.Conv
import HandS.SortRule
import HandS.RaiseMore
import HandS.Zip
import KE.GoesMore
import KE.GoesEnum
import HandS.Strs
import HandS.NoneIn
import HandS.List
import HandS.SortOrd
import HandS.Text
import HandS.FStr
import KE.KDictZip
import PyProof.TupleOfGen
import HandS.DictEq
import HandS.ForExc
import HandS.ExcInit
import HandS.ExcField
import HandS.ExcIs
import HandS.TryMany
import KE.KExcIs
import KE.KIsAll
import KE.KCallOwn
import HandS.SlotsOwn
import HandS.MakeKwOnly
import HandS.More
import HandS.CallLocal
import HandS.HeadHook3
import HandS.TryOnly
import KE.KExcPX
import KE.KIndexOf
import HandS.GenBody
import PyProof.GenComp
import HandS.GenYield
import HandS.GenList
import KE.LtData
import HandS.StrMore
import HandS.Codes
import HandS.Iter
import HandS.ClsMeth
import HandS.HotCalls
import PyProof.FString3
import KE.KxField
import KE.OsRunLaw
import PySem.Challenge.RW_shoeparty_k28_shelves_in_equal_and_text
set_option Elab.async false
set_option linter.all false
set_option maxRecDepth 100000
namespace DL
open PySem PySem.Spec PyProof.Rows L2
def keyD : Key → PyData
  | .inl i => .int i
  | .inr s => .str s
/-- a dict of ints under plain keys -/
def DctR (kvs : List (PyData × PyData)) (ks : List (Key × V)) : Prop :=
  ∃ ps : List (Key × Int), ks = ps.map (fun p => (p.1, V.int p.2)) ∧ kvs = ps.map (fun p => (keyD p.1, PyData.int p.2))
/-- a thing with a life of its own, named by its address -/
def refD (a : Addr) : PyData := .dict [(.none, .int (((2 : Nat) ^ 2000 + a : Nat) : Int))]
/-- a tuple of ints whose dict is known to be none -/
def clnD (ns : List Int) : PyData := .dict [(.none, .tuple (.int (((2 : Nat) ^ 2000 : Nat) : Int) :: ns.map .int))]
theorem rdS {F H : Hp} (e : Same F H) {a : Addr} {u : HO} (h : Rd F a u) : Rd H a u := h.imp (e _ _) fun ⟨o, q⟩ => ⟨o, e _ _ q⟩
theorem tupOk {X : Cx} {pins : List (Addr × Obj)} {σ : L2.St} {H : Hp} {s : Shared} (I : Inv X pins σ H s) {a : Addr} {xs : List V} (h : Rd H a (.tup xs)) : xs.length ≤ sizeLine ∧ ∃ its, Vals xs its ∧ IsTup s.heap a its.toArray := by
  rcases h with h | ⟨o, h⟩
  · exact I.hok a _ h
  · exact (I.hok a _ h).2
theorem sqtR {K : PySem.W.Frag} {H : Hp} {a : Addr} {xs : List V} (h : Rd H a (.tup xs)) : SqT K H a xs := .inl h
mutual
def Rp (K : PySem.W.Frag) (F : Hp) : PyData → V → Prop
  | .none, v => v = .non
  | .bool b, v => v = .bl b
  | .int i, v => v = .int i
  | .str s, v => v = .str s
  | .list ds, v => ∃ a xs, v = .ref a ∧ F a = some (.lst xs) ∧ Rps K F ds xs
  | .tuple ds, v => ∃ a xs, v = .ref a ∧ Rd F a (.tup xs) ∧ Rps K F ds xs
  | .dict kvs, v => (∃ a ks, v = .ref a ∧ F a = some (.dK ks) ∧ DctR kvs ks) ∨ (∃ a : Addr, PyData.dict kvs = refD a ∧ v = .ref a) ∨ ∃ (a : Addr) (ns : List Int) (o : Obj), PyData.dict kvs = clnD ns ∧ v = .ref a ∧ F a = some (.frz o (.tup (ns.map V.int))) ∧ o.cls = .type "tuple" ∧ o.dict = none
def Rps (K : PySem.W.Frag) (F : Hp) : List PyData → List V → Prop
  | [], vs => vs = []
  | d :: ds, vs => ∃ v r, vs = v :: r ∧ Rp K F d v ∧ Rps K F ds r
end
section
variable {K : PySem.W.Frag} {F F' H H' : Hp}
mutual
theorem Rp.mono (e : Same F F') : ∀ (d : PyData) (v : V), Rp K F d v → Rp K F' d v
  | .none, _, h => by simpa only [Rp] using h
  | .bool _, _, h => by simpa only [Rp] using h
  | .int _, _, h => by simpa only [Rp] using h
  | .str _, _, h => by simpa only [Rp] using h
  | .list ds, _, h => by
    simp only [Rp] at h ⊢
    obtain ⟨a, xs, rfl, h1, h2⟩ := h
    exact ⟨a, xs, rfl, e _ _ h1, Rps.mono e ds xs h2⟩
  | .tuple ds, _, h => by
    simp only [Rp] at h ⊢
    obtain ⟨a, xs, rfl, h1, h2⟩ := h
    exact ⟨a, xs, rfl, rdS e h1, Rps.mono e ds xs h2⟩
  | .dict kvs, _, h => by
    simp only [Rp] at h ⊢
    rcases h with ⟨a, ks, rfl, h1, h2⟩ | h | ⟨a, ns, o, e1, rfl, h1, h2⟩
    · exact .inl ⟨a, ks, rfl, e _ _ h1, h2⟩
    · exact .inr (.inl h)
    · exact .inr (.inr ⟨a, ns, o, e1, rfl, e _ _ h1, h2⟩)
theorem Rps.mono (e : Same F F') : ∀ (ds : List PyData) (vs : List V), Rps K F ds vs → Rps K F' ds vs
  | [], _, h => by simpa only [Rps] using h
  | d :: ds, _, h => by
    simp only [Rps] at h ⊢
    obtain ⟨v, r, rfl, h1, h2⟩ := h
    exact ⟨v, r, rfl, Rp.mono e d v h1, Rps.mono e ds r h2⟩
end
theorem rp_ref {a : Addr} : Rp K F (refD a) (.ref a) := by
  have : Rp K F (.dict [(.none, .int (((2 : Nat) ^ 2000 + a : Nat) : Int))]) (.ref a) := by
    simp only [Rp]
    exact .inr (.inl ⟨a, rfl, rfl⟩)
  exact this
theorem refD_inj {a b : Addr} (h : refD a = refD b) : a = b := by
  unfold refD at h
  injection h with h
  injection h with h
  injection h with _ h
  injection h with h
  exact Nat.add_left_cancel (Int.ofNat.inj h)
theorem keyD_ne {k : Key} : keyD k ≠ .none := by cases k <;> nofun
theorem ref_no {kvs : List (PyData × PyData)} {ks : List (Key × V)} {a : Addr} (h : DctR kvs ks) (e : PyData.dict kvs = refD a) : False := by
  obtain ⟨ps, _, e2⟩ := h
  unfold refD at e
  injection e with e
  rw [e2] at e
  cases ps with
  | nil => cases e
  | cons q ps =>
    rw [List.map_cons] at e
    injection e with e _
    injection e with e _
    exact absurd e keyD_ne
theorem Rp.ref {a : Addr} {v : V} (h : Rp K F (refD a) v) : v = .ref a := by
  have h : Rp K F (.dict [(.none, .int (((2 : Nat) ^ 2000 + a : Nat) : Int))]) v := h
  simp only [Rp] at h
  rcases h with ⟨_, _, _, _, q⟩ | ⟨b, e, rfl⟩ | ⟨_, _, _, e, _⟩
  · exact (ref_no (a := a) q rfl).elim
  · rw [refD_inj (show refD a = refD b from e)]
  · unfold clnD at e
    injection e with e
    injection e with e
    injection e with _ e
    cases e
def isRefD : PyData → Bool
  | .dict [(.none, _)] => true
  | _ => false
theorem rps_nil : Rps K F [] [] := by simp [Rps]
theorem rps_cons {d : PyData} {ds : List PyData} {v : V} {vs : List V} (h1 : Rp K F d v) (h2 : Rps K F ds vs) : Rps K F (d :: ds) (v :: vs) := by
  simp only [Rps]; exact ⟨v, vs, rfl, h1, h2⟩
theorem Rps.length : ∀ {ds : List PyData} {vs : List V}, Rps K F ds vs → ds.length = vs.length
  | [], _, h => by simp only [Rps] at h; subst h; rfl
  | d :: ds, _, h => by
    simp only [Rps] at h
    obtain ⟨v, r, rfl, _, h2⟩ := h
    simp [Rps.length h2]
theorem Rps.get : ∀ {ds : List PyData} {vs : List V} {i : Nat} {d : PyData}, Rps K F ds vs → ds[i]? = some d → ∃ v, vs[i]? = some v ∧ Rp K F d v
  | [], _, i, d, _, e => by simp at e
  | d :: ds, _, 0, d', h, e => by
    simp only [Rps] at h
    obtain ⟨v, r, rfl, h1, _⟩ := h
    simp at e; subst e
    exact ⟨v, rfl, h1⟩
  | d :: ds, _, i + 1, d', h, e => by
    simp only [Rps] at h
    obtain ⟨v, r, rfl, _, h2⟩ := h
    obtain ⟨w, e1, e2⟩ := Rps.get (i := i) h2 (by simpa using e)
    exact ⟨w, by simpa using e1, e2⟩
theorem Rps.append : ∀ {ds es : List PyData} {vs us : List V}, Rps K F ds vs → Rps K F es us → Rps K F (ds ++ es) (vs ++ us)
  | [], _, _, _, h, h' => by simp only [Rps] at h; subst h; exact h'
  | d :: ds, es, _, us, h, h' => by
    simp only [Rps] at h
    obtain ⟨v, r, rfl, h1, h2⟩ := h
    exact rps_cons h1 (Rps.append h2 h')
theorem Rps.take : ∀ (n : Nat) {ds : List PyData} {vs : List V}, Rps K F ds vs → Rps K F (ds.take n) (vs.take n)
  | 0, _, _, _ => by simp [Rps]
  | n + 1, [], _, h => by simp only [Rps] at h; subst h; simp [Rps]
  | n + 1, d :: ds, _, h => by
    simp only [Rps] at h
    obtain ⟨v, r, rfl, h1, h2⟩ := h
    exact rps_cons h1 (Rps.take n h2)
theorem Rps.drop : ∀ (n : Nat) {ds : List PyData} {vs : List V}, Rps K F ds vs → Rps K F (ds.drop n) (vs.drop n)
  | 0, _, _, h => h
  | n + 1, [], _, h => by simp only [Rps] at h; subst h; simp [Rps]
  | n + 1, d :: ds, _, h => by
    simp only [Rps] at h
    obtain ⟨v, r, rfl, h1, h2⟩ := h
    exact Rps.drop n h2
theorem rps_ints : ∀ (ns : List Int), Rps K F (ns.map PyData.int) (ns.map V.int)
  | [] => rps_nil
  | n :: ns => rps_cons (by simp [Rp]) (rps_ints ns)
theorem Rps.ints : ∀ {ns : List Int} {vs : List V}, Rps K F (ns.map PyData.int) vs → vs = ns.map V.int
  | [], _, h => by simpa only [List.map_nil, Rps] using h
  | n :: ns, _, h => by
    simp only [List.map_cons, Rps, Rp] at h
    obtain ⟨v, r, rfl, rfl, h2⟩ := h
    rw [Rps.ints h2]; rfl
end
/-- an object: its class, its fields -/
structure Ob where
  C : Addr
  fs : List (Str × PyData)
/-- an error that is being handled: its class, its own dict, its fields -/
structure Xo where
  cls : Value
  d : Option Addr
  fs : List (Str × PyData)
/-- the world: how many draws, what objects there are -/
structure Wo where
  n : Nat
  ob : Addr → Option Ob
  xs : Addr → Option Xo
def Wo.put (w : Wo) (a : Addr) (o : Ob) : Wo := { w with ob := fun b => if b = a then some o else w.ob b }
instance : HAdd Wo Nat Wo := ⟨fun w k => { w with n := w.n + k }⟩
/-- later: some draws more -/
instance : LE Wo := ⟨fun w w' => w.n ≤ w'.n ∧ w.ob = w'.ob ∧ w.xs = w'.xs⟩
abbrev FsR (K : PySem.W.Frag) (F : Hp) : List (Str × PyData) → List (Str × V) → Prop := Paired fun p q => p.1 = q.1 ∧ Rp K F p.2 q.2
structure DkS where
  own : List Addr
  at0 : Hp → Nat → Prop
  stay : ∀ (H H' : Hp) (n : Nat), (∀ a, a ∈ own → H' a = H a) → at0 H n → at0 H' n
  lsts : ∀ (H : Hp) (n : Nat), at0 H n → ∀ a, a ∈ own → ∃ xs, H a = some (.lst xs)
def XoAt (K : PySem.W.Frag) (F : Hp) (x : Xo) : Prop := (x.d = none ∧ x.fs = []) ∨ ∃ dd vs, x.d = some dd ∧ F dd = some (.xd vs) ∧ FsR K F x.fs vs
def Obs (K : PySem.W.Frag) (F H : Hp) (w : Wo) : Prop := (∀ a o, w.ob a = some o → F a = none ∧ ∃ dx vs, H a = some (.ins o.C dx vs) ∧ FsR K F o.fs vs) ∧ ∀ a x, w.xs a = some x → XoAt K F x
def DkS.at_ (δ : DkS) (K : PySem.W.Frag) (F H : Hp) (w : Wo) : Prop := δ.at0 H w.n ∧ Obs K F H w
/-- [cells, count] -/
def dkA (a b : Addr) : DkS := ⟨[a, b], fun H n => ∃ cells : List Int, H a = some (.lst [.ref b, .int n]) ∧ H b = some (.lst (cells.map V.int)) ∧ cells.length ≤ 63 ∧ ∀ c ∈ cells, 0 ≤ c, fun H H' n h ⟨cells, h1, h2, h3⟩ =>
  ⟨cells, by rw [h a (by simp)]; exact h1, by rw [h b (by simp)]; exact h2, h3⟩, fun H n ⟨cells, h1, h2, _⟩ x hx => by
  rcases List.mem_cons.mp hx with rfl | hx
  · exact ⟨_, h1⟩
  · rw [List.mem_singleton.mp hx]; exact ⟨_, h2⟩⟩
/-- [cells, count, rests] -/
def dkB (a b c : Addr) : DkS := ⟨[a, b, c], fun H n => ∃ cells rests : List Int, H a = some (.lst [.ref b, .int n, .ref c]) ∧ H b = some (.lst (cells.map V.int)) ∧ H c = some (.lst (rests.map V.int)) ∧ rests.length = cells.length ∧ 1 ≤ cells.length ∧ cells.length ≤ 63 ∧ (∀ c ∈ cells, c = c) ∧ ∀ c ∈ rests, 0 ≤ c,
  fun H H' n h ⟨cells, rests, h1, h2, h3, h4⟩ => ⟨cells, rests, by rw [h a (by simp)]; exact h1, by rw [h b (by simp)]; exact h2, by rw [h c (by simp)]; exact h3, h4⟩, fun H n ⟨cells, rests, h1, h2, h3, _⟩ x hx => by
  rcases List.mem_cons.mp hx with rfl | hx
  · exact ⟨_, h1⟩
  rcases List.mem_cons.mp hx with rfl | hx
  · exact ⟨_, h2⟩
  · rw [List.mem_singleton.mp hx]; exact ⟨_, h3⟩⟩
def IsDk : Bool → DkS → Addr → Prop
  | false, δ, a => ∃ b, δ = dkA a b
  | true, δ, a => ∃ b c, δ = dkB a b c
/-- F0, H0: the entry; δ: the deck -/
structure Fx where
  F0 : Hp
  H0 : Hp
  δ : DkS
inductive Dv where
  | dat (d : PyData) | vw (ds : List PyData) | mt (ds : List PyData) | deck (b : Bool) | md (a : Addr) (ks : List (Key × V))
def Dv.toD : Dv → PyData
  | .dat d => d
  | .vw ds => .list ds
  | .mt ds => .list ds
  | .deck _ => .none
  | .md _ _ => .none
def Dv.isL : Dv → Bool
  | .vw _ => true
  | .mt _ => true
  | _ => false
def Dv.isDk : Dv → Bool
  | .deck _ => true
  | _ => false
abbrev Rho := List (Option Dv)
/-- a value that an expression hands on -/
def VR (K : PySem.W.Frag) (δ : DkS) (F H : Hp) : Dv → V → Prop
  | .dat d, v => Rp K F d v
  | .vw ds, v => ∃ a vs, v = .ref a ∧ H a = some (.lst vs) ∧ Rps K F ds vs ∧ a ∉ δ.own
  | .mt _, _ => False
  | .deck k, v => ∃ a, v = .ref a ∧ IsDk k δ a
  | .md _ _, _ => False
def SlotV (K : PySem.W.Frag) (Z : Fx) (F H : Hp) : Dv → V → Prop
  | .mt ds, v => ∃ a vs, v = .ref a ∧ Z.H0 a = none ∧ F a = none ∧ H a = some (.lst vs) ∧ Rps K F ds vs ∧ a ∉ Z.δ.own
  | .md a ks, v => v = .ref a ∧ Z.H0 a = none ∧ F a = none ∧ H a = some (.dK ks) ∧ a ∉ Z.δ.own
  | .dat d, v => VR K Z.δ F H (.dat d) v
  | .vw ds, v => VR K Z.δ F H (.vw ds) v
  | .deck k, v => VR K Z.δ F H (.deck k) v
def isIns : HO → Bool
  | .ins _ _ _ => true
  | _ => false
/-- one expression's growth -/
structure Gr (δ : DkS) (F H F' H' : Hp) : Prop where
  sF : Same F F'
  nF : ∀ a, H a ≠ none → F a = none → F' a = none
  kH : ∀ a o, a ∉ δ.own → H a = some o → isIns o = false → H' a = some o
  iH : ∀ a C dx fs, H a = some (.ins C dx fs) → ∃ fs', H' a = some (.ins C dx fs')
  dH : ∀ a, H a ≠ none → H' a ≠ none
structure Base (K : PySem.W.Frag) (Z : Fx) (F H : Hp) (n : Wo) : Prop where
  sub : Same F H
  dk : Z.δ.at_ K F H n
  dkF : ∀ a, a ∈ Z.δ.own → F a = none ∧ H a ≠ none
  gF : Same Z.F0 F
  gN : ∀ a, Z.H0 a ≠ none → Z.F0 a = none → F a = none
  gH : ∀ a o, a ∉ Z.δ.own → Z.H0 a = some o → isIns o = false → H a = some o
  gI : ∀ a C dx fs, Z.H0 a = some (.ins C dx fs) → ∃ fs', H a = some (.ins C dx fs')
structure SR (Y : Fx) (K : PySem.W.Frag) (Z : Fx) (F H : Hp) (σ : L2.St) (ρ : Rho) (n : Wo) : Prop where
  b : Base K Z F H n
  de : Z.δ = Y.δ
  he : Z.H0 = Y.H0
  gr : Gr Y.δ Y.F0 Y.H0 F H
  len : ρ.length = σ.length
  slot : ∀ (i : Nat) (x : Dv), ρ[i]? = some (some x) → ∃ v, σ[i]? = some (some v) ∧ SlotV K Z F H x v
  apart : ∀ (i j : Nat) (a : Addr) (ds : List PyData) (y : Dv), i ≠ j → ρ[i]? = some (some (.mt ds)) → σ[i]? = some (some (.ref a)) → ρ[j]? = some (some y) → y.isL = true → σ[j]? ≠ some (some (.ref a))
/-- .. that changes nothing -/
structure Gp (F H F' H' : Hp) : Prop where
  sF : Same F F'
  nF : ∀ a, H a ≠ none → F a = none → F' a = none
  sH : Same H H'
section
variable {K : PySem.W.Frag} {Y Z : Fx} {δ : DkS} {F F' F'' H H' H'' : Hp} {σ : L2.St} {ρ : Rho} {n n' : Wo}
theorem some_of_ne {H : Hp} {a : Addr} (h : H a ≠ none) : ∃ o, H a = some o := by
  cases e : H a with
  | none => exact absurd e h
  | some o => exact ⟨o, rfl⟩
theorem Gr.refl : Gr δ F H F H := ⟨Same.refl _, fun _ _ h => h, fun _ _ _ h _ => h, fun _ _ _ _ h => ⟨_, h⟩, fun _ h => h⟩
theorem Gr.trans (a : Gr δ F H F' H') (b : Gr δ F' H' F'' H'') : Gr δ F H F'' H'' :=
  ⟨a.sF.trans b.sF, fun x h1 h2 => b.nF x (a.dH x h1) (a.nF x h1 h2), fun x o h1 h2 h3 => b.kH x o h1 (a.kH x o h1 h2 h3) h3, fun x C dx fs h => by
    obtain ⟨fs', h'⟩ := a.iH x C dx fs h
    exact b.iH x C dx fs' h', fun x h => b.dH x (a.dH x h)⟩
theorem Gp.refl : Gp F H F H := ⟨Same.refl _, fun _ _ h => h, Same.refl _⟩
theorem Gp.ne (g : Gp F H F' H') {a : Addr} (h : H a ≠ none) : H' a ≠ none := by
  obtain ⟨o, e⟩ := some_of_ne h
  rw [g.sH _ _ e]; nofun
theorem Gp.trans (a : Gp F H F' H') (b : Gp F' H' F'' H'') : Gp F H F'' H'' :=
  ⟨a.sF.trans b.sF, fun x h1 h2 => b.nF x (a.ne h1) (a.nF x h1 h2), a.sH.trans b.sH⟩
theorem Gp.gr (g : Gp F H F' H') : Gr δ F H F' H' := ⟨g.sF, g.nF, fun _ _ _ h _ => g.sH _ _ h, fun _ _ _ _ h => ⟨_, g.sH _ _ h⟩, fun _ h => g.ne h⟩
theorem FsR.mono (e : Same F F') {fs : List (Str × PyData)} {vs : List (Str × V)} (h : FsR K F fs vs) : FsR K F' fs vs := Paired.mapP h fun p q r => ⟨r.1, Rp.mono e _ _ r.2⟩
theorem XoAt.mono (e : Same F F') {x : Xo} (h : XoAt K F x) : XoAt K F' x := by
  rcases h with h | ⟨dd, vs, h1, h2, h3⟩
  · exact .inl h
  · exact .inr ⟨dd, vs, h1, e _ _ h2, h3.mono e⟩
theorem Obs.grow (h : Obs K F H n) (hn : ∀ a, H a ≠ none → F a = none → F' a = none) (hF : Same F F') (hH : ∀ a C dx fs, H a = some (.ins C dx fs) → H' a = some (.ins C dx fs)) : Obs K F' H' n := ⟨fun a o e => by
  obtain ⟨h1, dx, vs, h2, h3⟩ := h.1 a o e
  exact ⟨hn a (by rw [h2]; nofun) h1, dx, vs, hH _ _ _ _ h2, h3.mono hF⟩, fun a x e => (h.2 a x e).mono hF⟩
theorem Gp.dk (g : Gp F H F' H') (b : Base K Z F H n) : Z.δ.at_ K F' H' n := ⟨Z.δ.stay H H' n.n (fun a ha => by
  obtain ⟨o, e⟩ := some_of_ne (b.dkF a ha).2
  rw [e]; exact g.sH _ _ e) b.dk.1, b.dk.2.grow g.nF g.sF fun _ _ _ _ h => g.sH _ _ h⟩
/-- a frozen new object -/
theorem Gp.new {p : Addr} {o : HO} (h : H p = none) (hs : Same F H) : Gp F H (upd F p o) (upd H p o) ∧ Same (upd F p o) (upd H p o) := by
  have hF : F p = none := hs.free h
  refine ⟨⟨fun a u e => ?_, fun a h1 h2 => ?_, fun a u e => ?_⟩, fun a u e => ?_⟩
  · rw [upd_ne (ne_of_none e hF)]; exact e
  · rw [upd_ne (fun q => h1 (by rw [q]; exact h))]; exact h2
  · rw [upd_ne (ne_of_none e h)]; exact e
  · by_cases q : a = p
    · subst q; rw [upd_same] at e ⊢; exact e
    · rw [upd_ne q] at e ⊢; exact hs _ _ e
/-- a new object, not frozen -/
theorem Gp.newM {p : Addr} {o : HO} (h : H p = none) (hs : Same F H) : Gp F H F (upd H p o) ∧ Same F (upd H p o) := by
  refine ⟨⟨Same.refl _, fun _ _ h => h, fun a u e => ?_⟩, fun a u e => ?_⟩
  · rw [upd_ne (ne_of_none e h)]; exact e
  · rw [upd_ne (ne_of_none (hs _ _ e) h)]; exact hs _ _ e
theorem VR.step {x : Dv} {v : V} (g : Gr δ F H F' H') (h : VR K δ F H x v) : VR K δ F' H' x v := by
  cases x with
  | dat d => exact Rp.mono g.sF d v h
  | vw ds =>
    obtain ⟨a, vs, rfl, h1, h2, h3⟩ := h
    exact ⟨a, vs, rfl, g.kH _ _ h3 h1 rfl, Rps.mono g.sF ds vs h2, h3⟩
  | mt ds => exact h
  | deck _ => exact h
  | md _ _ => exact h
theorem SlotV.step {x : Dv} {v : V} (g : Gr Z.δ F H F' H') (h : SlotV K Z F H x v) : SlotV K Z F' H' x v := by
  cases x with
  | mt ds =>
    obtain ⟨a, vs, rfl, h0, h1, h2, h3, h4⟩ := h
    exact ⟨a, vs, rfl, h0, g.nF a (by rw [h2]; nofun) h1, g.kH _ _ h4 h2 rfl, Rps.mono g.sF ds vs h3, h4⟩
  | dat d => exact VR.step (x := .dat d) g h
  | vw ds => exact VR.step (x := .vw ds) g h
  | deck _ => exact h
  | md a ks =>
    obtain ⟨e, h0, h1, h2, h3⟩ := h
    exact ⟨e, h0, g.nF a (by rw [h2]; nofun) h1, g.kH _ _ h3 h2 rfl, h3⟩
theorem Base.gD (b : Base K Z F H n) (a : Addr) (h : Z.H0 a ≠ none) : H a ≠ none := by
  by_cases ha : a ∈ Z.δ.own
  · exact (b.dkF a ha).2
  · obtain ⟨o, e⟩ := some_of_ne h
    by_cases hi : isIns o = false
    · rw [b.gH a o ha e hi]; nofun
    · cases o with
      | ins C dx fs =>
        obtain ⟨fs', h'⟩ := b.gI a C dx fs e
        rw [h']; nofun
      | _ => exact absurd rfl hi
theorem Base.step (b : Base K Z F H n) (g : Gr Z.δ F H F' H') (hs : Same F' H') (hd : Z.δ.at_ K F' H' n') : Base K Z F' H' n' where
  sub := hs
  dk := hd
  dkF := fun a ha => ⟨g.nF a (b.dkF a ha).2 (b.dkF a ha).1, g.dH a (b.dkF a ha).2⟩
  gF := b.gF.trans g.sF
  gN := fun a h1 h2 => by
    by_cases ha : a ∈ Z.δ.own
    · exact g.nF a (b.dkF a ha).2 (b.dkF a ha).1
    · exact g.nF a (b.gD a h1) (b.gN a h1 h2)
  gH := fun a o h1 h2 h3 => g.kH a o h1 (b.gH a o h1 h2 h3) h3
  gI := fun a C dx fs h => by
    obtain ⟨fs', h'⟩ := b.gI a C dx fs h
    exact g.iH a C dx fs' h'
theorem SR.step (r : SR Y K Z F H σ ρ n) (g : Gr Z.δ F H F' H') (hs : Same F' H') (hd : Z.δ.at_ K F' H' n') : SR Y K Z F' H' σ ρ n' where
  b := r.b.step g hs hd
  de := r.de
  he := r.he
  gr := r.gr.trans (r.de ▸ g)
  len := r.len
  slot := fun i x e => by
    obtain ⟨v, e1, e2⟩ := r.slot i x e
    exact ⟨v, e1, e2.step g⟩
  apart := r.apart
/-- what stands as data -/
def needD (x : Dv) (R : PyData → Prop) : Prop :=
  match x with
  | .dat d => R d
  | _ => False
/-- a view is data in the heap itself -/
theorem VR.rp {x : Dv} {v : V} (h : VR K δ F H x v) (hs : Same F H) (hx : x.isDk = false) : Rp K H x.toD v := by
  cases x with
  | dat d => exact Rp.mono hs d v h
  | vw ds =>
    obtain ⟨a, vs, rfl, h1, h2, _⟩ := h
    simp only [Dv.toD, Rp]
    exact ⟨a, vs, rfl, h1, Rps.mono hs ds vs h2⟩
  | mt ds => exact h.elim
  | deck _ => exact absurd hx (by simp [Dv.isDk])
  | md _ _ => exact h.elim
end
abbrev DTE := Rho → Wo → (Dv → Wo → Prop) → Prop
abbrev DTA := Rho → Wo → (List Dv → Wo → Prop) → Prop
abbrev DTT := Rho → Wo → (Bool → Wo → Prop) → Prop
def up (Y : Fx) (K : PySem.W.Frag) (t : DTE) : TE := fun σ H Q => ∃ Z F ρ n R, SR Y K Z F H σ ρ n ∧ t ρ n R ∧
  ∀ x n' F' H' v, R x n' → Gr Z.δ F H F' H' → Same F' H' → Z.δ.at_ K F' H' n' → VR K Z.δ F' H' x v → Q v H'
def VRs (K : PySem.W.Frag) (δ : DkS) (F H : Hp) : List Dv → List V → Prop := Paired (VR K δ F H)
def upA (Y : Fx) (K : PySem.W.Frag) (t : DTA) : TA := fun σ H Q => ∃ Z F ρ n R, SR Y K Z F H σ ρ n ∧ t ρ n R ∧
  ∀ xs n' F' H' vs, R xs n' → Gr Z.δ F H F' H' → Same F' H' → Z.δ.at_ K F' H' n' → VRs K Z.δ F' H' xs vs → Q vs H'
def upT (Y : Fx) (K : PySem.W.Frag) (t : DTT) : TT := fun σ H Q => ∃ Z F ρ n R, SR Y K Z F H σ ρ n ∧ t ρ n R ∧
  ∀ c n' F' H', R c n' → Gr Z.δ F H F' H' → Same F' H' → Z.δ.at_ K F' H' n' → Q c H'
/-- a fresh list -/
abbrev DTM := Rho → Wo → (List PyData → Wo → Prop) → Prop
def upM (Y : Fx) (K : PySem.W.Frag) (t : DTM) : TE := fun σ H Q => ∃ Z F ρ n R, SR Y K Z F H σ ρ n ∧ t ρ n R ∧
  ∀ ds n' F' H' p vs, R ds n' → Gr Z.δ F H F' H' → Same F' H' → Z.δ.at_ K F' H' n' → H p = none → F' p = none → H' p = some (.lst vs) → Rps K F' ds vs → Q (.ref p) H'
abbrev WE (Y : Fx) (X : Cx) (e : Expr) (t : DTE) : Prop := PE X e (up Y X.K t)
abbrev WA (Y : Fx) (X : Cx) (es : List Expr) (t : DTA) : Prop := PA X es (upA Y X.K t)
abbrev WT (Y : Fx) (X : Cx) (e : Expr) (t : DTT) : Prop := PT X e (upT Y X.K t)
abbrev ME (Y : Fx) (X : Cx) (e : Expr) (t : DTM) : Prop := PE X e (upM Y X.K t)
theorem pe_imp {X : Cx} {e : Expr} {t t' : TE} (h : PE X e t) (q : ∀ σ H Q, t' σ H Q → t σ H Q) : PE X e t' := ⟨fun p s σ H Q I w => h.run p s σ H Q I (q σ H Q w)⟩
theorem pa_imp {X : Cx} {es : List Expr} {t t' : TA} (h : PA X es t) (q : ∀ σ H Q, t' σ H Q → t σ H Q) : PA X es t' := ⟨fun c p s σ H Q I w => h.run c p s σ H Q I (q σ H Q w)⟩
theorem pt_imp {X : Cx} {e : Expr} {t t' : TT} (h : PT X e t) (q : ∀ σ H Q, t' σ H Q → t σ H Q) : PT X e t' := ⟨fun p s σ H Q I w => h.run p s σ H Q I (q σ H Q w)⟩
theorem ps_imp {X : Cx} {st : Stmt} {t t' : TS} (h : PS X st t) (q : ∀ D σ H, t' D σ H → t D σ H) : PS X st t' := ⟨fun p s σ H D I w => h.run p s σ H D I (q D σ H w)⟩
theorem pss_imp {X : Cx} {st : List Stmt} {t t' : TS} (h : PSs X st t) (q : ∀ D σ H, t' D σ H → t D σ H) : PSs X st t' := ⟨fun p s σ H D I w => h.run p s σ H D I (q D σ H w)⟩
theorem DkS.at_.fz {K : PySem.W.Frag} {δ : DkS} {F H : Hp} {n : Wo} {p : Addr} {o : HO} (h : δ.at_ K F H n) (hp : H p = some o) (ho : isIns o = false) (hF : F p = none) : δ.at_ K (upd F p o) H n :=
  ⟨h.1, ⟨fun a ob e => by
    obtain ⟨h1, dx, vs, h2, h3⟩ := h.2.1 a ob e
    have ne : a ≠ p := fun q => by
      rw [q, hp] at h2
      cases h2
      cases ho
    exact ⟨by rw [upd_ne ne]; exact h1, dx, vs, h2, h3.mono fun b u e => by rw [upd_ne (ne_of_none e hF)]; exact e⟩, fun a x e => (h.2.2 a x e).mono fun b u e => by rw [upd_ne (ne_of_none e hF)]; exact e⟩⟩
/-- a thing of one's own (no object) is changed -/
theorem DkS.at_.chg {K : PySem.W.Frag} {δ : DkS} {F H : Hp} {n : Wo} {p : Addr} {o u : HO} (h : δ.at_ K F H n) (na : p ∉ δ.own) (hp : H p = some o) (ho : isIns o = false) : δ.at_ K F (upd H p u) n :=
  ⟨δ.stay H _ n.n (fun b hb => upd_ne fun q => na (by rw [← q]; exact hb)) h.1, ⟨fun a ob e => by
    obtain ⟨h1, dx, vs, h2, h3⟩ := h.2.1 a ob e
    have ne : a ≠ p := fun q => by
      rw [q, hp] at h2
      cases h2
      cases ho
    exact ⟨h1, dx, vs, by rw [upd_ne ne]; exact h2, h3⟩, h.2.2⟩⟩
theorem DkS.at_.lay {K : PySem.W.Frag} {δ : DkS} {F H : Hp} {n : Wo} {p : Addr} {u : HO} (h : δ.at_ K F H n) (na : p ∉ δ.own) (hp : H p = none) : δ.at_ K F (upd H p u) n :=
  ⟨δ.stay H _ n.n (fun b hb => upd_ne fun q => na (by rw [← q]; exact hb)) h.1, ⟨fun a ob e => by
    obtain ⟨h1, dx, vs, h2, h3⟩ := h.2.1 a ob e
    exact ⟨h1, dx, vs, by rw [upd_ne (ne_of_none h2 hp)]; exact h2, h3⟩, h.2.2⟩⟩
theorem Gr.chg {δ : DkS} {F H F' H' : Hp} {p : Addr} {u : HO} (g : Gr δ F H F' H') (hp : H p = none) : Gr δ F H F' (upd H' p u) :=
  ⟨g.sF, g.nF, fun a o na e hi => by rw [upd_ne (ne_of_none e hp)]; exact g.kH a o na e hi, fun a C dx fs e => by rw [upd_ne (ne_of_none e hp)]; exact g.iH a C dx fs e, fun a e => by
    rw [upd_ne (fun q => e (by rw [q]; exact hp))]; exact g.dH a e⟩
/-- a fresh list, frozen -/
def dOfM (t : DTM) : DTE := fun ρ n R => t ρ n fun ds n' => R (.dat (.list ds)) n'
theorem freeze {K : PySem.W.Frag} {δ : DkS} {F H F' H' : Hp} {p : Addr} {vs : List V} {ds : List PyData} (g : Gr δ F H F' H') (hs : Same F' H') (hp : H p = none) (hF : F' p = none) (hH : H' p = some (.lst vs)) (r : Rps K F' ds vs) :
    Gr δ F H (upd F' p (.lst vs)) H' ∧ Same (upd F' p (.lst vs)) H' ∧ Rp K (upd F' p (.lst vs)) (.list ds) (.ref p) := by
  have s1 : Same F' (upd F' p (.lst vs)) := fun a o e => by rw [upd_ne (ne_of_none e hF)]; exact e
  refine ⟨⟨g.sF.trans s1, fun a h1 h2 => ?_, g.kH, g.iH, g.dH⟩, fun a o e => ?_, ?_⟩
  · rw [upd_ne (fun q => h1 (by rw [q]; exact hp))]; exact g.nF a h1 h2
  · by_cases q : a = p
    · subst q; rw [upd_same] at e; cases e; exact hH
    · rw [upd_ne q] at e; exact hs _ _ e
  · simp only [Rp]
    exact ⟨p, vs, rfl, upd_same, Rps.mono s1 ds vs r⟩
theorem we_ofM {X : Cx} {e : Expr} {t : DTM} (h : ME Y X e t) : WE Y X e (dOfM t) := pe_imp h fun σ H Q ⟨Z, F, ρ, n, R, r, ht, k⟩ =>
  ⟨Z, F, ρ, n, _, r, ht, fun ds n' F' H' p vs hR g hs hd hp hF hH hr => by
    obtain ⟨g2, s2, r2⟩ := freeze g hs hp hF hH hr
    exact k _ _ _ _ _ hR g2 s2 (hd.fz hH rfl hF) r2⟩
end DL
namespace DL
open PySem PySem.Spec PyProof.Rows L2
variable {X : Cx} {Y : Fx}
def dView (x : Dv) (R : Dv → Prop) : Prop :=
  match x with
  | .mt ds => R (.vw ds)
  | .md _ _ => False
  | y => R y
def dVar (i : Nat) : DTE := fun ρ n R => ∃ x, ρ[i]? = some (some x) ∧ dView x fun y => R y n
theorem we_var (i : Nat) {x : Str} {pos : Pos} (hN : X.N[i]? = some x := by rfl) (hv : Vis X.env.scope x := by first | exact Or.inl rfl | exact Or.inr (Or.inl rfl) | exact Or.inr (Or.inr rfl))
    (hd : (x == ("__debug__" : Str)) = false := by decide) (hcd : (x == ("__classdict__" : Str)) = false := by decide) : WE Y X (.Name x pos) (dVar i) :=
  pe_imp (pe_var hN hv hd hcd) fun σ H Q ⟨Z, F, ρ, n, R, r, ⟨y, e, hy⟩, k⟩ => by
    obtain ⟨v, e1, e2⟩ := r.slot i y e
    refine ⟨v, e1, ?_⟩
    cases y with
    | mt ds =>
      obtain ⟨a, vs, rfl, _, _, h2, h3, h4⟩ := e2
      exact k _ _ _ _ _ hy Gr.refl r.b.sub r.b.dk ⟨a, vs, rfl, h2, h3, h4⟩
    | dat d => exact k _ _ _ _ _ hy Gr.refl r.b.sub r.b.dk e2
    | vw ds => exact k _ _ _ _ _ hy Gr.refl r.b.sub r.b.dk e2
    | deck _ => exact k _ _ _ _ _ hy Gr.refl r.b.sub r.b.dk e2
    | md _ _ => exact hy.elim
def dC (d : PyData) : DTE := fun _ n R => R (.dat d) n
theorem we_c {e : Expr} {v : V} {d : PyData} (h : PE X e (tC v)) (hd : ∀ F, Rp X.K F d v) : WE Y X e (dC d) :=
  pe_imp h fun σ H Q ⟨Z, F, ρ, n, R, r, hr, k⟩ => k _ _ _ _ _ hr Gr.refl r.b.sub r.b.dk (hd F)
theorem we_int {i j pos} : WE Y X (.Constant (.int i) j pos) (dC (.int i)) := we_c pe_int fun _ => by simp [Rp]
theorem we_bl {i j pos} : WE Y X (.Constant (.bool i) j pos) (dC (.bool i)) := we_c pe_bl fun _ => by simp [Rp]
theorem we_non {j pos} : WE Y X (.Constant .none j pos) (dC .none) := we_c pe_non fun _ => by simp [Rp]
theorem we_str {i j pos} : WE Y X (.Constant (.str i) j pos) (dC (.str i)) := we_c pe_str fun _ => by simp [Rp]
/-- a module's int -/
theorem we_gint {x : Str} {i : Int} {t : Tok} {pos : Pos} (hg : Gl X x) (hm : X.mg x = some (.int i t)) (hd : (x == ("__debug__" : Str)) = false := by decide) : WE Y X (.Name x pos) (dC (.int i)) :=
  we_c (pe_glob (v := .int i) hg hm ⟨_, rfl⟩ hd) fun _ => by simp [Rp]
def dNil : DTA := fun _ n R => R [] n
def dCons (t : DTE) (u : DTA) : DTA := fun ρ n R => t ρ n fun x n1 => u ρ n1 fun xs n2 => R (x :: xs) n2
theorem wa_nil : WA Y X [] dNil := pa_imp pa_nil fun σ H Q ⟨Z, F, ρ, n, R, r, hr, k⟩ => k _ _ _ _ _ hr Gr.refl r.b.sub r.b.dk .nil
theorem wa_cons {e : Expr} {es : List Expr} {t : DTE} {u : DTA} (ha : WE Y X e t) (hr : WA Y X es u) (hs : starEach (e :: es) X.env = (false, eval e X.env) :: starEach es X.env := by rfl) : WA Y X (e :: es) (dCons t u) :=
  pa_imp (pa_cons ha hr hs) fun σ H Q ⟨Z, F, ρ, n, R, r, ht, k⟩ =>
    ⟨Z, F, ρ, n, _, r, ht, fun x n1 F1 H1 v hx g1 s1 d1 w1 => ⟨Z, F1, ρ, n1, _, r.step g1 s1 d1, hx, fun xs n2 F2 H2 vs hxs g2 s2 d2 w2 =>
      k _ _ _ _ _ hxs (g1.trans g2) s2 d2 (.cons (w1.step g2) w2)⟩⟩
/-- all of them data -/
def needDs : List Dv → (List PyData → Prop) → Prop
  | [], R => R []
  | x :: xs, R => needD x fun d => needDs xs fun ds => R (d :: ds)
theorem needD_is {x : Dv} {R : PyData → Prop} (h : needD x R) : ∃ d, x = .dat d ∧ R d := by
  cases x with
  | dat d => exact ⟨d, rfl, h⟩
  | vw _ => exact h.elim
  | mt _ => exact h.elim
  | deck _ => exact h.elim
  | md _ _ => exact h.elim
theorem needDs_is {K : PySem.W.Frag} {δ : DkS} {F H : Hp} : ∀ {xs : List Dv} {vs : List V} {R : List PyData → Prop}, VRs K δ F H xs vs → needDs xs R → ∃ ds, R ds ∧ Rps K F ds vs
  | [], _, R, .nil, h => ⟨[], h, rps_nil⟩
  | x :: xs, _, R, .cons a b, h => by
    obtain ⟨d, rfl, h⟩ := needD_is h
    obtain ⟨ds, h1, h2⟩ := needDs_is b h
    exact ⟨d :: ds, h1, rps_cons a h2⟩
def dTup (t : DTA) : DTE := fun ρ n R => t ρ n fun xs n' => needDs xs fun ds => ds.length ≤ sizeLine ∧ R (.dat (.tuple ds)) n'
theorem we_tup {es : List Expr} {t : DTA} {x1} {pos : Pos} (h : WA Y X es t) : WE Y X (.Tuple es x1 pos) (dTup t) :=
  pe_imp (pe_tup h) fun σ H Q ⟨Z, F, ρ, n, R, r, ht, k⟩ => ⟨Z, F, ρ, n, _, r, ht, fun xs n1 F1 H1 vs hx g1 s1 d1 w1 => by
    obtain ⟨ds, ⟨hl, hR⟩, hr⟩ := needDs_is w1 hx
    refine ⟨by rw [← hr.length]; exact hl, fun p hp => ?_⟩
    obtain ⟨g2, s2⟩ := Gp.new (o := .tup vs) hp s1
    refine k _ _ _ _ _ hR (g1.trans g2.gr) s2 (g2.dk ((r.step g1 s1 d1).b)) ?_
    simp only [VR, Rp]
    exact ⟨p, vs, rfl, .inl upd_same, Rps.mono g2.sF ds vs hr⟩⟩
def mLst (t : DTA) : DTM := fun ρ n R => t ρ n fun xs n' => needDs xs fun ds => ds.length ≤ sizeLine ∧ R ds n'
theorem me_lst {es : List Expr} {t : DTA} {pos : Pos} (h : WA Y X es t) : ME Y X (.List es pos) (mLst t) :=
  pe_imp (pe_lst h) fun σ H Q ⟨Z, F, ρ, n, R, r, ht, k⟩ => ⟨Z, F, ρ, n, _, r, ht, fun xs n1 F1 H1 vs hx g1 s1 d1 w1 => by
    obtain ⟨ds, ⟨hl, hR⟩, hr⟩ := needDs_is w1 hx
    refine ⟨by rw [← hr.length]; exact hl, fun p hp => ?_⟩
    obtain ⟨g2, s2⟩ := Gp.newM (o := .lst vs) hp s1
    have hp0 : H p = none := by
      cases e : H p with
      | none => rfl
      | some o => exact absurd hp (g1.dH p (by rw [e]; nofun))
    exact k _ _ _ _ _ _ hR (g1.trans g2.gr) s2 (g2.dk ((r.step g1 s1 d1).b)) hp0 (s1.free hp) upd_same hr⟩
abbrev D2 := Dv → Dv → (PyData → Prop) → Prop
abbrev Back (K : PySem.W.Frag) (F H : Hp) (R : PyData → Prop) (Q : VK) : Prop := ∀ d F' H' v, R d → Gp F H F' H' → Same F' H' → Rp K F' d v → Q v H'
def BinOk (K : PySem.W.Frag) (r : R2) (o : D2) : Prop := ∀ δ F H x y v u R Q, Same F H → VR K δ F H x v → VR K δ F H y u → o x y R → Back K F H R Q → r v u H Q
theorem Back.here {K : PySem.W.Frag} {F H : Hp} {R : PyData → Prop} {Q : VK} (b : Back K F H R Q) (hs : Same F H) {d : PyData} {v : V} (h : R d) (r : Rp K F d v) : Q v H := b d F H v h Gp.refl hs r
theorem Back.int {K : PySem.W.Frag} {F H : Hp} {R : PyData → Prop} {Q : VK} (b : Back K F H R Q) (hs : Same F H) {i : Int} (h : R (.int i)) : Q (.int i) H := b.here hs h (by simp [Rp])
theorem Back.bl {K : PySem.W.Frag} {F H : Hp} {R : PyData → Prop} {Q : VK} (b : Back K F H R Q) (hs : Same F H) {i : Bool} (h : R (.bool i)) : Q (.bl i) H := b.here hs h (by simp [Rp])
theorem Back.tup {K : PySem.W.Frag} {F H : Hp} {R : PyData → Prop} {Q : VK} (b : Back K F H R Q) (hs : Same F H) {ds : List PyData} {vs : List V} (h : R (.tuple ds)) (r : Rps K F ds vs) {p : Addr} (hp : H p = none) : Q (.ref p) (upd H p (.tup vs)) := by
  obtain ⟨g, s⟩ := Gp.new (o := .tup vs) hp hs
  refine b _ _ _ _ h g s ?_
  simp only [Rp]
  exact ⟨p, vs, rfl, .inl upd_same, Rps.mono g.sF ds vs r⟩
theorem Back.lst {K : PySem.W.Frag} {F H : Hp} {R : PyData → Prop} {Q : VK} (b : Back K F H R Q) (hs : Same F H) {ds : List PyData} {vs : List V} (h : R (.list ds)) (r : Rps K F ds vs) {p : Addr} (hp : H p = none) : Q (.ref p) (upd H p (.lst vs)) := by
  obtain ⟨g, s⟩ := Gp.new (o := .lst vs) hp hs
  refine b _ _ _ _ h g s ?_
  simp only [Rp]
  exact ⟨p, vs, rfl, upd_same, Rps.mono g.sF ds vs r⟩
def dBin (o : D2) (t u : DTE) : DTE := fun ρ n R => t ρ n fun x n1 => u ρ n1 fun y n2 => o x y fun z => R (.dat z) n2
/-- the two operands, then o -/
theorem two {K : PySem.W.Frag} {r : R2} {o : D2} {t u : DTE} (hr : BinOk K r o) : ∀ σ H Q, up Y K (dBin o t u) σ H Q → tOp r (up Y K t) (up Y K u) σ H Q := fun σ H Q ⟨Z, F, ρ, n, R, s, ht, k⟩ =>
  ⟨Z, F, ρ, n, _, s, ht, fun x n1 F1 H1 v hx g1 s1 d1 w1 => ⟨Z, F1, ρ, n1, _, s.step g1 s1 d1, hx, fun y n2 F2 H2 u hy g2 s2 d2 w2 =>
    hr Z.δ F2 H2 x y v u _ Q s2 (w1.step g2) w2 hy fun d F3 H3 v3 h3 g3 s3 w3 =>
      k _ _ _ _ _ h3 ((g1.trans g2).trans g3.gr) s3 (g3.dk (((s.step g1 s1 d1).step g2 s2 d2).b)) w3⟩⟩
theorem we_bin {op : Operator} {r : R2} {o : D2} {a b : Expr} {t u : DTE} {pos : Pos} (ho : OpR X (binaryOp op) r) (hr : BinOk X.K r o) (ha : WE Y X a t) (hb : WE Y X b u) : WE Y X (.BinOp a op b pos) (dBin o t u) :=
  pe_imp (pe_op ho ha hb) (two hr)
theorem we_cmp {op : CmpOp} {r : R2} {o : D2} {a b : Expr} {t u : DTE} {pos : Pos} (ho : OpR X (compareOp op) r) (hr : BinOk X.K r o) (ha : WE Y X a t) (hb : WE Y X b u) (hm : behindInMarks op b = false) : WE Y X (.Compare a [op] [b] pos) (dBin o t u) :=
  pe_imp (pe_cmpR ho ha hb hm) (two hr)
def dTst (t : DTE) : DTT := fun ρ n R => t ρ n fun x n1 => ∃ c, x = .dat (.bool c) ∧ R c n1
theorem tst {K : PySem.W.Frag} {te : TE} {t : DTE} (h : ∀ σ H Q, up Y K t σ H Q → te σ H Q) : ∀ σ H Q, upT Y K (dTst t) σ H Q → tTest te σ H Q := fun σ H Q ⟨Z, F, ρ, n, R, s, ht, k⟩ => by
  refine h _ _ _ ⟨Z, F, ρ, n, _, s, ht, fun x n1 F1 H1 v ⟨c, e, hx⟩ g1 s1 d1 w1 => ?_⟩
  subst e
  simp only [VR, Rp] at w1
  exact ⟨c, w1, k _ _ _ _ hx g1 s1 d1⟩
theorem wt_cmp {op : CmpOp} {r : R2} {o : D2} {a b : Expr} {t u : DTE} {pos : Pos} (ho : OpR X (compareOp op) r) (hr : BinOk X.K r o) (ha : WE Y X a t) (hb : WE Y X b u) (hm : behindInMarks op b = false) : WT Y X (.Compare a [op] [b] pos) (dTst (dBin o t u)) :=
  pt_imp (pt_cmpR ho ha hb hm) (tst (two hr))
def dChain (o o' : D2) (t u w : DTE) : DTE := fun ρ n R => t ρ n fun x n1 => u ρ n1 fun y n2 => o x y fun c => ∃ k, c = .bool k ∧ (if k = true then w ρ n2 fun z n3 => o' y z fun d => R (.dat d) n3 else R (.dat (.bool false)) n2)
theorem chn {K : PySem.W.Frag} {r r' : R2} {o o' : D2} {t u w : DTE} (hr : BinOk K r o) (hr' : BinOk K r' o') : ∀ σ H Q, up Y K (dChain o o' t u w) σ H Q → tChain r r' (up Y K t) (up Y K u) (up Y K w) σ H Q := fun σ H Q ⟨Z, F, ρ, n, R, s, ht, k⟩ =>
  ⟨Z, F, ρ, n, _, s, ht, fun x n1 F1 H1 v hx g1 s1 d1 w1 => ⟨Z, F1, ρ, n1, _, s.step g1 s1 d1, hx, fun y n2 F2 H2 u hy g2 s2 d2 w2 => by
    refine hr Z.δ F2 H2 x y v u _ _ s2 (w1.step g2) w2 hy fun d F3 H3 v3 ⟨c, e, h3⟩ g3 s3 w3 => ?_
    subst e
    simp only [Rp] at w3
    refine ⟨c, w3, ?_⟩
    have S3 := ((s.step g1 s1 d1).step g2 s2 d2).step g3.gr s3 (g3.dk (((s.step g1 s1 d1).step g2 s2 d2).b))
    cases c with
    | false => exact k _ _ _ _ _ h3 ((g1.trans g2).trans g3.gr) s3 S3.b.dk (by simp [VR, Rp])
    | true =>
      refine ⟨Z, F3, ρ, n2, _, S3, h3, fun z n4 F4 H4 v4 h4 g4 s4 d4 w4 => ?_⟩
      refine hr' Z.δ F4 H4 y z u v4 _ Q s4 ((w2.step g3.gr).step g4) w4 h4 fun d F5 H5 v5 h5 g5 s5 w5 => ?_
      exact k _ _ _ _ _ h5 ((((g1.trans g2).trans g3.gr).trans g4).trans g5.gr) s5 (g5.dk ((S3.step g4 s4 d4).b)) w5⟩⟩
theorem we_chain {op op' : CmpOp} {r r' : R2} {o o' : D2} {a b c : Expr} {t u w : DTE} {pos : Pos} (ho : OpR X (compareOp op) r) (ho' : OpR X (compareOp op') r') (hr : BinOk X.K r o) (hr' : BinOk X.K r' o') (ha : WE Y X a t) (hb : WE Y X b u) (hc : WE Y X c w)
    (hm : lastMarks [op, op'] [b, c] = false := by with_unfolding_all rfl) : WE Y X (.Compare a [op, op'] [b, c] pos) (dChain o o' t u w) :=
  pe_imp (pe_chain ho ho' ha hb hc hm) (chn hr hr')
def oI0 (g : Int → Int → PyData) : D2 := fun x y R =>
  match x, y with
  | .dat (.int i), .dat (.int j) => R (g i j)
  | _, _ => False
def oI (C : Int → Int → Prop) (g : Int → Int → PyData) : D2 := fun x y R =>
  match x, y with
  | .dat (.int i), .dat (.int j) => C i j ∧ R (g i j)
  | _, _ => False
theorem oI_is {C : Int → Int → Prop} {g : Int → Int → PyData} {x y : Dv} {R : PyData → Prop} (h : oI C g x y R) : ∃ i j, x = .dat (.int i) ∧ y = .dat (.int j) ∧ C i j ∧ R (g i j) := by
  unfold oI at h
  split at h
  · exact ⟨_, _, rfl, rfl, h⟩
  · exact h.elim
theorem oI0_is {g : Int → Int → PyData} {x y : Dv} {R : PyData → Prop} (h : oI0 g x y R) : ∃ i j, x = .dat (.int i) ∧ y = .dat (.int j) ∧ R (g i j) := by
  unfold oI0 at h
  split at h
  · exact ⟨_, _, rfl, rfl, h⟩
  · exact h.elim
section
variable {K : PySem.W.Frag}
theorem bi_I {C : Int → Int → Prop} {g : Int → Int → Int} : BinOk K (rI C fun i j => .int (g i j)) (oI C fun i j => .int (g i j)) := fun δ F H x y v u R Q hs hx hy h b => by
  obtain ⟨i, j, rfl, rfl, hc, hr⟩ := oI_is h
  simp only [VR, Rp] at hx hy
  exact ⟨i, j, hx, hy, hc, b.int hs hr⟩
theorem bi_I0 {g : Int → Int → Int} : BinOk K (rI0 fun i j => .int (g i j)) (oI0 fun i j => .int (g i j)) := fun δ F H x y v u R Q hs hx hy h b => by
  obtain ⟨i, j, rfl, rfl, hr⟩ := oI0_is h
  simp only [VR, Rp] at hx hy
  exact ⟨i, j, hx, hy, b.int hs hr⟩
theorem bi_B0 {g : Int → Int → Bool} : BinOk K (rI0 fun i j => .bl (g i j)) (oI0 fun i j => .bool (g i j)) := fun δ F H x y v u R Q hs hx hy h b => by
  obtain ⟨i, j, rfl, rfl, hr⟩ := oI0_is h
  simp only [VR, Rp] at hx hy
  exact ⟨i, j, hx, hy, b.bl hs hr⟩
end
end DL
namespace DL
open PySem PySem.Spec PyProof.Rows L2
variable {X : Cx} {Y : Fx}
section
variable {K : PySem.W.Frag} {F H : Hp}
mutual
theorem Rp.dp : ∀ (d : PyData) (v : V), d.canLay0 = true → Rp K H d v → Dp K H v d
  | .none, _, _, h => by simp only [Rp] at h; subst h; exact .non
  | .bool _, _, _, h => by simp only [Rp] at h; subst h; exact .bl _
  | .int _, _, _, h => by simp only [Rp] at h; subst h; exact .int _
  | .str _, _, _, h => by simp only [Rp] at h; subst h; exact .str _
  | .list ds, _, c, h => by
    simp only [Rp] at h
    obtain ⟨a, xs, rfl, h1, h2⟩ := h
    exact .lst (SqL.of h1) (Rps.dp ds xs (by simpa only [PyData.canLay0] using c) h2)
  | .tuple ds, _, c, h => by
    simp only [Rp] at h
    obtain ⟨a, xs, rfl, h1, h2⟩ := h
    exact .tup (sqtR h1) (Rps.dp ds xs (by simpa only [PyData.canLay0] using c) h2)
  | .dict _, _, c, _ => by simp [PyData.canLay0] at c
theorem Rps.dp : ∀ (ds : List PyData) (vs : List V), PyData.canLayAll0 ds = true → Rps K H ds vs → DpAll K H vs ds
  | [], _, _, h => by simp only [Rps] at h; subst h; exact .nil
  | d :: ds, _, c, h => by
    simp only [Rps] at h
    obtain ⟨v, r, rfl, h1, h2⟩ := h
    simp only [PyData.canLayAll0, Bool.and_eq_true] at c
    exact .cons (Rp.dp d v c.1 h1) (Rps.dp ds r c.2 h2)
end
end
/-- what may be compared: no dict, not too deep -/
abbrev Sh (d : PyData) : Prop := SeqAt.shaped d = true
def oEq (neg : Bool) : D2 := fun x y R => x.isDk = false ∧ y.isDk = false ∧ Sh x.toD ∧ Sh y.toD ∧ R (.bool (if neg then !PyData.eqv x.toD y.toD else PyData.eqv x.toD y.toD))
section
variable {K : PySem.W.Frag}
theorem bi_eq : BinOk K (rEqD K) (oEq false) := fun δ F H x y v u R Q hs hx hy ⟨n1, n2, s1, s2, hr⟩ b =>
  ⟨_, _, Rp.dp _ _ (SeqAt.canLay_of_shaped s1) (hx.rp hs n1), Rp.dp _ _ (SeqAt.canLay_of_shaped s2) (hy.rp hs n2), s1, s2, b.bl hs hr⟩
theorem bi_ne : BinOk K (rNeD K) (oEq true) := fun δ F H x y v u R Q hs hx hy ⟨n1, n2, s1, s2, hr⟩ b =>
  ⟨_, _, Rp.dp _ _ (SeqAt.canLay_of_shaped s1) (hx.rp hs n1), Rp.dp _ _ (SeqAt.canLay_of_shaped s2) (hy.rp hs n2), s1, s2, b.bl hs hr⟩
/-- is None, is not None; bools -/
def isN : PyData → Bool
  | .none => true
  | _ => false
def oIsN (neg : Bool) : D2 := fun x y R => y = .dat .none ∧ x.isDk = false ∧ R (.bool (if neg then !isN x.toD else isN x.toD))
theorem isN_of {F : Hp} {d : PyData} {v : V} (h : Rp K F d v) : isN d = decide (v = .non) := by
  cases d <;> simp only [Rp] at h
  case list => obtain ⟨a, xs, rfl, _⟩ := h; rfl
  case tuple => obtain ⟨a, xs, rfl, _⟩ := h; rfl
  case dict => rcases h with ⟨a, xs, rfl, _⟩ | ⟨a, _, rfl⟩ | ⟨a, _, _, _, rfl, _⟩ <;> rfl
  all_goals (subst h; rfl)
theorem bi_isN : BinOk K (fun x y H Q => y = .non ∧ Q (.bl (decide (x = .non))) H) (oIsN false) := fun δ F H x y v u R Q hs hx hy ⟨e, n, hr⟩ b => by
  subst e
  simp only [VR, Rp] at hy
  refine ⟨hy, b.bl hs ?_⟩
  rw [← isN_of (hx.rp hs n)]; exact hr
theorem bi_notN : BinOk K (fun x y H Q => y = .non ∧ Q (.bl (!decide (x = .non))) H) (oIsN true) := fun δ F H x y v u R Q hs hx hy ⟨e, n, hr⟩ b => by
  subst e
  simp only [VR, Rp] at hy
  refine ⟨hy, b.bl hs ?_⟩
  rw [← isN_of (hx.rp hs n)]; exact hr
/-- + : ints, tuples, lists -/
def oAdd : D2 := fun x y R =>
  match x.toD, y.toD with
  | .int i, .int j => R (.int (i + j))
  | .tuple xs, .tuple ys => xs.length + ys.length ≤ sizeLine ∧ R (.tuple (xs ++ ys))
  | .list xs, .list ys => xs.length + ys.length ≤ sizeLine ∧ R (.list (xs ++ ys))
  | _, _ => False
abbrev rAddA (K : PySem.W.Frag) : R2 := fun x y H Q => (rI0 (fun i j => .int (i + j)) x y H Q ∨ rCatA K x y H Q) ∨ rCat x y H Q
theorem or_addA : OpR X (binaryOp .Add) (rAddA X.K) := OpR.or (OpR.or op_add op_catA) op_cat
theorem notDeck_of {x : Dv} {d : PyData} (h : x.toD = d) (hd : d ≠ .none) : x.isDk = false := by
  cases x with
  | deck _ => exact absurd h.symm hd
  | _ => rfl
theorem bi_add : BinOk K (rAddA K) oAdd := fun δ F H x y v u R Q hs hx hy h b => by
  unfold oAdd at h
  split at h
  · rename_i i j e1 e2
    have r1 := hx.rp hs (notDeck_of e1 nofun); have r2 := hy.rp hs (notDeck_of e2 nofun)
    rw [e1] at r1; rw [e2] at r2
    simp only [Rp] at r1 r2
    exact .inl (.inl ⟨i, j, r1, r2, b.int hs h⟩)
  · rename_i xs ys e1 e2
    cases x with
    | dat d =>
      cases y with
      | dat d' =>
        simp only [Dv.toD] at e1 e2
        subst e1 e2
        simp only [VR, Rp] at hx hy
        obtain ⟨a1, l1, rfl, h1, p1⟩ := hx
        obtain ⟨a2, l2, rfl, h2, p2⟩ := hy
        have z1 := p1.length; have z2 := p2.length
        refine .inl (.inr ⟨a1, a2, l1, l2, rfl, rfl, sqtR (rdS hs h1), sqtR (rdS hs h2), by omega, fun e => ?_, fun _ e => ?_, fun _ _ p hp => ?_⟩)
        · subst e
          have : xs = [] := by simpa using z1
          subst this
          exact b.here hs h.2 (by simp only [Rp]; exact ⟨a2, l2, rfl, h2, p2⟩)
        · subst e
          have : ys = [] := by simpa using z2
          subst this
          exact b.here hs (by simpa using h.2) (by simp only [Rp]; exact ⟨a1, l1, rfl, h1, p1⟩)
        · exact b.tup hs h.2 (p1.append p2) hp
      | vw _ => simp [Dv.toD] at e2
      | mt _ => simp [Dv.toD] at e2
      | deck _ => simp [Dv.toD] at e2
      | md _ _ => simp [Dv.toD] at e2
    | vw _ => simp [Dv.toD] at e1
    | mt _ => simp [Dv.toD] at e1
    | deck _ => simp [Dv.toD] at e1
    | md _ _ => simp [Dv.toD] at e1
  · rename_i xs ys e1 e2
    have lst : ∀ {z : Dv} {w : V} {zs : List PyData}, VR K δ F H z w → z.toD = .list zs → ∃ a l, w = .ref a ∧ H a = some (.lst l) ∧ Rps K F zs l := by
      intro z w zs hz e
      cases z with
      | dat d =>
        simp only [Dv.toD] at e; subst e
        simp only [VR, Rp] at hz
        obtain ⟨a, l, e1, e2, e3⟩ := hz
        exact ⟨a, l, e1, hs _ _ e2, e3⟩
      | vw ds =>
        simp only [Dv.toD, PyData.list.injEq] at e; subst e
        obtain ⟨a, l, e1, e2, e3, _⟩ := hz
        exact ⟨a, l, e1, e2, e3⟩
      | mt _ => exact hz.elim
      | deck _ => simp [Dv.toD] at e
      | md _ _ => exact hz.elim
    obtain ⟨a1, l1, rfl, h1, p1⟩ := lst hx e1
    obtain ⟨a2, l2, rfl, h2, p2⟩ := lst hy e2
    have z1 := p1.length; have z2 := p2.length
    exact .inr ⟨a1, a2, l1, l2, rfl, rfl, h1, h2, by omega, fun p hp => b.lst hs h.2 (p1.append p2) hp⟩
  · exact h.elim
/-- the list that a value is -/
theorem VR.lst {δ : DkS} {F H : Hp} {z : Dv} {w : V} {zs : List PyData} (hs : Same F H) (hz : VR K δ F H z w) (e : z.toD = .list zs) : ∃ a l, w = .ref a ∧ H a = some (.lst l) ∧ Rps K F zs l := by
  cases z with
  | dat d =>
    simp only [Dv.toD] at e; subst e
    simp only [VR, Rp] at hz
    obtain ⟨a, l, e1, e2, e3⟩ := hz
    exact ⟨a, l, e1, hs _ _ e2, e3⟩
  | vw ds =>
    simp only [Dv.toD, PyData.list.injEq] at e; subst e
    obtain ⟨a, l, e1, e2, e3, _⟩ := hz
    exact ⟨a, l, e1, e2, e3⟩
  | mt _ => exact hz.elim
  | deck _ => simp [Dv.toD] at e
  | md _ _ => exact hz.elim
theorem VR.tpl {δ : DkS} {F H : Hp} {z : Dv} {w : V} {zs : List PyData} (hs : Same F H) (hz : VR K δ F H z w) (e : z.toD = .tuple zs) : ∃ a l, w = .ref a ∧ Rd F a (.tup l) ∧ Rps K F zs l := by
  cases z with
  | dat d =>
    simp only [Dv.toD] at e; subst e
    simpa only [VR, Rp] using hz
  | vw ds => simp [Dv.toD] at e
  | mt _ => exact hz.elim
  | deck _ => simp [Dv.toD] at e
  | md _ _ => exact hz.elim
theorem Rps.at {F : Hp} {ds : List PyData} {vs : List V} (r : Rps K F ds vs) {i : Int} {d : PyData} (h : atI ds i = some d) : ∃ v, atI vs i = some v ∧ Rp K F d v := by
  unfold atI at h ⊢
  rw [← r.length]
  obtain ⟨j, e1, e2⟩ := Option.bind_eq_some_iff.mp h
  obtain ⟨v, e3, e4⟩ := r.get e2
  exact ⟨v, by rw [e1]; exact e3, e4⟩
def oIx : D2 := fun x y R =>
  match x.toD with
  | .list ds => ∃ i d, y = .dat (.int i) ∧ atI ds i = some d ∧ R d
  | .tuple ds => ∃ i d, y = .dat (.int i) ∧ atI ds i = some d ∧ R d
  | _ => False
theorem bi_ix : BinOk K (rIx K) oIx := fun δ F H x y v u R Q hs hx hy h b => by
  unfold oIx at h
  split at h
  · rename_i ds e
    obtain ⟨a, l, rfl, h1, h2⟩ := hx.lst hs e
    obtain ⟨i, d, rfl, h3, hr⟩ := h
    simp only [VR, Rp] at hy
    obtain ⟨w, e1, e2⟩ := h2.at h3
    exact .inl ⟨a, l, i, w, rfl, hy, SqL.of h1, e1, b.here hs hr e2⟩
  · rename_i ds e
    obtain ⟨a, l, rfl, h1, h2⟩ := hx.tpl hs e
    obtain ⟨i, d, rfl, h3, hr⟩ := h
    simp only [VR, Rp] at hy
    obtain ⟨w, e1, e2⟩ := h2.at h3
    exact .inr (.inl ⟨a, l, i, w, rfl, hy, sqtR (rdS hs h1), e1, b.here hs hr e2⟩)
  · exact h.elim
end
theorem we_ix {a b : Expr} {t u : DTE} {pos : Pos} (ha : WE Y X a t) (hb : WE Y X b u) (hs : PlainIx b) : WE Y X (.Subscript a b pos) (dBin oIx t u) := pe_imp (pe_ix ix_seq ha hb hs) (two bi_ix)
abbrev DTO := Rho → Wo → (Option Int → Wo → Prop) → Prop
def upO (Y : Fx) (K : PySem.W.Frag) (t : DTO) : TO := fun σ H Q => ∃ Z F ρ n R, SR Y K Z F H σ ρ n ∧ t ρ n R ∧
  ∀ x n' F' H', R x n' → Gr Z.δ F H F' H' → Same F' H' → Z.δ.at_ K F' H' n' → Q x H'
abbrev WO (Y : Fx) (X : Cx) (e : Option Expr) (t : DTO) : Prop := PO X e (upO Y X.K t)
theorem po_imp {e : Option Expr} {t t' : TO} (h : PO X e t) (q : ∀ σ H Q, t' σ H Q → t σ H Q) : PO X e t' := ⟨fun p s σ H Q I w => h.run p s σ H Q I (q σ H Q w)⟩
def dNo : DTO := fun _ n R => R none n
def dSome (t : DTE) : DTO := fun ρ n R => t ρ n fun x n' => ∃ i, x = .dat (.int i) ∧ R (some i) n'
theorem wo_none : WO Y X none dNo := po_imp po_none fun σ H Q ⟨Z, F, ρ, n, R, r, hr, k⟩ => k _ _ _ _ hr Gr.refl r.b.sub r.b.dk
theorem wo_some {e : Expr} {t : DTE} (h : WE Y X e t) : WO Y X (some e) (dSome t) := po_imp (po_some h) fun σ H Q ⟨Z, F, ρ, n, R, r, ht, k⟩ =>
  ⟨Z, F, ρ, n, _, r, ht, fun x n1 F1 H1 v ⟨i, e, hx⟩ g1 s1 d1 w1 => by
    subst e
    simp only [VR, Rp] at w1
    exact ⟨i, w1, k _ _ _ _ hx g1 s1 d1⟩⟩
def cutG {α : Type} (xs : List α) (lo hi : Option Int) : List α := (xs.drop (HT.sIx xs.length 0 lo)).take (HT.sIx xs.length xs.length hi - HT.sIx xs.length 0 lo)
theorem cut_whole {α : Type} {xs : List α} {lo hi : Option Int} (h : HT.sIx xs.length 0 lo = 0 ∧ HT.sIx xs.length xs.length hi = xs.length) : cutG xs lo hi = xs := by
  unfold cutG
  rw [h.1, h.2]
  simp
def dUn (o : Dv → (PyData → Prop) → Prop) (t : DTE) : DTE := fun ρ n R => t ρ n fun x n1 => o x fun d => R (.dat d) n1
theorem one {K : PySem.W.Frag} {r : V → Hp → VK → Prop} {o : Dv → (PyData → Prop) → Prop} {t : DTE} (hr : ∀ δ F H x v R Q, Same F H → VR K δ F H x v → o x R → Back K F H R Q → r v H Q) :
    ∀ σ H Q, up Y K (dUn o t) σ H Q → up Y K t σ H fun x H1 => r x H1 Q := fun σ H Q ⟨Z, F, ρ, n, R, s, ht, k⟩ =>
  ⟨Z, F, ρ, n, _, s, ht, fun x n1 F1 H1 v hx g1 s1 d1 w1 => hr Z.δ F1 H1 x v _ Q s1 w1 hx fun d F2 H2 v2 h2 g2 s2 w2 =>
    k _ _ _ _ _ h2 (g1.trans g2.gr) s2 (g2.dk ((s.step g1 s1 d1).b)) w2⟩
def asB (x : Dv) (R : Bool → Prop) : Prop :=
  match x with
  | .dat (.bool c) => R c
  | _ => False
theorem asB_is {x : Dv} {R : Bool → Prop} (h : asB x R) : ∃ c, x = .dat (.bool c) ∧ R c := by
  unfold asB at h
  split at h
  · exact ⟨_, rfl, h⟩
  · exact h.elim
def dAnd (t u : DTE) : DTE := fun ρ n R => t ρ n fun x n1 => asB x fun c => if c = true then u ρ n1 R else R (.dat (.bool false)) n1
theorem we_one {op} {a : Expr} {t : DTE} {pos : Pos} (h : WE Y X a t) : WE Y X (.BoolOp op [a] pos) t := pe_one h
theorem we_and {a b : Expr} {rest : List Expr} {t u : DTE} {pos : Pos} (ha : WE Y X a t) (hb : WE Y X (.BoolOp .And (b :: rest) pos) u) : WE Y X (.BoolOp .And (a :: b :: rest) pos) (dAnd t u) :=
  pe_imp (pe_and ha hb) fun σ H Q ⟨Z, F, ρ, n, R, r, ht, k⟩ => ⟨Z, F, ρ, n, _, r, ht, fun x n1 F1 H1 v hx g1 s1 d1 w1 => by
    obtain ⟨c, rfl, hx⟩ := asB_is hx
    simp only [VR, Rp] at w1
    refine ⟨c, w1, ?_⟩
    cases c with
    | true => exact ⟨Z, F1, ρ, n1, _, r.step g1 s1 d1, hx, fun y n2 F2 H2 v2 hy g2 s2 d2 w2 => k _ _ _ _ _ hy (g1.trans g2) s2 d2 w2⟩
    | false => exact k _ _ _ _ _ hx g1 s1 d1 (by simp [VR, Rp])⟩
def oNot (x : Dv) (R : PyData → Prop) : Prop := asB x fun c => R (.bool (!c))
theorem we_not {a : Expr} {t : DTE} {pos : Pos} (ha : WE Y X a t) : WE Y X (.UnaryOp .Not a pos) (dUn oNot t) :=
  pe_imp (pe_not ha) (one (r := fun x H1 Q => ∃ c, x = .bl c ∧ Q (.bl (!c)) H1) fun δ F H x v R Q hs hx h b => by
    obtain ⟨c, rfl, hr⟩ := asB_is h
    simp only [VR, Rp] at hx
    exact ⟨c, hx, b.bl hs hr⟩)
theorem wt_val {e : Expr} {t : DTE} (h : WE Y X e t) (he : ∀ whole, isTrue e X.env whole = (do let v ← whole; standAt e.pos; holding [v] (truthy v)) := by intro _; rfl) : WT Y X e (dTst t) :=
  pt_imp (pt_val h he) fun σ H Q ⟨Z, F, ρ, n, R, s, ht, k⟩ => ⟨Z, F, ρ, n, _, s, ht, fun x n1 F1 H1 v ⟨c, e, hx⟩ g1 s1 d1 w1 => by
    subst e
    simp only [VR, Rp] at w1
    exact ⟨c, w1, k _ _ _ _ hx g1 s1 d1⟩⟩
theorem Rps.isEmpty {K : PySem.W.Frag} {F : Hp} {ds : List PyData} {vs : List V} (r : Rps K F ds vs) : ds.isEmpty = vs.isEmpty := by
  have h := r.length
  cases ds <;> cases vs <;> simp at h ⊢
def dTNot (t : DTT) : DTT := fun ρ n R => t ρ n fun c n1 => R (!c) n1
theorem wt_not {a : Expr} {t : DTT} {pos : Pos} (ha : WT Y X a t) : WT Y X (.UnaryOp .Not a pos) (dTNot t) :=
  pt_imp (pt_not ha) fun σ H Q ⟨Z, F, ρ, n, R, r, ht, k⟩ => ⟨Z, F, ρ, n, _, r, ht, fun c n1 F1 H1 hx g1 s1 d1 => k _ _ _ _ hx g1 s1 d1⟩
end DL
namespace DL
open PySem PySem.Spec PyProof.Rows L2
variable {X : Cx} {Y : Fx}
def VX (K : PySem.W.Frag) (Hs F H : Hp) : Dv → V → Prop
  | .dat d, v => Rp K F d v
  | .mt ds, v => ∃ p vs, v = .ref p ∧ Hs p = none ∧ F p = none ∧ H p = some (.lst vs) ∧ Rps K F ds vs
  | .md a ks, v => v = .ref a ∧ Hs a = none ∧ F a = none ∧ H a = some (.dK ks)
  | _, _ => False
def upX (Y : Fx) (K : PySem.W.Frag) (t : DTE) : TE := fun σ H Q => ∃ Z F ρ n R, SR Y K Z F H σ ρ n ∧ t ρ n R ∧
  ∀ x n' F' H' v, R x n' → Gr Z.δ F H F' H' → Same F' H' → Z.δ.at_ K F' H' n' → VX K H F' H' x v → Q v H'
abbrev XE (Y : Fx) (X : Cx) (e : Expr) (t : DTE) : Prop := PE X e (upX Y X.K t)
def xD (t : DTE) : DTE := fun ρ n R => t ρ n fun x n' => needD x fun d => R (.dat d) n'
def xM (t : DTM) : DTE := fun ρ n R => t ρ n fun ds n' => R (.mt ds) n'
theorem xe_d {e : Expr} {t : DTE} (h : WE Y X e t) : XE Y X e (xD t) := pe_imp h fun σ H Q ⟨Z, F, ρ, n, R, r, ht, k⟩ =>
  ⟨Z, F, ρ, n, _, r, ht, fun x n1 F1 H1 v hx g1 s1 d1 w1 => by
    obtain ⟨d, rfl, hx⟩ := needD_is hx
    exact k _ _ _ _ _ hx g1 s1 d1 w1⟩
theorem xe_m {e : Expr} {t : DTM} (h : ME Y X e t) : XE Y X e (xM t) := pe_imp h fun σ H Q ⟨Z, F, ρ, n, R, r, ht, k⟩ =>
  ⟨Z, F, ρ, n, _, r, ht, fun ds n1 F1 H1 p vs hx g1 s1 d1 a b c d => k _ _ _ _ _ hx g1 s1 d1 ⟨p, vs, rfl, a, b, c, d⟩⟩
theorem VX.step {K : PySem.W.Frag} {δ : DkS} {Hs F H F' H' : Hp} {x : Dv} {v : V} (hs : ∀ a, a ∈ δ.own → Hs a ≠ none) (g : Gr δ F H F' H') (h : VX K Hs F H x v) : VX K Hs F' H' x v := by
  cases x with
  | dat d => exact Rp.mono g.sF d v h
  | mt ds =>
    obtain ⟨p, vs, rfl, a, b, c, d⟩ := h
    exact ⟨p, vs, rfl, a, g.nF p (by rw [c]; nofun) b, g.kH p _ (fun q => hs p q a) c rfl, Rps.mono g.sF ds vs d⟩
  | vw _ => exact h
  | deck _ => exact h
  | md a ks =>
    obtain ⟨e, h1, h2, h3⟩ := h
    exact ⟨e, h1, g.nF a (by rw [h3]; nofun) h2, g.kH a _ (fun q => hs a q h1) h3 rfl⟩
section
variable {K : PySem.W.Frag} {Y Z : Fx} {F H : Hp} {σ : L2.St} {ρ : Rho} {n : Wo}
theorem SR.set (r : SR Y K Z F H σ ρ n) (i : Nat) {x : Dv} {v : V} {Hs : Hp} (hx : VX K Hs F H x v) (h0 : ∀ p, Hs p = none → Z.H0 p = none ∧ p ∉ Z.δ.own) (hi : ∀ p, Hs p = none → ∀ (j : Nat) (y : Dv), j ≠ i → ρ[j]? = some (some y) → y.isL = true → σ[j]? ≠ some (some (.ref p))) :
    SR Y K Z F H (σ.set i (some v)) (ρ.set i (some x)) n where
  b := r.b
  de := r.de
  he := r.he
  gr := r.gr
  len := by simp [r.len]
  slot := fun j y e => by
    by_cases q : i = j
    · subst q
      by_cases hl : i < ρ.length
      · rw [List.getElem?_set_self hl] at e
        cases e
        refine ⟨v, List.getElem?_set_self (by rw [← r.len]; exact hl), ?_⟩
        cases x with
        | dat d => exact hx
        | mt ds =>
          obtain ⟨p, vs, rfl, a, b, c, d⟩ := hx
          exact ⟨p, vs, rfl, (h0 p a).1, b, c, d, (h0 p a).2⟩
        | vw _ => exact hx.elim
        | deck _ => exact hx.elim
        | md a ks =>
          obtain ⟨e, h1, h2, h3⟩ := hx
          exact ⟨e, (h0 a h1).1, h2, h3, (h0 a h1).2⟩
      · rw [List.getElem?_eq_none (by rw [List.length_set]; omega)] at e
        cases e
    · rw [List.getElem?_set_ne q] at e
      obtain ⟨w, e1, e2⟩ := r.slot j y e
      exact ⟨w, by rw [List.getElem?_set_ne q]; exact e1, e2⟩
  apart := fun j k a ds y hjk e1 e2 e3 hy e4 => by
    by_cases q : i = j
    · subst q
      by_cases hl : i < ρ.length
      · rw [List.getElem?_set_self hl] at e1
        rw [List.getElem?_set_self (by rw [← r.len]; exact hl)] at e2
        cases e1; cases e2
        rw [List.getElem?_set_ne hjk] at e3 e4
        obtain ⟨p, vs, e5, a', b, c, d⟩ := hx
        cases e5
        exact hi _ a' k y (Ne.symm hjk) e3 hy e4
      · rw [List.getElem?_eq_none (by rw [List.length_set]; omega)] at e1
        cases e1
    · rw [List.getElem?_set_ne q] at e1 e2
      by_cases q2 : i = k
      · subst q2
        by_cases hl : i < ρ.length
        · rw [List.getElem?_set_self hl] at e3
          rw [List.getElem?_set_self (by rw [← r.len]; exact hl)] at e4
          cases e3; cases e4
          cases x with
          | dat d => simp [Dv.isL] at hy
          | mt ds' =>
            obtain ⟨p, vs, e5, a', b, c, d⟩ := hx
            cases e5
            exact hi _ a' j (.mt ds) hjk e1 rfl e2
          | vw _ => exact hx.elim
          | deck _ => exact hx.elim
          | md _ _ => simp [Dv.isL] at hy
        · rw [List.getElem?_eq_none (by rw [List.length_set]; omega)] at e3
          cases e3
      · rw [List.getElem?_set_ne q2] at e3 e4
        exact r.apart j k a ds y hjk e1 e2 e3 hy e4
/-- a slot that is a list's lies in the heap -/
theorem SR.inH (r : SR Y K Z F H σ ρ n) {j : Nat} {y : Dv} {p : Addr} (e : ρ[j]? = some (some y)) (hy : y.isL = true) (e2 : σ[j]? = some (some (.ref p))) : H p ≠ none := by
  obtain ⟨v, e3, e4⟩ := r.slot j y e
  rw [e2] at e3; cases e3
  cases y with
  | dat _ => simp [Dv.isL] at hy
  | deck _ => simp [Dv.isL] at hy
  | md _ _ => simp [Dv.isL] at hy
  | vw ds =>
    obtain ⟨a, vs, q, h, _⟩ := e4
    cases q; rw [h]; nofun
  | mt ds =>
    obtain ⟨a, vs, q, _, _, h, _⟩ := e4
    cases q; rw [h]; nofun
/-- .. where it was made in an expression that began at Hs -/
theorem SR.fresh (r : SR Y K Z F H σ ρ n) {p : Addr} (h : H p = none) : Z.H0 p = none ∧ p ∉ Z.δ.own := by
  have n1 : p ∉ Z.δ.own := fun q => (r.b.dkF p q).2 h
  refine ⟨?_, n1⟩
  cases e : Z.H0 p with
  | none => rfl
  | some o => exact absurd h (r.b.gD p (by rw [e]; nofun))
theorem SR.setX (r0 : SR Y K Z F H σ ρ n) {F' H' : Hp} {n' : Wo} (r : SR Y K Z F' H' σ ρ n') (i : Nat) {x : Dv} {v : V} (hx : VX K H F' H' x v) : SR Y K Z F' H' (σ.set i (some v)) (ρ.set i (some x)) n' :=
  r.set i hx (fun p h => r0.fresh h) fun p h j y _ e hy e2 => r0.inH e hy e2 h
end
structure DEnds where
  nx : Rho → Wo → Prop
  rt : PyData → Wo → Prop
  bk : Rho → Wo → Prop := fun _ _ => False
  ct : Rho → Wo → Prop := fun _ _ => False
abbrev DTS := DEnds → Rho → Wo → Prop
structure EndsOk (Y : Fx) (K : PySem.W.Frag) (Z : Fx) (E : DEnds) (D : Ends) : Prop where
  nx : ∀ F H σ ρ n, E.nx ρ n → SR Y K Z F H σ ρ n → D.nx σ H
  rt : ∀ d n F H v, E.rt d n → Base K Z F H n → Rp K F d v → D.rt v H
  bk : ∀ F H σ ρ n, E.bk ρ n → SR Y K Z F H σ ρ n → D.bk σ H
  ct : ∀ F H σ ρ n, E.ct ρ n → SR Y K Z F H σ ρ n → D.ct σ H
def upS (Y : Fx) (K : PySem.W.Frag) (t : DTS) : TS := fun D σ H => ∃ Z F ρ n E, SR Y K Z F H σ ρ n ∧ t E ρ n ∧ EndsOk Y K Z E D
abbrev DS (Y : Fx) (X : Cx) (st : Stmt) (t : DTS) : Prop := PS X st (upS Y X.K t)
abbrev DSs (Y : Fx) (X : Cx) (st : List Stmt) (t : DTS) : Prop := PSs X st (upS Y X.K t)
def dSkip : DTS := fun E ρ n => E.nx ρ n
def dSeq (t u : DTS) : DTS := fun E ρ n => t { E with nx := u E } ρ n
theorem dss_nil : DSs Y X [] dSkip := pss_imp pss_nil fun D σ H ⟨Z, F, ρ, n, E, r, ht, k⟩ => k.nx _ _ _ _ _ ht r
theorem dss_cons {st : Stmt} {rest : List Stmt} {t u : DTS} (h1 : DS Y X st t) (h2 : DSs Y X rest u) : DSs Y X (st :: rest) (dSeq t u) :=
  pss_imp (pss_cons h1 h2) fun D σ H ⟨Z, F, ρ, n, E, r, ht, k⟩ => ⟨Z, F, ρ, n, _, r, ht, ⟨fun F' H' σ' ρ' n' h r' => ⟨Z, F', ρ', n', E, r', h, k⟩, k.rt, k.bk, k.ct⟩⟩
theorem dss_one {st : Stmt} {t : DTS} (h : DS Y X st t) : DSs Y X [st] t := pss_one h
def dRet (t : DTE) : DTS := fun E ρ n => t ρ n fun x n' => needD x fun d => E.rt d n'
theorem ds_ret {e : Expr} {t : DTE} {pos : Pos} (he : WE Y X e t) : DS Y X (.Return (some e) pos) (dRet t) :=
  ps_imp (ps_ret he) fun D σ H ⟨Z, F, ρ, n, E, r, ht, k⟩ => ⟨Z, F, ρ, n, _, r, ht, fun x n1 F1 H1 v hx g1 s1 d1 w1 => by
    obtain ⟨d, rfl, hx⟩ := needD_is hx
    exact k.rt _ _ _ _ _ hx (r.b.step g1 s1 d1) w1⟩
def dIfS (c : DTT) (t u : DTS) : DTS := fun E ρ n => c ρ n fun b n' => if b = true then t E ρ n' else u E ρ n'
theorem ds_if {c : Expr} {a b : List Stmt} {tc : DTT} {t u : DTS} {pos : Pos} (hc : WT Y X c tc) (ha : DSs Y X a t) (hb : DSs Y X b u) : DS Y X (.If c a b pos) (dIfS tc t u) :=
  ps_imp (ps_if hc ha hb) fun D σ H ⟨Z, F, ρ, n, E, r, ht, k⟩ => ⟨Z, F, ρ, n, _, r, ht, fun c n1 F1 H1 hx g1 s1 d1 => by
    cases c with
    | true => exact ⟨Z, F1, ρ, n1, E, r.step g1 s1 d1, hx, k⟩
    | false => exact ⟨Z, F1, ρ, n1, E, r.step g1 s1 d1, hx, k⟩⟩
/-- name = value -/
def dAsg (i : Nat) (t : DTE) : DTS := fun E ρ n => t ρ n fun x n' => E.nx (ρ.set i (some x)) n'
theorem asg_im {i : Nat} {K : PySem.W.Frag} {t : DTE} : ∀ D σ H, upS Y K (dAsg i t) D σ H → tAsg (upX Y K t) (gName i) D σ H := fun D σ H ⟨Z, F, ρ, n, E, r, ht, k⟩ =>
  ⟨Z, F, ρ, n, _, r, ht, fun x n1 F1 H1 v hx g1 s1 d1 w1 => k.nx _ _ _ _ _ hx (r.setX (r.step g1 s1 d1) i w1)⟩
theorem ds_set {i : Nat} {x : Str} {e : Expr} {t : DTE} {pos pos' : Pos} (hN : X.N.Nodup) (hi : X.N[i]? = some x) (hx : Loc X.env.scope x) (he : XE Y X e t) (hs : swapsWith e (some (.Name x pos')) pos.line X.env = pure false := by rfl)
    (hf : X.fn x = true ∨ X.env.scope.names.lookup x = some .local := by first | exact .inl rfl | exact .inr rfl | assumption) : DS Y X (.Assign [.Name x pos'] e pos) (dAsg i t) := ps_imp (ps_set hN hi hx he hs hf) asg_im
theorem SR.freeze {K : PySem.W.Frag} {Y Z : Fx} {F H : Hp} {σ : L2.St} {ρ : Rho} {n : Wo} (r : SR Y K Z F H σ ρ n) {j : Nat} {ds : List PyData} (e : ρ[j]? = some (some (.mt ds))) :
    ∃ F' a, σ[j]? = some (some (.ref a)) ∧ SR Y K Z F' H σ (ρ.set j (some (.dat (.list ds)))) n ∧ Rp K F' (.list ds) (.ref a) ∧ Same F F' := by
  obtain ⟨v, e1, a, vs, rfl, h0, hF, hH, hr, na⟩ := r.slot j _ e
  have s1 : Same F (upd F a (.lst vs)) := fun b o q => by rw [upd_ne (ne_of_none q hF)]; exact q
  have hrp : Rp K (upd F a (.lst vs)) (.list ds) (.ref a) := by
    simp only [Rp]
    exact ⟨a, vs, rfl, upd_same, Rps.mono s1 ds vs hr⟩
  refine ⟨upd F a (.lst vs), a, e1, ⟨⟨fun b o q => ?_, r.b.dk.fz hH rfl hF, fun b hb => ⟨?_, (r.b.dkF b hb).2⟩, r.b.gF.trans s1, fun b q1 q2 => ?_, r.b.gH, r.b.gI⟩, r.de, r.he, ⟨r.gr.sF.trans s1, fun b q1 q2 => by rw [upd_ne (fun z => q1 (by rw [z, ← r.he]; exact h0))]; exact r.gr.nF b q1 q2, r.gr.kH, r.gr.iH, r.gr.dH⟩, by simp [r.len], fun k y q => ?_, fun k l b es y hkl q1 q2 q3 hy q4 => ?_⟩, hrp, s1⟩
  · by_cases z : b = a
    · subst z; rw [upd_same] at q; cases q; exact hH
    · rw [upd_ne z] at q; exact r.b.sub _ _ q
  · rw [upd_ne (fun z => na (by rw [← z]; exact hb))]; exact (r.b.dkF b hb).1
  · rw [upd_ne (fun z => q1 (by rw [z]; exact h0))]; exact r.b.gN b q1 q2
  · by_cases z : j = k
    · subst z
      have hl : j < ρ.length := (List.getElem?_eq_some_iff.mp e).1
      rw [List.getElem?_set_self hl] at q
      cases q
      exact ⟨_, e1, hrp⟩
    · rw [List.getElem?_set_ne z] at q
      obtain ⟨w, w1, w2⟩ := r.slot k y q
      refine ⟨w, w1, ?_⟩
      cases y with
      | dat d => exact Rp.mono s1 d w w2
      | vw es =>
        obtain ⟨b, us, rfl, p1, p2, p3⟩ := w2
        exact ⟨b, us, rfl, p1, Rps.mono s1 es us p2, p3⟩
      | mt es =>
        obtain ⟨b, us, rfl, p1, p2, p3, p4, p5⟩ := w2
        refine ⟨b, us, rfl, p1, ?_, p3, Rps.mono s1 es us p4, p5⟩
        rw [upd_ne (fun zz => r.apart j k a ds (.mt es) z e e1 q rfl (by rw [w1, zz]))]; exact p2
      | deck _ => exact w2
      | md b ks =>
        obtain ⟨q1, q2, q3, q4, q5⟩ := w2
        refine ⟨q1, q2, ?_, q4, q5⟩
        rw [upd_ne (fun zz => by rw [zz, hH] at q4; cases q4)]; exact q3
  · by_cases z : j = k
    · subst z
      have hl : j < ρ.length := (List.getElem?_eq_some_iff.mp e).1
      rw [List.getElem?_set_self hl] at q1
      cases q1
    · rw [List.getElem?_set_ne z] at q1
      by_cases z2 : j = l
      · subst z2
        have hl : j < ρ.length := (List.getElem?_eq_some_iff.mp e).1
        rw [List.getElem?_set_self hl] at q3
        cases q3
        simp [Dv.isL] at hy
      · rw [List.getElem?_set_ne z2] at q3
        exact r.apart k l b es y hkl q1 q2 q3 hy q4
/-- return of a list of one's own -/
def dRetM (j : Nat) : DTS := fun E ρ n => ∃ ds, ρ[j]? = some (some (.mt ds)) ∧ E.rt (.list ds) n
theorem ds_retM {j : Nat} {y : Str} {pos pos2 : Pos} (he : PE X (.Name y pos2) (tVar j)) : DS Y X (.Return (some (.Name y pos2)) pos) (dRetM j) :=
  ps_imp (ps_ret he) fun D σ H ⟨Z, F, ρ, n, E, r, ⟨ds, e, hx⟩, k⟩ => by
    obtain ⟨F', a, e1, r', hr, _⟩ := r.freeze e
    exact ⟨_, e1, k.rt _ _ _ _ _ hx r'.b hr⟩
/-- a, b = x, y -/
def dPar (i j : Nat) (t u : DTE) : DTS := fun E ρ n => t ρ n fun x n1 => u ρ n1 fun y n2 => E.nx ((ρ.set i (some x)).set j (some y)) n2
theorem par_set {K : PySem.W.Frag} {Y Z : Fx} {F H F1 H1 F2 H2 : Hp} {σ : L2.St} {ρ : Rho} {n n1 n2 : Wo} {i j : Nat} {x y : Dv} {v w : V} (hij : i ≠ j) (r : SR Y K Z F H σ ρ n) (r1 : SR Y K Z F1 H1 σ ρ n1) (r2 : SR Y K Z F2 H2 σ ρ n2) (g : Gr Z.δ F1 H1 F2 H2)
    (hx : VX K H F1 H1 x v) (hy : VX K H1 F2 H2 y w) : SR Y K Z F2 H2 ((σ.set i (some v)).set j (some w)) ((ρ.set i (some x)).set j (some y)) n2 := by
  have hx2 : VX K H F2 H2 x v := hx.step (fun a ha => (r.b.dkF a ha).2) g
  refine (r.setX r2 i hx2).set (Hs := H1) j hy (fun p h => r1.fresh h) fun p h l z hl e hz e2 => ?_
  by_cases q : i = l
  · subst q
    by_cases hlt : i < ρ.length
    · rw [List.getElem?_set_self hlt] at e
      rw [List.getElem?_set_self (by rw [← r.len]; exact hlt)] at e2
      cases e; cases e2
      cases x with
      | dat _ => simp [Dv.isL] at hz
      | mt ds =>
        obtain ⟨p', vs, q1, _, _, q2, _⟩ := hx
        cases q1
        rw [q2] at h; cases h
      | vw _ => exact hx.elim
      | deck _ => exact hx.elim
      | md _ _ => simp [Dv.isL] at hz
    · rw [List.getElem?_eq_none (by rw [List.length_set]; omega)] at e
      cases e
  · rw [List.getElem?_set_ne q] at e e2
    exact r1.inH e hz e2 h
def upX2 (Y : Fx) (K : PySem.W.Frag) (t u : DTE) : TA := tCons (upX Y K t) (tCons (upX Y K u) tNil)
theorem xa_two {a b : Expr} {t u : DTE} (ha : XE Y X a t) (hb : XE Y X b u) (hs : starEach [a, b] X.env = (false, eval a X.env) :: starEach [b] X.env := by rfl) (hs2 : starEach [b] X.env = (false, eval b X.env) :: starEach [] X.env := by rfl) : PA X [a, b] (upX2 Y X.K t u) :=
  pa_cons ha (pa_cons hb pa_nil hs2) hs
theorem ds_par {i j : Nat} {x y : Str} {a b : Expr} {t u : DTE} {px py pt pos : Pos} {kt k2 pt2} (hc : X.calm = true) (hN : X.N.Nodup) (hi : X.N[i]? = some x) (hj : X.N[j]? = some y) (hij : i ≠ j)
    (hx : X.env.scope.names.lookup x = some .local) (hy : X.env.scope.names.lookup y = some .local) (ha : XE Y X a t) (hb : XE Y X b u)
    (hw : swappedStores [.Tuple [.Name x px, .Name y py] kt pt] (.Tuple [a, b] k2 pt2) X.env = pure (some [x, y]))
    (hs : swapsWithSole [.Tuple [.Name x px, .Name y py] kt pt] (.Tuple [a, b] k2 pt2) pos.line X.env = pure false := by rfl)
    (h1 : starEach [a, b] X.env = (false, eval a X.env) :: starEach [b] X.env := by rfl) (h2 : starEach [b] X.env = (false, eval b X.env) :: starEach [] X.env := by rfl) :
    DS Y X (.Assign [.Tuple [.Name x px, .Name y py] kt pt] (.Tuple [a, b] k2 pt2) pos) (dPar i j t u) :=
  ps_imp (ps_par hc hN hi hj hij hx hy (xa_two ha hb h1 h2) hw hs) fun D σ H ⟨Z, F, ρ, n, E, r, ht, k⟩ =>
    ⟨Z, F, ρ, n, _, r, ht, fun x1 n1 F1 H1 v hx g1 s1 d1 w1 => ⟨Z, F1, ρ, n1, _, r.step g1 s1 d1, hx, fun y1 n2 F2 H2 w hy g2 s2 d2 w2 =>
      ⟨v, w, rfl, k.nx _ _ _ _ _ hy (par_set hij r (r.step g1 s1 d1) ((r.step g1 s1 d1).step g2 s2 d2) g2 w1 w2)⟩⟩⟩
end DL
namespace DL
open PySem PySem.Spec PyProof.Rows L2
variable {X : Cx} {Y : Fx}
structure ItOk (K : PySem.W.Frag) (J : It) (F1 : Hp) (xs : List PyData) : Prop where
  go : ∀ (i : Nat) H, Same F1 H → i < xs.length → J.go i H
  stop : ∀ (i : Nat) H, Same F1 H → xs.length ≤ i → J.stop i H
  yld : ∀ (i : Nat) H v H' x, J.yld i H v H' → Same F1 H → xs[i]? = some x → (H' = H ∧ Rp K F1 x v) ∨ ∃ T us ds, v = .ref T ∧ H T = none ∧ H' = upd H T (.tup us) ∧ x = .tuple ds ∧ Rps K F1 ds us
abbrev DSrc := Rho → Wo → (List PyData → Wo → Prop) → Prop
def upI (Y : Fx) (K : PySem.W.Frag) (t : DSrc) : TI := fun σ H R => ∃ Z F ρ n Q, SR Y K Z F H σ ρ n ∧ t ρ n Q ∧
  ∀ xs n' F' H' J, Q xs n' → Gr Z.δ F H F' H' → Same F' H' → Z.δ.at_ K F' H' n' → ItOk K J F' xs → R J H'
abbrev DI (Y : Fx) (X : Cx) (tg iter : Expr) (t : DSrc) : Prop := PI X tg iter (upI Y X.K t)
theorem pi_imp {tg iter : Expr} {t t' : TI} (h : PI X tg iter t) (q : ∀ σ H R, t' σ H R → t σ H R) : PI X tg iter t' := ⟨fun p s σ H R I w => h.run p s σ H R I (q σ H R w)⟩
/-- what yields in a heap where the data stands -/
theorem ItOk.use {K : PySem.W.Frag} {J : It} {F1 F H H' : Hp} {xs : List PyData} {i : Nat} {v : V} {x : PyData} (k : ItOk K J F1 xs) (h1 : Same F1 F) (hs : Same F H) (hy : J.yld i H v H') (hx : xs[i]? = some x) :
    ∃ F', Gp F H F' H' ∧ Same F' H' ∧ Rp K F' x v := by
  rcases k.yld i H v H' x hy (h1.trans hs) hx with ⟨rfl, r⟩ | ⟨T, us, ds, rfl, hT, rfl, rfl, r⟩
  · exact ⟨F, Gp.refl, hs, Rp.mono h1 x v r⟩
  · obtain ⟨g, s⟩ := Gp.new (o := .tup us) hT hs
    refine ⟨_, g, s, ?_⟩
    simp only [Rp]
    exact ⟨T, us, rfl, .inl upd_same, Rps.mono (h1.trans g.sF) ds us r⟩
theorem itOk_list {K : PySem.W.Frag} {F : Hp} {a : Addr} {vs : List V} {ds : List PyData} (h : F a = some (.lst vs)) (r : Rps K F ds vs) : ItOk K (Itl K a) F ds where
  go := fun i H s hi => ⟨vs, vs[i]'(by rw [← r.length]; exact hi), SqL.of (s _ _ h), by simp⟩
  stop := fun i H s hi => ⟨vs, SqL.of (s _ _ h), by rw [← r.length]; exact hi⟩
  yld := fun i H v H' x ⟨e, y⟩ s hx => by
    have h1 := y vs (SqL.of (s _ _ h))
    obtain ⟨w, e1, e2⟩ := r.get hx
    rw [h1] at e1; cases e1
    exact .inl ⟨e, e2⟩
theorem itOk_tup {K : PySem.W.Frag} {F : Hp} {a : Addr} {vs : List V} {ds : List PyData} (h : Rd F a (.tup vs)) (r : Rps K F ds vs) : ItOk K (Itt K a) F ds where
  go := fun i H s hi => ⟨vs, vs[i]'(by rw [← r.length]; exact hi), sqtR (rdS s h), by simp⟩
  stop := fun i H s hi => ⟨vs, sqtR (rdS s h), by rw [← r.length]; exact hi⟩
  yld := fun i H v H' x ⟨e, y⟩ s hx => by
    have h1 := y vs (sqtR (rdS s h))
    obtain ⟨w, e1, e2⟩ := r.get hx
    rw [h1] at e1; cases e1
    exact .inl ⟨e, e2⟩
/-- range -/
def rngD (lo : Int) (n : Nat) : List PyData := (List.range n).map fun (k : Nat) => PyData.int (lo + k)
theorem rngD_length {lo : Int} {n : Nat} : (rngD lo n).length = n := by simp [rngD]
theorem rngD_get {lo : Int} {n i : Nat} {x : PyData} (h : (rngD lo n)[i]? = some x) : x = .int (lo + (i : Int)) ∧ i < n := by
  unfold rngD at h
  rw [List.getElem?_map] at h
  cases e : (List.range n)[i]? with
  | none => rw [e] at h; cases h
  | some j =>
    rw [e] at h
    have hi : i < n := by simpa using (List.getElem?_eq_some_iff.mp e).1
    rw [List.getElem?_range hi] at e
    cases e; cases h
    exact ⟨rfl, hi⟩
theorem itOk_rng {K : PySem.W.Frag} {F : Hp} {lo : Int} {n : Nat} : ItOk K (Itr lo n) F (rngD lo n) where
  go := fun i H s hi => by rw [rngD_length] at hi; exact hi
  stop := fun i H s hi => by rw [rngD_length] at hi; exact hi
  yld := fun i H v H' x ⟨e, y⟩ s hx => by
    obtain ⟨h1, _⟩ := rngD_get hx
    exact .inl ⟨e, by rw [h1, y]; simp [Rp]⟩
def dRng1 (t : DTA) : DSrc := fun ρ n R => t ρ n fun xs n' => ∃ j : Int, xs = [.dat (.int j)] ∧ -(2 ^ 62) ≤ j ∧ j < 2 ^ 62 ∧ R (rngD 0 j.toNat) n'
theorem vrs1 {K : PySem.W.Frag} {δ : DkS} {F H : Hp} {i : Int} {vs : List V} (h : VRs K δ F H [.dat (.int i)] vs) : vs = [.int i] := by
  cases h with
  | cons a b =>
    cases b
    simp only [VR, Rp] at a; rw [a]
theorem vrs2 {K : PySem.W.Frag} {δ : DkS} {F H : Hp} {i j : Int} {vs : List V} (h : VRs K δ F H [.dat (.int i), .dat (.int j)] vs) : vs = [.int i, .int j] := by
  cases h with
  | cons a b =>
    simp only [VR, Rp] at a; rw [a, vrs1 b]
theorem di_range1 {tg a : Expr} {t : DTA} {p pos : Pos} (hg : Gl X "range") (hm : X.mg "range" = none) (ha : WA Y X [a] t) (hs : starEach [a] X.env = [(false, eval a X.env)] := by rfl) : DI Y X tg (.Call (.Name "range" p) [a] [] pos) (dRng1 t) :=
  pi_imp (pi_range1 hg hm ha hs) fun σ H R ⟨Z, F, ρ, n, Q, r, ht, k⟩ => ⟨Z, F, ρ, n, _, r, ht, fun xs n1 F1 H1 vs ⟨j, e, l, u, hx⟩ g1 s1 d1 w1 => by
    subst e
    exact ⟨j, vrs1 w1, l, u, k _ _ _ _ _ hx g1 s1 d1 itOk_rng⟩⟩
/-- enumerate of a list, zip of two lists, of two tuples -/
def enumD (ds : List PyData) : List PyData := ds.zipIdx.map fun p => .tuple [.int (p.2 : Nat), p.1]
theorem enumD_length {ds : List PyData} : (enumD ds).length = ds.length := by simp [enumD]
theorem enumD_get {ds : List PyData} {i : Nat} {x : PyData} (h : (enumD ds)[i]? = some x) : ∃ d, ds[i]? = some d ∧ x = .tuple [.int (i : Nat), d] := by
  unfold enumD at h
  rw [List.getElem?_map, List.getElem?_zipIdx] at h
  cases e : ds[i]? with
  | none => rw [e] at h; cases h
  | some d =>
    rw [e] at h
    simp at h
    exact ⟨d, rfl, h.symm⟩
abbrev DTG := PyData → Rho → (Rho → Prop) → Prop
structure GOk (K : PySem.W.Frag) (t : TG) (g : DTG) (sl : List Nat) : Prop where
  im : ∀ Y Z F H σ ρ n d v R Q, SR Y K Z F H σ ρ n → Rp K F d v → g d ρ R → (∀ σ' ρ', R ρ' → SR Y K Z F H σ' ρ' n → (∀ vs : List Nat, (∀ i ∈ sl, i ∈ vs) → wipe σ' vs = wipe σ vs) → Q σ' H) → t v σ H Q
def DG (X : Cx) (tg : Expr) (t : TG) (g : DTG) (sl : List Nat) : Prop := PG X tg t ∧ GOk X.K t g sl
def gN (i : Nat) : DTG := fun d ρ R => R (ρ.set i (some (.dat d)))
theorem wipe_set {σ : L2.St} {i : Nat} {x : Option V} : ∀ {vs : List Nat}, i ∈ vs → wipe (σ.set i x) vs = wipe σ vs
  | [], h => by simp at h
  | v :: vs, h => by
    unfold wipe
    by_cases q : i ∈ vs
    · rw [wipe_set q]
    · have e : i = v := by
        rcases List.mem_cons.mp h with e | e
        · exact e
        · exact absurd e q
      subst e
      have comm : ∀ us : List Nat, i ∉ us → wipe (σ.set i x) us = (wipe σ us).set i x := by
        intro us
        induction us with
        | nil => intro _; rfl
        | cons u us ih =>
          intro hu
          simp only [List.mem_cons, not_or] at hu
          unfold wipe
          rw [ih hu.2, List.set_comm _ _ hu.1]
      rw [comm vs q, List.set_set]
theorem gok_name {K : PySem.W.Frag} {i : Nat} : GOk K (gName i) (gN i) [i] := ⟨fun Y Z F H σ ρ n d v R Q r hr h k =>
  k _ _ h (r.set (Hs := H) i (x := .dat d) hr (fun p q => r.fresh q) fun p q l z _ e hz e2 => r.inH e hz e2 q) fun vs hv => wipe_set (hv i (by simp))⟩
def gT2 (i j : Nat) : DTG := fun d ρ R => ∃ a b, d = .tuple [a, b] ∧ R ((ρ.set i (some (.dat a))).set j (some (.dat b)))
theorem rps2 {K : PySem.W.Frag} {F : Hp} {a b : PyData} {vs : List V} (h : Rps K F [a, b] vs) : ∃ v w, vs = [v, w] ∧ Rp K F a v ∧ Rp K F b w := by
  simp only [Rps] at h
  obtain ⟨v, _, rfl, h1, w, _, rfl, h2, rfl⟩ := h
  exact ⟨v, w, rfl, h1, h2⟩
theorem SR.setD {K : PySem.W.Frag} {Y Z : Fx} {F H : Hp} {σ : L2.St} {ρ : Rho} {n : Wo} (r : SR Y K Z F H σ ρ n) (i : Nat) {d : PyData} {v : V} (h : Rp K F d v) : SR Y K Z F H (σ.set i (some v)) (ρ.set i (some (.dat d))) n :=
  r.set (Hs := H) i (x := .dat d) h (fun p q => r.fresh q) fun p q l z _ e hz e2 => r.inH e hz e2 q
theorem gok_two {K : PySem.W.Frag} {i j : Nat} : GOk K (gTup K 2 (gCons (gName i) (gCons (gName j) gNil))) (gT2 i j) [i, j] := ⟨fun Y Z F H σ ρ n d v R Q r hr h k => by
  obtain ⟨a, b, rfl, h⟩ := h
  simp only [Rp] at hr
  obtain ⟨p, xs, rfl, hp, hxs⟩ := hr
  obtain ⟨v, w, rfl, h1, h2⟩ := rps2 hxs
  refine ⟨p, _, rfl, sqtR (rdS r.b.sub hp), rfl, v, _, rfl, w, _, rfl, rfl, k _ _ h ((r.setD i h1).setD j h2) fun vs hv => ?_⟩
  rw [wipe_set (hv j (by simp)), wipe_set (hv i (by simp))]⟩
abbrev FStep := PyData → Rho → Wo → (Rho → Wo → Prop) → Prop
structure ForR (xs : List PyData) (ρ : Rho) (n : Wo) (step : FStep) (Q : Rho → Wo → Prop) : Prop where
  ex : ∃ I : Nat → Rho → Wo → Prop, I 0 ρ n ∧ (∀ (k : Nat) x ρ' n', xs[k]? = some x → I k ρ' n' → step x ρ' n' (I (k + 1))) ∧ ∀ ρ' n', I xs.length ρ' n' → Q ρ' n'
def dFor (s : DSrc) (g : DTG) (b : DTS) : DTS := fun E ρ n => s ρ n fun xs n1 => ForR xs ρ n1 (fun x ρ' n' K => g x ρ' fun ρ'' => b { E with nx := K, ct := K, bk := E.nx } ρ'' n') E.nx
theorem SR.base {K : PySem.W.Frag} {Y Z : Fx} {F0 H : Hp} {σ : L2.St} {ρ : Rho} {n : Wo} (r : SR Y K Z F0 H σ ρ n) : SR Y K { Z with F0 := F0 } F0 H σ ρ n :=
  ⟨⟨r.b.sub, r.b.dk, r.b.dkF, Same.refl _, fun a _ h => h, r.b.gH, r.b.gI⟩, r.de, r.he, r.gr, r.len, fun i x e => by
    obtain ⟨v, e1, e2⟩ := r.slot i x e
    refine ⟨v, e1, ?_⟩
    cases x <;> exact e2, r.apart⟩
theorem Base.back {K : PySem.W.Frag} {Z : Fx} {F1 H1 F H : Hp} {n1 n : Wo} (b1 : Base K Z F1 H1 n1) (b : Base K { Z with F0 := F1 } F H n) : Base K Z F H n :=
  ⟨b.sub, b.dk, b.dkF, b1.gF.trans b.gF, fun a h1 h2 => b.gN a h1 (b1.gN a h1 h2), b.gH, b.gI⟩
theorem SR.back {K : PySem.W.Frag} {Y Z : Fx} {F1 H1 F H : Hp} {σ : L2.St} {ρ : Rho} {n n1 : Wo} (b1 : Base K Z F1 H1 n1) (r : SR Y K { Z with F0 := F1 } F H σ ρ n) : SR Y K Z F H σ ρ n :=
  ⟨b1.back r.b, r.de, r.he, r.gr, r.len, fun i x e => by
    obtain ⟨v, e1, e2⟩ := r.slot i x e
    refine ⟨v, e1, ?_⟩
    cases x <;> exact e2, r.apart⟩
theorem ds_for {tg iter : Expr} {body : List Stmt} {s : DSrc} {t : TG} {g : DTG} {sl : List Nat} {b : DTS} {pos : Pos} (hp : PassesOwn (model X.prog X.w) X.A X.env X.xe) (hc : X.calm = true) (hi : DI Y X tg iter s) (hg : DG X tg t g sl) (hb : DSs Y X body b)
    (hs : ∀ x, foldedSetIterable iter X.env x = pure x := by intro _; rfl) : DS Y X (.For tg iter body [] pos) (dFor s g b) :=
  ps_imp (ps_for hp hc hi hg.1 hb hs) fun D σ H ⟨Z, F, ρ, n, E, r, ht, k⟩ => ⟨Z, F, ρ, n, _, r, ht, fun xs n1 F1 H1 J ⟨⟨I, h0, hstep, hend⟩⟩ g1 s1 d1 w1 => by
    have r1 := r.step g1 s1 d1
    refine ⟨fun i m σ H => m = xs.length - i ∧ i ≤ xs.length ∧ ∃ F' ρ' n', SR Y X.K { Z with F0 := F1 } F' H σ ρ' n' ∧ I i ρ' n', ⟨xs.length, by simp, Nat.zero_le _, F1, ρ, n1, r1.base, h0⟩, ?_⟩
    rintro i m σ2 H2 ⟨rfl, hi, F2, ρ2, n2, r2, h2⟩
    have sF : Same F1 F2 := r2.b.gF
    by_cases hlt : i < xs.length
    · refine .inr ⟨w1.go i H2 (sF.trans r2.b.sub) hlt, fun σ' H' => ∃ F' ρ' n', SR Y X.K { Z with F0 := F1 } F' H' σ' ρ' n' ∧ I (i + 1) ρ' n', fun σ' H' q => ⟨xs.length - (i + 1), by omega, rfl, hlt, q⟩, fun v H3 hy => ?_⟩
      obtain ⟨x, hx⟩ : ∃ x, xs[i]? = some x := ⟨xs[i], by simp [hlt]⟩
      obtain ⟨F3, g3, s3, r3⟩ := w1.use sF r2.b.sub hy hx
      have r2' := r2.step g3.gr s3 (g3.dk r2.b)
      refine hg.2.im _ _ _ _ _ _ _ _ _ _ _ r2' r3 (hstep i x ρ2 n2 hx h2) fun σ4 ρ4 h4 r4 _ => ?_
      refine ⟨_, F3, ρ4, n2, _, r4, h4, ⟨fun F5 H5 σ5 ρ5 n5 q r5 => ⟨F5, ρ5, n5, r5, q⟩, fun d n5 F5 H5 v5 q b5 => k.rt _ _ _ _ _ q (r1.b.back b5), fun F5 H5 σ5 ρ5 n5 q r5 => k.nx _ _ _ _ _ q (SR.back r1.b r5), fun F5 H5 σ5 ρ5 n5 q r5 => ⟨F5, ρ5, n5, r5, q⟩⟩⟩
    · have e : i = xs.length := by omega
      subst e
      exact .inl ⟨w1.stop _ H2 (sF.trans r2.b.sub) (Nat.le_refl _), k.nx _ _ _ _ _ (hend _ _ h2) (SR.back r1.b r2)⟩⟩
end DL
namespace DL
open PySem PySem.Spec PyProof.Rows L2
variable {X : Cx} {Y : Fx}
def wipeR (ρ : Rho) : List Nat → Rho
  | [] => ρ
  | v :: vs => (wipeR ρ vs).set v none
theorem wipeR_length (ρ : Rho) : ∀ vs : List Nat, (wipeR ρ vs).length = ρ.length
  | [] => rfl
  | v :: vs => by unfold wipeR; rw [List.length_set, wipeR_length ρ vs]
theorem wipeR_some {ρ : Rho} {i : Nat} {x : Dv} : ∀ {vs : List Nat}, (wipeR ρ vs)[i]? = some (some x) → ρ[i]? = some (some x) ∧ i ∉ vs
  | [], h => ⟨h, by simp⟩
  | v :: vs, h => by
    unfold wipeR at h
    by_cases hi : v = i
    · subst hi
      by_cases hv : v < (wipeR ρ vs).length
      · rw [List.getElem?_set_self hv] at h; cases h
      · rw [List.getElem?_eq_none (by simpa using hv)] at h; cases h
    · rw [List.getElem?_set_ne hi] at h
      obtain ⟨h1, h2⟩ := wipeR_some h
      exact ⟨h1, by simp only [List.mem_cons, not_or]; exact ⟨fun e => hi e.symm, h2⟩⟩
theorem SR.wipe {K : PySem.W.Frag} {Y Z : Fx} {F H : Hp} {σ : L2.St} {ρ : Rho} {n : Wo} (r : SR Y K Z F H σ ρ n) (vs : List Nat) : SR Y K Z F H (wipe σ vs) (wipeR ρ vs) n where
  b := r.b
  de := r.de
  he := r.he
  gr := r.gr
  len := by rw [wipe_length, wipeR_length, r.len]
  slot := fun i x e => by
    obtain ⟨e1, e2⟩ := wipeR_some e
    obtain ⟨v, e3, e4⟩ := r.slot i x e1
    exact ⟨v, by rw [wipe_out e2]; exact e3, e4⟩
  apart := fun i j a ds y hij e1 e2 e3 hy e4 =>
    r.apart i j a ds y hij (wipeR_some e1).1 (wipe_some e2).1 (wipeR_some e3).1 hy (wipe_some e4).1
theorem wipe_idem {σ : L2.St} : ∀ {vs : List Nat}, wipe (wipe σ vs) vs = wipe σ vs := by
  intro vs
  have sub : ∀ us : List Nat, (∀ i ∈ us, i ∈ vs) → wipe (wipe σ us) vs = wipe σ vs := by
    intro us
    induction us with
    | nil => intro _; rfl
    | cons u us ih =>
      intro h
      show wipe ((wipe σ us).set u none) vs = _
      rw [wipe_set (h u (by simp))]
      exact ih fun i hi => h i (by simp [hi])
  exact sub vs fun i h => h
abbrev CStep := PyData → List PyData → Wo → (List PyData → Wo → Prop) → Prop
structure CompR (xs : List PyData) (n : Wo) (step : CStep) (R : List PyData → Wo → Prop) : Prop where
  ex : ∃ I : Nat → List PyData → Wo → Prop, I 0 [] n ∧ (∀ (k : Nat) x acc m, xs[k]? = some x → I k acc m → step x acc m (I (k + 1))) ∧ ∀ acc m, I xs.length acc m → R acc m
def mComp (s : DSrc) (g : DTG) (tt : DTT) (te : DTE) (vs : List Nat) : DTM := fun ρ n R => s ρ n fun xs n1 => CompR xs n1 (fun x acc m K => g x (wipeR ρ vs) fun ρ' => tt ρ' m fun b m1 => if b = true then te ρ' m1 fun y m2 => needD y fun d => acc.length < sizeLine ∧ K (acc ++ [d]) m2 else K acc m1) R
abbrev WTs (Y : Fx) (X : Cx) (ifs : List Expr) (t : DTT) : Prop := PTs X ifs (upT Y X.K t)
theorem pts_imp {ifs : List Expr} {t t' : TT} (h : PTs X ifs t) (q : ∀ σ H Q, t' σ H Q → t σ H Q) : PTs X ifs t' := ⟨fun p s σ H Q I w => h.run p s σ H Q I (q σ H Q w)⟩
def dYes : DTT := fun _ n R => R true n
theorem wts_nil : WTs Y X [] dYes := pts_imp pts_nil fun σ H Q ⟨Z, F, ρ, n, R, r, hr, k⟩ => k _ _ _ _ hr Gr.refl r.b.sub r.b.dk
theorem SR.mut {K : PySem.W.Frag} {Y Z : Fx} {F H : Hp} {σ : L2.St} {ρ : Rho} {n : Wo} (r : SR Y K Z F H σ ρ n) {i : Nat} {ds es : List PyData} {a : Addr} {us : List V} (e : ρ[i]? = some (some (.mt ds))) (e1 : σ[i]? = some (some (.ref a))) (hr : Rps K F es us) :
    SR Y K Z F (upd H a (.lst us)) σ (ρ.set i (some (.mt es))) n := by
  obtain ⟨v, q1, a', ws, rfl, h0, hF, hH, hrr, na⟩ := r.slot i _ e
  rw [e1] at q1; cases q1
  have hi : i < ρ.length := (List.getElem?_eq_some_iff.mp e).1
  have hk : ∀ b o, b ≠ a → H b = some o → upd H a (.lst us) b = some o := fun b o q h => by rw [upd_ne q]; exact h
  refine ⟨⟨fun b o q => hk b o (ne_of_none q hF) (r.b.sub _ _ q), r.b.dk.chg na hH rfl, fun b hb => ⟨(r.b.dkF b hb).1, by rw [upd_ne fun q => na (by rw [← q]; exact hb)]; exact (r.b.dkF b hb).2⟩, r.b.gF, r.b.gN, fun b o q1 q2 q3 => hk b o (ne_of_none q2 h0) (r.b.gH b o q1 q2 q3), fun b C dx fs q => by rw [upd_ne (ne_of_none q h0)]; exact r.b.gI b C dx fs q⟩, r.de, r.he, r.gr.chg (by rw [← r.he]; exact h0), by simp [r.len], fun j y q => ?_, fun j l b ds' y hjl q1 q2 q3 hy q4 => ?_⟩
  · by_cases z : i = j
    · subst z
      rw [List.getElem?_set_self hi] at q
      cases q
      exact ⟨_, e1, a, us, rfl, h0, hF, upd_same, hr, na⟩
    · rw [List.getElem?_set_ne z] at q
      obtain ⟨w, w1, w2⟩ := r.slot j y q
      refine ⟨w, w1, ?_⟩
      cases y with
      | dat d => exact w2
      | vw es' =>
        obtain ⟨b, us', rfl, p1, p2, p3⟩ := w2
        exact ⟨b, us', rfl, hk b _ (fun zz => r.apart i j a ds (.vw es') z e e1 q rfl (by rw [w1, zz])) p1, p2, p3⟩
      | mt es' =>
        obtain ⟨b, us', rfl, p1, p2, p3, p4, p5⟩ := w2
        exact ⟨b, us', rfl, p1, p2, hk b _ (fun zz => r.apart i j a ds (.mt es') z e e1 q rfl (by rw [w1, zz])) p3, p4, p5⟩
      | deck _ => exact w2
      | md b ks =>
        obtain ⟨q1, q2, q3, q4, q5⟩ := w2
        exact ⟨q1, q2, q3, hk b _ (fun zz => by rw [zz, hH] at q4; cases q4) q4, q5⟩
  · have old : ∀ (k : Nat) (x : Dv), (ρ.set i (some (.mt es)))[k]? = some (some x) → x.isL = true → ∃ x', ρ[k]? = some (some x') ∧ x'.isL = true ∧ (∀ ds', x = .mt ds' → ∃ ds'', x' = .mt ds'') := fun k x q hx => by
      by_cases z : i = k
      · subst z
        rw [List.getElem?_set_self hi] at q
        cases q
        exact ⟨_, e, rfl, fun _ _ => ⟨_, rfl⟩⟩
      · rw [List.getElem?_set_ne z] at q
        exact ⟨x, q, hx, fun ds' h => ⟨ds', h⟩⟩
    obtain ⟨x1, p1, p2, p3⟩ := old j _ q1 rfl
    obtain ⟨ds'', rfl⟩ := p3 _ rfl
    obtain ⟨x2, p4, p5, _⟩ := old l _ q3 hy
    exact r.apart j l b ds'' x2 hjl p1 q2 p4 p5 q4
/-- the list in slot i -/
def atMt (i : Nat) (ρ : Rho) (R : List PyData → Prop) : Prop := ∃ ds, ρ[i]? = some (some (.mt ds)) ∧ R ds
def dApp (i : Nat) (t : DTE) : DTS := fun E ρ n => atMt i ρ fun ds => t ρ n fun x n' => needD x fun d => ds.length < sizeLine ∧ E.nx (ρ.set i (some (.mt (ds ++ [d])))) n'
theorem SR.own {K : PySem.W.Frag} {Y Z : Fx} {F H : Hp} {σ : L2.St} {ρ : Rho} {n : Wo} (r : SR Y K Z F H σ ρ n) {i : Nat} {ds : List PyData} (e : ρ[i]? = some (some (.mt ds))) : ∃ a vs, σ[i]? = some (some (.ref a)) ∧ H a = some (.lst vs) ∧ Rps K F ds vs := by
  obtain ⟨v, q1, a, ws, rfl, h0, hF, hH, hrr, na⟩ := r.slot i _ e
  exact ⟨a, ws, q1, hH, hrr⟩
section
variable {i : Nat} {o e : Expr} {t : DTE} {apos cpos pos : Pos}
theorem ds_append (ho : PE X o (tVar i)) (he : WE Y X e t)
    (hbase : attributeBase o "append" X.env (eval o X.env) = eval o X.env := by rfl)
    (hfew : ((backTo cpos (starEach [e] X.env)).all (fun x => !x.1) && (backToKw cpos (keywordEach [] X.env)).all (fun x => x.1.isSome)
      && decide (([e] : List Expr).length + ([] : List Keyword).length + (if ([] : List Keyword).isEmpty then 0 else 1) < 30)) = true := by rfl)
    (hline : (apos.endLine == cpos.line) = true := by rfl) (hst : starEach [e] X.env = (false, eval e X.env) :: starEach [] X.env := by rfl) (hplain : (backTo cpos (starEach [] X.env)).any (·.1) = false := by rfl)
    (hs : swapsWith (.Call (.Attribute o "append" apos) [e] [] cpos) none pos.line X.env = pure false := by rfl) : DS Y X (.Expr (.Call (.Attribute o "append" apos) [e] [] cpos) pos) (dApp i t) :=
  ps_imp (ps_expr (pe_bm PySem.F.plainAttrs_list PySem.F.slot_list_append PySem.F.type_list_append mt_append ho (pa_cons he pa_nil hst) hbase hfew hline hst hplain) hs) fun D σ H ⟨Z, F, ρ, n, E, r, ⟨ds, e0, ht⟩, k⟩ => by
    obtain ⟨a, vs, q1, q2, q3⟩ := r.own e0
    refine ⟨_, q1, .inl ⟨rfl, vs, SqL.of q2⟩, Z, F, ρ, n, _, r, ht, fun x n1 F1 H1 v hx g1 s1 d1 w1 => ?_⟩
    obtain ⟨d, rfl, hl, hx⟩ := needD_is hx
    have r1 := r.step g1 s1 d1
    obtain ⟨a', vs', q4, q5, q6⟩ := r1.own e0
    rw [q1] at q4; cases q4
    exact ⟨a, vs', _, rfl, rfl, q5, by rw [← q6.length]; exact hl, k.nx _ _ _ _ _ hx (r1.mut e0 q1 (q6.append (rps_cons w1 rps_nil)))⟩
theorem Rps.set {K : PySem.W.Frag} {F : Hp} : ∀ {ds : List PyData} {vs : List V} (j : Nat) {d : PyData} {v : V}, Rps K F ds vs → Rp K F d v → Rps K F (ds.set j d) (vs.set j v)
  | [], _, _, _, _, h, _ => by simp only [Rps] at h; subst h; simp [Rps]
  | d :: ds, _, 0, d', v', h, h' => by
    simp only [Rps] at h
    obtain ⟨v, r, rfl, h1, h2⟩ := h
    exact rps_cons h' h2
  | d :: ds, _, j + 1, d', v', h, h' => by
    simp only [Rps] at h
    obtain ⟨v, r, rfl, h1, h2⟩ := h
    exact rps_cons h1 (Rps.set j h2 h')
end
end DL
namespace DL
open PySem PySem.Spec PyProof.Rows L2
variable {X : Cx} {Y : Fx}
abbrev DC := List Dv → (PyData → Prop) → Prop
def CallOk (K : PySem.W.Frag) (r : List V → Hp → VK → Prop) (o : DC) : Prop := ∀ δ F H xs vs R Q, Same F H → VRs K δ F H xs vs → o xs R → Back K F H R Q → r vs H Q
def dCall (o : DC) (t : DTA) : DTE := fun ρ n R => t ρ n fun xs n1 => o xs fun d => R (.dat d) n1
theorem cal {K : PySem.W.Frag} {r : List V → Hp → VK → Prop} {o : DC} {t : DTA} (ho : CallOk K r o) : ∀ σ H Q, up Y K (dCall o t) σ H Q → tCB r (upA Y K t) σ H Q := fun σ H Q ⟨Z, F, ρ, n, R, s, ht, k⟩ =>
  ⟨Z, F, ρ, n, _, s, ht, fun xs n1 F1 H1 vs hx g1 s1 d1 w1 => ho Z.δ F1 H1 xs vs _ Q s1 w1 hx fun d F2 H2 v2 h2 g2 s2 w2 =>
    k _ _ _ _ _ h2 (g1.trans g2.gr) s2 (g2.dk ((s.step g1 s1 d1).b)) w2⟩
section
variable {x : Str} {p pos : Pos} {e : Expr} {es : List Expr} {id T : String} {r : List V → Hp → VK → Prop} {o : DC} {t : DTA}
theorem we_callB (hc : CallR X (.builtin id) r) (ho : CallOk X.K r o) (hg : Gl X x) (hm : X.mg x = none) (hv : bootBuiltins x = some (.builtin id)) (ha : WA Y X (e :: es) t) (hn : x ≠ "__name__" := by decide) (hdb : (x == ("__debug__" : Str)) = false := by decide)
    (he : starEach (e :: es) X.env = (false, eval e X.env) :: starEach es X.env := by rfl) (hpl : (backTo pos (starEach es X.env)).any (·.1) = false := by rfl) : WE Y X (.Call (.Name x p) (e :: es) [] pos) (dCall o t) :=
  pe_imp (pe_callB hc hg hm hv ha hn hdb he hpl) (cal ho)
theorem we_callTy (hc : CallR X (.type T) r) (ho : CallOk X.K r o) (hg : Gl X x) (hm : X.mg x = none) (hv : bootBuiltins x = some (.type T)) (ha : WA Y X (e :: es) t) (hn : x ≠ "__name__" := by decide) (hdb : (x == ("__debug__" : Str)) = false := by decide)
    (he : starEach (e :: es) X.env = (false, eval e X.env) :: starEach es X.env := by rfl) (hpl : (backTo pos (starEach es X.env)).any (·.1) = false := by rfl) : WE Y X (.Call (.Name x p) (e :: es) [] pos) (dCall o t) :=
  pe_imp (pe_callTy hc hg hm hv ha hn hdb he hpl) (cal ho)
abbrev DCM := List Dv → (List PyData → Prop) → Prop
def CallOkM (K : PySem.W.Frag) (r : List V → Hp → VK → Prop) (o : DCM) : Prop := ∀ δ F H xs vs R Q, Same F H → VRs K δ F H xs vs → o xs R → (∀ ds us p, R ds → H p = none → Rps K F ds us → Q (.ref p) (upd H p (.lst us))) → r vs H Q
def mCall (o : DCM) (t : DTA) : DTM := fun ρ n R => t ρ n fun xs n1 => o xs fun d => R d n1
theorem calM {K : PySem.W.Frag} {r : List V → Hp → VK → Prop} {o : DCM} {t : DTA} (ho : CallOkM K r o) : ∀ σ H Q, upM Y K (mCall o t) σ H Q → tCB r (upA Y K t) σ H Q := fun σ H Q ⟨Z, F, ρ, n, R, s, ht, k⟩ =>
  ⟨Z, F, ρ, n, _, s, ht, fun xs n1 F1 H1 vs hx g1 s1 d1 w1 => ho Z.δ F1 H1 xs vs _ Q s1 w1 hx fun ds us p h2 hp hr => by
    obtain ⟨g2, s2⟩ := Gp.newM (o := .lst us) hp s1
    have hp0 : H p = none := by
      cases e : H p with
      | none => rfl
      | some o => exact absurd hp (g1.dH p (by rw [e]; nofun))
    exact k _ _ _ _ _ _ h2 (g1.trans g2.gr) s2 (g2.dk ((s.step g1 s1 d1).b)) hp0 (s1.free hp) upd_same hr⟩
theorem me_callB (hc : CallR X (.builtin id) r) {o : DCM} (ho : CallOkM X.K r o) (hg : Gl X x) (hm : X.mg x = none) (hv : bootBuiltins x = some (.builtin id)) (ha : WA Y X (e :: es) t) (hn : x ≠ "__name__" := by decide) (hdb : (x == ("__debug__" : Str)) = false := by decide)
    (he : starEach (e :: es) X.env = (false, eval e X.env) :: starEach es X.env := by rfl) (hpl : (backTo pos (starEach es X.env)).any (·.1) = false := by rfl) : ME Y X (.Call (.Name x p) (e :: es) [] pos) (mCall o t) :=
  pe_imp (pe_callB hc hg hm hv ha hn hdb he hpl) (calM ho)
theorem me_callTy (hc : CallR X (.type T) r) {o : DCM} (ho : CallOkM X.K r o) (hg : Gl X x) (hm : X.mg x = none) (hv : bootBuiltins x = some (.type T)) (ha : WA Y X (e :: es) t) (hn : x ≠ "__name__" := by decide) (hdb : (x == ("__debug__" : Str)) = false := by decide)
    (he : starEach (e :: es) X.env = (false, eval e X.env) :: starEach es X.env := by rfl) (hpl : (backTo pos (starEach es X.env)).any (·.1) = false := by rfl) : ME Y X (.Call (.Name x p) (e :: es) [] pos) (mCall o t) :=
  pe_imp (pe_callTy hc hg hm hv ha hn hdb he hpl) (calM ho)
end
section
variable {K : PySem.W.Frag}
theorem vr1 {δ : DkS} {F H : Hp} {x : Dv} {vs : List V} (h : VRs K δ F H [x] vs) : ∃ v, vs = [v] ∧ VR K δ F H x v := by
  cases h with
  | cons a b => cases b; exact ⟨_, rfl, a⟩
theorem vr2 {δ : DkS} {F H : Hp} {x y : Dv} {vs : List V} (h : VRs K δ F H [x, y] vs) : ∃ v w, vs = [v, w] ∧ VR K δ F H x v ∧ VR K δ F H y w := by
  cases h with
  | cons a b =>
    obtain ⟨w, rfl, h2⟩ := vr1 b
    exact ⟨_, w, rfl, a, h2⟩
/-- a sequence's items, whichever it is -/
def seqD : PyData → Option (List PyData)
  | .list ds => some ds
  | .tuple ds => some ds
  | _ => none
theorem VR.seq {δ : DkS} {F H : Hp} {x : Dv} {v : V} {ds : List PyData} (hs : Same F H) (h : VR K δ F H x v) (e : seqD x.toD = some ds) : ∃ a vs, v = .ref a ∧ (H a = some (.lst vs) ∨ Rd H a (.tup vs)) ∧ Rps K F ds vs := by
  cases q : x.toD with
  | list es =>
    rw [q] at e; cases e
    obtain ⟨a, l, e1, e2, e3⟩ := h.lst hs q
    exact ⟨a, l, e1, .inl e2, e3⟩
  | tuple es =>
    rw [q] at e; cases e
    obtain ⟨a, l, e1, e2, e3⟩ := h.tpl hs q
    exact ⟨a, l, e1, .inr (rdS hs e2), e3⟩
  | _ => rw [q] at e; cases e
def oLen : DC := fun xs R => ∃ x ds, xs = [x] ∧ seqD x.toD = some ds ∧ R (.int ds.length)
theorem ck_len : CallOk K (fun xs H Q => ∃ p ys, xs = [.ref p] ∧ (SqL K H p ys ∨ SqT K H p ys) ∧ Q (.int ys.length) H) oLen := fun δ F H xs vs R Q hs hv ⟨x, ds, e, e2, hr⟩ b => by
  subst e
  obtain ⟨v, rfl, h1⟩ := vr1 hv
  obtain ⟨a, us, rfl, h2, h3⟩ := h1.seq hs e2
  exact ⟨a, us, rfl, h2.imp SqL.of sqtR, b.int hs (by rw [← h3.length]; exact hr)⟩
def oInt : DC := fun xs R => match xs with
  | [.dat (.int i)] => R (.int i)
  | [.dat (.bool k)] => R (.int (if k then 1 else 0))
  | _ => False
theorem ck_int : CallOk K (fun xs H Q => (∃ i, xs = [.int i] ∧ Q (.int i) H) ∨ ∃ k, xs = [.bl k] ∧ Q (.int (if k then 1 else 0)) H) oInt := fun δ F H xs vs R Q hs hv h b => by
  unfold oInt at h
  split at h
  · exact .inl ⟨_, vrs1 hv, b.int hs h⟩
  · obtain ⟨v, rfl, h1⟩ := vr1 hv
    simp only [VR, Rp] at h1
    subst h1
    exact .inr ⟨_, rfl, b.int hs h⟩
  · exact h.elim
/-- tuple(x), list(x) -/
def oTuple : DC := fun xs R => ∃ x ds, xs = [x] ∧ seqD x.toD = some ds ∧ R (.tuple ds)
theorem ck_tuple : CallOk K (fun xs H Q => ∃ p ys, xs = [.ref p] ∧ ((SqL K H p ys ∧ ∀ l, H l = none → Q (.ref l) (upd H l (.tup ys))) ∨ (SqT K H p ys ∧ Q (.ref p) H))) oTuple := fun δ F H xs vs R Q hs hv ⟨x, ds, e, e2, hr⟩ b => by
  subst e
  obtain ⟨v, rfl, h1⟩ := vr1 hv
  cases q : x.toD with
  | list es =>
    rw [q] at e2; cases e2
    obtain ⟨a, l, rfl, e2, e3⟩ := h1.lst hs q
    exact ⟨a, l, rfl, .inl ⟨SqL.of e2, fun p hp => b.tup hs hr e3 hp⟩⟩
  | tuple es =>
    rw [q] at e2; cases e2
    obtain ⟨a, l, rfl, e2, e3⟩ := h1.tpl hs q
    exact ⟨a, l, rfl, .inr ⟨sqtR (rdS hs e2), b.here hs hr (by simp only [Rp]; exact ⟨a, l, rfl, e2, e3⟩)⟩⟩
  | _ => rw [q] at e2; cases e2
def oList : DCM := fun xs R => ∃ x ds, xs = [x] ∧ seqD x.toD = some ds ∧ R ds
theorem ck_list : CallOkM K (fun xs H Q => ∃ p ys, xs = [.ref p] ∧ (SqL K H p ys ∨ SqT K H p ys) ∧ ∀ l, H l = none → Q (.ref l) (upd H l (.lst ys))) oList := fun δ F H xs vs R Q hs hv ⟨x, ds, e, e2, hr⟩ b => by
  subst e
  obtain ⟨v, rfl, h1⟩ := vr1 hv
  obtain ⟨a, us, rfl, h2, h3⟩ := h1.seq hs e2
  exact ⟨a, us, rfl, h2.imp SqL.of sqtR, fun p hp => b _ _ _ hr hp h3⟩
/-- all, any of bools -/
def oAll : DC := fun xs R => ∃ x, ∃ bs : List Bool, xs = [x] ∧ x.toD = .list (bs.map .bool) ∧ R (.bool (bs.all id))
theorem Rps.bools {F : Hp} : ∀ {bs : List Bool} {vs : List V}, Rps K F (bs.map PyData.bool) vs → vs = bs.map V.bl
  | [], _, h => by simpa only [List.map_nil, Rps] using h
  | n :: ns, _, h => by
    simp only [List.map_cons, Rps, Rp] at h
    obtain ⟨v, r, rfl, rfl, h2⟩ := h
    rw [Rps.bools h2]; rfl
theorem ck_all : CallOk K (rAll K) oAll := fun δ F H xs vs R Q hs hv ⟨x, bs, e, e2, hr⟩ b => by
  subst e
  obtain ⟨v, rfl, h1⟩ := vr1 hv
  obtain ⟨a, us, rfl, h2, h3⟩ := h1.lst hs e2
  rw [h3.bools] at h2
  exact ⟨a, bs, rfl, SqL.of h2, b.bl hs hr⟩
end
structure FnG (P : Program) (w : World) (K : PySem.W.Frag) (mg : Str → Option Value) (base : Heap) (k : Nat) (f : Addr) (fd : FuncData) (ps : List Str) (sp : Sp) : Prop where
  len : ∀ vs H Q E, sp vs H Q E → vs.length = ps.length
  run : ∀ (A : Around) (outer : List Env) (s : Shared) (H : Hp) (args : Args) (us : List Value) (vs : List V) (Q : VK), A.guards = some [] → Room k A → Env0 P w K mg base A outer s H →
    BindsTo s fd args (ps.zip us) → Vals vs us → sp vs H Q E0 → codeAny (model P w) A (.call (.ref f) args) (CR CX0 outer P w H s Q E0) s
theorem FnG.mono {P : Program} {w : World} {K : PySem.W.Frag} {mg : Str → Option Value} {base : Heap} {j k : Nat} {f : Addr} {fd : FuncData} {ps : List Str} {sp : Sp} (F : FnG P w K mg base j f fd ps sp) (h : j ≤ k) : FnG P w K mg base k f fd ps sp :=
  ⟨F.len, fun A outer s H args us vs Q hg hr => F.run A outer s H args us vs Q hg (hr.mono h)⟩
/-- a def, by its body -/
theorem fng_of {P : Program} {w : World} {K : PySem.W.Frag} {mg : Str → Option Value} {base : Heap} {x qual : Str} {st : Stmt} {f : Addr} {fd : FuncData} {N ps : List Str} {k : Nat} {sp : Sp} (F : Fun K x qual st f fd) (S : FnScope N ps (defScope st))
    (len : ∀ vs H Q E, sp vs H Q E → vs.length = ps.length)
    (hb : ∀ (cdv : Value) (A : Around) (outer : List Env) (s : Shared) (H : Hp) (vs : List V) (Q : VK), A.guards = some [] → Room k (A.deeper (envOfC qual (defScope st) s.heap.objs.size f cdv)) → sp vs H Q E0 →
      ∃ t, PSs (cxOf CX0 P w K mg base N qual (defScope st) f cdv A outer s H E0).nox (defBody st) t ∧ t { nx := fun _ H' => Q .non H', rt := Q } (start N vs) H) : FnG P w K mg base (k + 1) f fd ps sp := by
  refine ⟨len, fun A outer s H args us vs Q hgd hr e0 hbi rv hsp => ?_⟩
  obtain ⟨oc, od, kV, doc, pm, an, cdv, ct, osl, rfl, lk, hcd⟩ := F.ex
  have hl := len _ _ _ _ hsp
  have kin : K.In s.heap := e0.mod.kin.keeps fun b o e => (e0.bs b o e).1
  have lim : s.heap.NoLimit := e0.mod.nolimit.keeps fun b o e => (e0.bs b o e).1
  refine Att.call_fn kin lim lk hcd hr.depth hbi (List.all_eq_true.mpr fun ⟨y, u⟩ hy => ?_) (fun s1 x => ?_) S.co S.gen S.kind
  · rcases S.par y (List.of_mem_zip hy).1 with q | q <;> simp [q]
  · obtain ⟨t, ht, hq⟩ := hb cdv A outer s H vs Q hgd (hr.deeper _) hsp
    have I := inv_start (CX := CX0) (P := P) (w := w) (E := E0) S hr.hd e0 hl rv x
    refine wpAny_mono (ht.run [] s1 (start N vs) H _ (I.wish _) hq) (fun fl s' hs => ?_) fun e s' hs => hs.elim
    have fin : ∀ {σ' : L2.St} {H' : Hp} {v : V} {u : Value}, Inv (cxOf CX0 P w K mg base N qual (defScope st) f cdv A outer s H E0) [] σ' H' s' → RelV v u → Q v H' → CE outer P w H s Q u s' :=
      fun J r q => ⟨_, _, J.os, J.bare, J.base, J.hok, r, q⟩
    cases fl with
    | ret u =>
      obtain ⟨v, σ', H', J, r, q⟩ := hs
      exact fin J.unwish r q
    | next =>
      obtain ⟨σ', H', J, q⟩ := hs
      exact fin (v := V.non) (u := Value.none) J.unwish rfl q
    | brk => obtain ⟨_, _, _, q⟩ := hs; exact q.elim
    | cont => obtain ⟨_, _, _, q⟩ := hs; exact q.elim
theorem run_g {mg' : Unit} {k : Nat} {f : Addr} {fd : FuncData} {ps : List Str} {sp : Sp} {pins : List (Addr × Obj)} {σ : L2.St} {H : Hp} {s : Shared} {Q : VK} {us : List Value} {vs : List V} (F : FnG X.prog X.w X.K X.mg X.base k f fd ps sp) (hgd : X.A.guards = some []) (hr : Room k X.A) (hb : Binds X.K fd ps [])
    (I : Inv X pins σ H s) (r : Vals vs us) (h : sp vs H Q E0) : wpAny (model X.prog X.w) X.A (call (.ref f) us) (EP X pins σ Q) X.xe s := by
  have hl : (us ++ []).length = ps.length := by rw [List.append_nil, ← r.length]; exact F.len _ _ _ _ h
  have hbi := hb s us I.kIn hl
  rw [List.append_nil] at hbi
  refine wpAny_call (codeAny_mono (F.run X.A X.stack s H ⟨us, []⟩ us vs Q hgd hr I.env0 hbi r h) fun q s' hq => ?_)
  cases q with
  | error e => exact hq.elim
  | ok fl =>
    cases fl with
    | ret u => exact I.after hq
    | next => exact hq.elim
    | brk => exact hq.elim
    | cont => exact hq.elim
theorem pe_callg {k : Nat} {f : Addr} {fd : FuncData} {ps : List Str} {sp : Sp} {x : Str} {p pos : Pos} {e : Expr} {es : List Expr} {t : TA} (F : FnG X.prog X.w X.K X.mg X.base k f fd ps sp) (hgd : X.A.guards = some []) (hr : Room k X.A) (hg : Gl X x) (hm : X.mg x = some (.ref f)) (hk : PySem.W.keepIn X.K (.ref f) = true) (hb : Binds X.K fd ps [])
    (ha : PA X (e :: es) t) (hdb : (x == ("__debug__" : Str)) = false := by decide) (he : starEach (e :: es) X.env = (false, eval e X.env) :: starEach es X.env := by rfl) (hpl : (backTo pos (starEach es X.env)).any (·.1) = false := by rfl) :
    PE X (.Call (.Name x p) (e :: es) [] pos) (fun σ H Q => t σ H fun vs H1 => sp vs H1 Q E0) :=
  ⟨fun pins s σ H Q I h => wpAny_Call_Name_kw (ld_glob I hg hm (PySem.W.callWith_K (h₀ := X.base) I.ok.mod.kin hk (thn (ha.run pos pins s σ H _ I h) fun us s1 ⟨vs, H1, I1, r, q⟩ => ⟨I1.kIn, run_g (mg' := ()) F hgd hr hb I1 r q⟩) he hpl) hdb)⟩
abbrev DSpec := List Dv → Wo → (PyData → Wo → Prop) → Prop
def spD (K : PySem.W.Frag) (m : Nat) (c : DSpec) : Sp := fun vs H Q _ => ∃ δ F as n R, as.length = m ∧ VRs K δ F H as vs ∧ Same F H ∧ δ.at_ K F H n ∧ (∀ a, a ∈ δ.own → F a = none ∧ H a ≠ none) ∧ c as n R ∧
  ∀ d n' F' H' v, R d n' → Gr δ F H F' H' → Same F' H' → δ.at_ K F' H' n' → Rp K F' d v → Q v H'
def dFn (m : Nat) (c : DSpec) (t : DTA) : DTE := fun ρ n R => t ρ n fun as n1 => as.length = m ∧ c as n1 fun d n2 => R (.dat d) n2
theorem we_fn {k m : Nat} {c : DSpec} {f : Addr} {fd : FuncData} {ps : List Str} {x : Str} {p pos : Pos} {e : Expr} {es : List Expr} {t : DTA} (F : FnG X.prog X.w X.K X.mg X.base k f fd ps (spD X.K m c)) (hgd : X.A.guards = some []) (hr : Room k X.A) (hg : Gl X x) (hm : X.mg x = some (.ref f)) (hk : PySem.W.keepIn X.K (.ref f) = true) (hb : Binds X.K fd ps [])
    (ha : WA Y X (e :: es) t) (hdb : (x == ("__debug__" : Str)) = false := by decide) (he : starEach (e :: es) X.env = (false, eval e X.env) :: starEach es X.env := by rfl) (hpl : (backTo pos (starEach es X.env)).any (·.1) = false := by rfl) :
    WE Y X (.Call (.Name x p) (e :: es) [] pos) (dFn m c t) :=
  pe_imp (pe_callg F hgd hr hg hm hk hb ha hdb he hpl) fun σ H Q ⟨Z, F, ρ, n, R, r, ht, k⟩ => ⟨Z, F, ρ, n, _, r, ht, fun as n1 F1 H1 vs ⟨hl, hx⟩ g1 s1 d1 w1 => by
    have b1 := r.b.step g1 s1 d1
    exact ⟨Z.δ, F1, as, n1, _, hl, w1, s1, d1, b1.dkF, hx, fun d n2 F2 H2 v h2 g2 s2 d2 w2 => k _ _ _ _ _ h2 (g1.trans g2) s2 d2 w2⟩⟩
def startR (N : List Str) (as : List Dv) : Rho := as.map some ++ List.replicate (N.length - as.length) none
theorem Base.gr {K : PySem.W.Frag} {Z : Fx} {F H : Hp} {n : Wo} (h0 : ∀ a, a ∈ Z.δ.own → Z.F0 a = none ∧ Z.H0 a ≠ none) (b : Base K Z F H n) : Gr Z.δ Z.F0 Z.H0 F H :=
  ⟨b.gF, b.gN, b.gH, b.gI, fun a h => b.gD a h⟩
theorem vrs_get {K : PySem.W.Frag} {δ : DkS} {F H : Hp} : ∀ {as : List Dv} {vs : List V} {i : Nat} {x : Dv}, VRs K δ F H as vs → as[i]? = some x → ∃ v, vs[i]? = some v ∧ VR K δ F H x v
  | _, _, i, x, .nil, e => by simp at e
  | _, _, 0, x, .cons a b, e => by
    simp at e; subst e
    exact ⟨_, rfl, a⟩
  | _, _, i + 1, x, .cons a b, e => by
    obtain ⟨v, e1, e2⟩ := vrs_get (i := i) b (by simpa using e)
    exact ⟨v, by simpa using e1, e2⟩
theorem sr_start {K : PySem.W.Frag} {δ : DkS} {F H : Hp} {N : List Str} {as : List Dv} {vs : List V} {n : Wo} (w : VRs K δ F H as vs) (hs : Same F H) (hd : δ.at_ K F H n) (ho : ∀ a, a ∈ δ.own → F a = none ∧ H a ≠ none) : SR ⟨F, H, δ⟩ K ⟨F, H, δ⟩ F H (L2.start N vs) (startR N as) n := by
  have hl : as.length = vs.length := Paired.length w
  have get : ∀ (i : Nat) (x : Dv), (startR N as)[i]? = some (some x) → as[i]? = some x := fun i x e => by
    unfold startR at e
    by_cases hi : i < as.length
    · rw [List.getElem?_append_left (by simpa using hi), List.getElem?_map] at e
      cases q : as[i]? with
      | none => rw [q] at e; cases e
      | some y => rw [q] at e; cases e; rfl
    · rw [List.getElem?_append_right (by simpa using hi), List.getElem?_replicate] at e
      split at e <;> cases e
  refine ⟨⟨hs, hd, ho, Same.refl _, fun _ _ h => h, fun _ _ _ h _ => h, fun _ _ _ _ h => ⟨_, h⟩⟩, rfl, rfl, Gr.refl, by unfold L2.start startR; simp [hl], fun i x e => ?_, fun i j a ds y _ e _ _ _ _ => ?_⟩
  · obtain ⟨v, e1, e2⟩ := vrs_get w (get i x e)
    refine ⟨v, ?_, ?_⟩
    · unfold L2.start
      have hi : i < vs.length := (List.getElem?_eq_some_iff.mp e1).1
      rw [List.getElem?_append_left (by simpa using hi), List.getElem?_map, e1]; rfl
    · cases x with
      | mt ds => exact e2.elim
      | dat d => exact e2
      | vw ds => exact e2
      | deck _ => exact e2
      | md _ _ => exact e2.elim
  · obtain ⟨v, e1, e2⟩ := vrs_get w (get i _ e)
    exact e2.elim
/-- THE RULE for a def: its body over data -/
theorem fnd {P : Program} {w : World} {K : PySem.W.Frag} {mg : Str → Option Value} {base : Heap} {x qual : Str} {st : Stmt} {f : Addr} {fd : FuncData} {N ps : List Str} {k : Nat} (c : DSpec) (F : Fun K x qual st f fd) (S : FnScope N ps (defScope st))
    (hb : ∀ (cdv : Value) (A : Around) (outer : List Env) (s : Shared) (H : Hp), A.guards = some [] → Room k (A.deeper (envOfC qual (defScope st) s.heap.objs.size f cdv)) → ∀ Y : Fx,
      ∃ t, DSs Y (cxOf CX0 P w K mg base N qual (defScope st) f cdv A outer s H E0).nox (defBody st) t ∧ ∀ as n R, as.length = ps.length → c as n R → t { nx := fun _ n' => R .none n', rt := R } (startR N as) n) : FnG P w K mg base (k + 1) f fd ps (spD K ps.length c) := by
  refine fng_of F S (fun vs H Q E ⟨δ, Fz, as, n, R, hl, w1, _⟩ => by rw [← Paired.length w1]; exact hl) fun cdv A outer s H vs Q hgd hr ⟨δ, Fz, as, n, R, hl, w1, s1, d1, o1, hc, hk⟩ => ?_
  obtain ⟨t, h1, h2⟩ := hb cdv A outer s H hgd hr ⟨Fz, H, δ⟩
  refine ⟨_, h1, ⟨Fz, H, δ⟩, Fz, startR N as, n, _, sr_start w1 s1 d1 o1, h2 as n R hl hc, ⟨fun F' H' σ' ρ' n' q r' => hk _ _ _ _ _ q (Base.gr o1 r'.b) r'.b.sub r'.b.dk (by simp [Rp]), fun d n' F' H' v q b q2 => hk _ _ _ _ _ q (Base.gr o1 b) b.sub b.dk q2, fun _ _ _ _ _ q _ => q.elim, fun _ _ _ _ _ q _ => q.elim⟩⟩
end DL
namespace DL
open PySem PySem.Spec PyProof.Rows L2
variable {X : Cx} {Y : Fx}
mutual
def sz : PyData → Nat
  | .none => 4
  | .bool _ => 5
  | .int i => i.natAbs.log2 + 4
  | .str s => 10 * s.length + 2
  | .list ds => szs ds + 3
  | .tuple ds => szs ds + 3
  | .dict kvs => szk kvs + 3
def szs : List PyData → Nat
  | [] => 0
  | d :: ds => sz d + 2 + szs ds
def szk : List (PyData × PyData) → Nat
  | [] => 0
  | (a, b) :: r => sz a + sz b + 4 + szk r
end
theorem slen_append (a b : Str) : (a ++ b).length = a.length + b.length := strLen_append a b
theorem textFrom_le : ∀ (ts : List Str) (k : Nat) (acc : Str), (textFrom k acc ts).length ≤ acc.length + (ts.map fun t => t.length + 2).sum
  | [], k, acc => by show acc.length ≤ _; simp
  | t :: r, k, acc => by
    have h := textFrom_le r (k + 1) (acc ++ (if k > 0 then ", " else "" : String) ++ t)
    have e : (acc ++ (if k > 0 then ", " else "" : String) ++ t).length ≤ acc.length + 2 + t.length := by
      rw [slen_append, slen_append]
      by_cases hk : k > 0
      · rw [if_pos hk]; exact Nat.le_of_eq rfl
      · rw [if_neg hk]; show acc.length + 0 + t.length ≤ _; omega
    show (textFrom (k + 1) (acc ++ (if k > 0 then ", " else "" : String) ++ t) r).length ≤ _
    simp only [List.map_cons, List.sum_cons]
    omega
theorem piled_le (ts : List Str) : piled ts = (ts.map fun t => t.length + 2).sum := by
  unfold piled
  induction ts with
  | nil => rfl
  | cons t r ih => simp [List.map_cons, List.sum_cons] at ih ⊢ <;> omega
theorem join_le (ts : List Str) : (Str.join ", " ts).length ≤ (ts.map fun t => t.length + 2).sum := by
  by_cases h : ts = []
  · subst h; exact Nat.le_refl 0
  · have := join_length_add ts h
    rw [piled_le] at this
    omega
theorem tupleText_le (ts : List Str) : (tupleText ts).length ≤ 3 + (ts.map fun t => t.length + 2).sum := by
  unfold tupleText
  rw [slen_append, slen_append]
  have h := join_le ts
  have h1 : (("(" : String) : Str).length = 1 := rfl
  split
  · have : ((",)" : String) : Str).length = 2 := rfl
    omega
  · have : ((")" : String) : Str).length = 1 := rfl
    omega
theorem listText_le (ts : List Str) : (listText ts).length ≤ 3 + (ts.map fun t => t.length + 2).sum := by
  unfold listText
  rw [slen_append]
  have h := textFrom_le ts 0 "["
  have h1 : (("[" : String) : Str).length = 1 := rfl
  have h2 : (("]" : String) : Str).length = 1 := rfl
  omega
theorem int_text_le (i : Int) : (Str.ofString (toString i)).length ≤ i.natAbs.log2 + 4 := by
  rw [PySem.ofString_length]
  have := PySem.int_text_length_le (a := i) (k := i.natAbs.log2 + 1) (by omega) (by omega)
  omega
mutual
theorem shown_le : ∀ d : PyData, d.canLay0 = true → d.shown.length ≤ sz d
  | .none, _ => by simp only [PyData.shown, sz]; decide
  | .bool b, _ => by cases b <;> (simp only [PyData.shown, sz]; decide)
  | .int i, _ => by simp only [PyData.shown, sz]; exact int_text_le i
  | .str s, h => by
    simp only [PyData.shown, sz]
    simp only [PyData.canLay0, PyData.strOk, Array.all_eq_true'] at h
    exact PySem.StrLaws.reprText_len s fun c hc => by
      have q := h c (by simpa using hc)
      simp at q; omega
  | .list ds, h => by
    simp only [PyData.shown, sz]
    have := shownAll_le ds (by simpa only [PyData.canLay0] using h)
    have := listText_le (PyData.shownAll ds)
    omega
  | .tuple ds, h => by
    simp only [PyData.shown, sz]
    have := shownAll_le ds (by simpa only [PyData.canLay0] using h)
    have := tupleText_le (PyData.shownAll ds)
    omega
  | .dict _, h => by simp [PyData.canLay0] at h
theorem shownAll_le : ∀ ds : List PyData, PyData.canLayAll0 ds = true → ((PyData.shownAll ds).map fun t => t.length + 2).sum ≤ szs ds
  | [], _ => by simp [PyData.shownAll, szs]
  | d :: ds, h => by
    simp only [PyData.canLayAll0, Bool.and_eq_true] at h
    have h1 := shown_le d h.1
    have h2 := shownAll_le ds h.2
    simp only [PyData.shownAll, szs, List.map_cons, List.sum_cons]
    omega
end
/-- what may be shown and compared -/
structure Tame (m k : Nat) (d : PyData) : Prop where
  sh : d.showable = true
  cl : d.canLay0 = true
  dp : d.depth ≤ k
  le : sz d ≤ m
theorem Tame.mono {m k m' k' : Nat} {d : PyData} (h : Tame m k d) (h1 : m ≤ m') (h2 : k ≤ k') : Tame m' k' d := ⟨h.sh, h.cl, Nat.le_trans h.dp h2, Nat.le_trans h.le h1⟩
theorem Tame.shaped {m k : Nat} {d : PyData} (h : Tame m k d) (hk : k ≤ 64) : Sh d := by
  unfold Sh SeqAt.shaped
  rw [Bool.and_eq_true]
  exact ⟨h.cl, decide_eq_true (Nat.le_trans h.dp hk)⟩
theorem tame_int {i : Int} {m : Nat} (h : i.natAbs < 2 ^ m) (hm : m ≤ 1000) (h0 : 0 < m) : Tame (m + 3) 0 (.int i) := by
  have hl : i.natAbs.log2 < m := by
    by_cases q : i.natAbs = 0
    · rw [q]; simpa using h0
    · exact (Nat.log2_lt q).mpr h
  exact ⟨by simp only [PyData.showable]; exact decide_eq_true (by omega), rfl, Nat.zero_le _, by simp only [sz]; omega⟩
theorem tame_str {s : Str} (h : PyData.strOk s = true) : Tame (10 * s.length + 2) 0 (.str s) := ⟨rfl, h, Nat.le_refl _, Nat.le_refl _⟩
theorem canAll {ds : List PyData} (h : ∀ d ∈ ds, d.canLay0 = true) : PyData.canLayAll0 ds = true := by
  induction ds with
  | nil => rfl
  | cons d ds ih => simp only [PyData.canLayAll0, Bool.and_eq_true]; exact ⟨h d (by simp), ih fun e he => h e (by simp [he])⟩
theorem showAll {ds : List PyData} (h : ∀ d ∈ ds, d.showable = true) : PyData.showableAll ds = true := by
  induction ds with
  | nil => rfl
  | cons d ds ih => simp only [PyData.showableAll, Bool.and_eq_true]; exact ⟨h d (by simp), ih fun e he => h e (by simp [he])⟩
theorem depthAll_le {k : Nat} {ds : List PyData} (h : ∀ d ∈ ds, d.depth ≤ k) : PyData.depthAll ds ≤ k := by
  induction ds with
  | nil => exact Nat.zero_le _
  | cons d ds ih => simp only [PyData.depthAll]; exact Nat.max_le.mpr ⟨h d (by simp), ih fun e he => h e (by simp [he])⟩
def tyD : PyData → String
  | .none => "NoneType"
  | .bool _ => "bool"
  | .int _ => "int"
  | .str _ => "str"
  | .list _ => "list"
  | .tuple _ => "tuple"
  | .dict _ => "dict"
def isiB (s t : String) : Bool := s == t || (s == "bool" && t == "int")
theorem tyD_of {K : PySem.W.Frag} {H : Hp} {d : PyData} {v : V} (h : Rp K H d v) (hn : isRefD d = false) : TyX K H v (.type (tyD d)) := by
  cases d <;> simp only [Rp] at h
  case none => subst h; exact .base .non
  case bool => subst h; exact .base (.bl _)
  case int => subst h; exact .base (.int _)
  case str => subst h; exact .base (.str _)
  case list => obtain ⟨a, xs, rfl, h1, _⟩ := h; exact .base (.lst h1)
  case tuple => obtain ⟨a, xs, rfl, h1, _⟩ := h; exact h1.elim (fun h => .base (.tup h)) fun ⟨o, q⟩ => .fTuple q
  case dict =>
    rcases h with ⟨a, xs, rfl, h1, _⟩ | ⟨a, e, rfl⟩ | ⟨_, _, _, e, _⟩
    · exact .base (.dK h1)
    · rw [e] at hn; cases hn
    · rw [e] at hn; cases hn
def isTy (t : String) : Prop := t = "int" ∨ t = "bool" ∨ t = "str" ∨ t = "tuple" ∨ t = "list"
theorem kit_isi {K : PySem.W.Frag} {t : String} (h : isTy t) (d : PyData) : PySem.W.kitOne K (.type (tyD d)) (.type t) = some (isiB (tyD d) t) := by
  rcases h with rfl | rfl | rfl | rfl | rfl <;> cases d <;> (simp only [tyD]; exact kit_ty (by decide +kernel))
def isDR (x : Dv) : Bool := x.isDk || isRefD x.toD
theorem isDR_dk {x : Dv} (h : isDR x = false) : x.isDk = false := (Bool.or_eq_false_iff.mp h).1
theorem isDR_rf {x : Dv} (h : isDR x = false) : isRefD x.toD = false := (Bool.or_eq_false_iff.mp h).2
def oIsi (t : String) (x : Dv) (R : PyData → Prop) : Prop := isDR x = false ∧ R (.bool (isiB (tyD x.toD) t))
theorem we_isi {e : Expr} {t : DTE} {T : String} {y : Str} {p p2 pos : Pos} (hT : isTy T) (hg : Gl X "isinstance") (hm : X.mg "isinstance" = none) (he : WE Y X e t) (hgT : Gl X y) (hmT : X.mg y = none) (hv : bootBuiltins y = some (.type T)) (hn : y ≠ "__name__" := by decide) (hdb : (y == ("__debug__" : Str)) = false := by decide)
    (h1 : starEach [e, .Name y p2] X.env = (false, eval e X.env) :: starEach [.Name y p2] X.env := by rfl) (h2 : starEach [.Name y p2] X.env = (false, eval (.Name y p2) X.env) :: starEach [] X.env := by rfl) (hpl : (backTo pos (starEach [.Name y p2] X.env)).any (·.1) = false := by rfl) :
    WE Y X (.Call (.Name "isinstance" p) [e, .Name y p2] [] pos) (dUn (oIsi T) t) :=
  pe_imp (pe_callB call_isi hg hm PyProof.Rows.boot_isinstance (pa_cons he (pa_cons (pe_bltn (v := .ty T) hgT hmT hv rfl hn hdb) pa_nil h2) h1) (by decide) (by decide) h1 hpl)
    (one (r := fun x H1 Q => rIsi X.K [x, .ty T] H1 Q) fun δ F H x v R Q hs hx ⟨hd, hr⟩ b => ⟨v, .ty T, _, _, _, rfl, .ty T, tyD_of (hx.rp hs (isDR_dk hd)) (isDR_rf hd), kit_isi hT _, b.bl hs hr⟩)
end DL
namespace DL
open PySem PySem.Spec PyProof.Rows L2
variable {X : Cx} {Y : Fx}
section
variable {prog : Program} {w : World} {A : Around} {E : Value → Shared → Prop} {s : Shared} {l : Addr} {its : List Value} {ns : List Int} {xs : Array (Int × Tok)} {Q : Value → Shared → Prop}
theorem iter_tupI {Q : Value → Shared → Prop} (hl : s.heap.IsTuple l (intItems xs))
    (h : ∀ s₂ : Shared, s₂ = { s with heap := s.heap.push { cls := .type "tuple_iterator", data := .fields #[.ref l, .int 0 0] } } →
      (s₂.heap.IsTupleIter s.heap.objs.size l 0 ∧ s₂.heap.IsTuple l (intItems xs)) → (∀ b ∈ [s.heap.objs.size, l], b < s₂.heap.objs.size) → l ≠ s.heap.objs.size → Q (.ref s.heap.objs.size) s₂) :
    wpAny (model prog w) A (pyIter (.ref l)) Q E s := by
  obtain ⟨o, e1, e2⟩ := id hl
  have hlt : l < s.heap.objs.size := Heap.lt_size e1
  refine wpAny_pyIter_tuple hl (h _ rfl ⟨⟨_, Heap.get?_push_size _ rfl, rfl, rfl⟩, ⟨o, Heap.get?_push_of_some _ e1, e2⟩⟩ (fun b hb => ?_) (Nat.ne_of_lt hlt))
  have hsz : ∀ (o : Obj), (s.heap.push o).objs.size = s.heap.objs.size + 1 := fun o => Heap.size_push _ _
  rw [hsz]
  rcases List.mem_cons.mp hb with e | hb
  · rw [e]; exact Nat.lt_succ_self _
  · rw [List.mem_singleton.mp hb]; exact Nat.lt_succ_of_lt hlt
theorem kept_tup {h' : Heap} (hk : ∀ b o, b ∉ [s.heap.objs.size] → (s.heap.push { cls := .type "tuple_iterator", data := .fields #[.ref l, .int 0 0] }).get? b = some o → h'.get? b = some o) :
    ∀ b o, s.heap.get? b = some o → h'.get? b = some o := fun b o e => by
  refine hk b o (fun hm => ?_) (Heap.get?_push_of_some _ e)
  have q := Heap.lt_size e
  rw [List.mem_singleton.mp hm] at q
  exact absurd q (Nat.lt_irrefl _)
theorem max_tupI (hh : A.handled = none) (hl : s.heap.IsTuple l its.toArray) (hi : IntsAre its ns) (hne : 0 < ns.length)
    (h : ∀ h' tk M t', (∀ b o, s.heap.get? b = some o → h'.get? b = some o) → M ∈ ns → (∀ a, a ∈ ns → a ≤ M) → Q (.int M t') { s with heap := h', toks := tk }) : wpAny (model prog w) A (call (.builtin "max") [.ref l]) Q E s := by
  obtain ⟨xs, e⟩ := hi.allInts.items
  have hn : numsOf (intItems xs).toList = ns := by rw [← e]; exact hi.numsOf
  rw [nums_intItems] at hn
  subst hn
  rw [e] at hl
  have hsz : 0 < xs.size := by simpa using hne
  refine call_max_walk (iter_tupI hl fun s₂ e st hfp hlI => ?_)
  subst e
  refine ⟨_, _, _, _, _, _, _, rfl, Walks.tuple (A := A.in1) hh _ l hlI (intItems xs), st, hfp, by simpa [intItems] using hsz, CmpOf.ints_gt (numAt xs) (fun _ _ => intItems_at), fun v h' tk hP hk => ?_⟩
  have hv : (intItems xs)[argBest (fun i j => decide (numAt xs i > numAt xs j)) (xs.size - 1)]? = some v := by simpa [intItems] using hP
  obtain ⟨t, rfl⟩ := intItems_at hv
  obtain ⟨h1, h2⟩ := argBest_gt (numAt xs) (xs.size - 1)
  refine h h' tk _ t (kept_tup hk) ?_ fun a ha => ?_
  · rw [numAt_eq]; exact PySem.getD_mem (by rw [List.length_map, Array.length_toList]; omega)
  · obtain ⟨j, hj, rfl⟩ := mem_getD ha
    rw [List.length_map, Array.length_toList] at hj
    rw [← numAt_eq]; exact h2 j (by omega)
end
section
def rBest (ge : Int → Int → Prop) (H : Hp) (vs : List V) (Q : VK) : Prop := ∃ (a : Addr) (ns : List Int), vs = [V.ref a] ∧ (H a = some (.lst (ns.map V.int)) ∨ Rd H a (.tup (ns.map V.int))) ∧ 0 < ns.length ∧ ∀ m, m ∈ ns → (∀ y, y ∈ ns → ge m y) → Q (.int m) H
def rMax2 (H : Hp) (vs : List V) (Q : VK) : Prop := (∃ i j, vs = [V.int i, V.int j] ∧ Q (.int (if j > i then j else i)) H) ∨ rBest (fun m y => y ≤ m) H vs Q
theorem call_maxA (hc : X.calm = true) : CallR X (.builtin "max") (fun vs H Q => rMax2 H vs Q) := by
  refine CallR.or (call_max2 hc) ?_
  intro pins s σ H vs us Q I r ⟨a, ns, e, hs, hne, q⟩
  subst e
  rw [Vals.ref1 r]
  rcases hs with hs | hs
  · obtain ⟨its, rv, hl, _⟩ := I.list (SqL.of hs)
    exact max_raw (I.ok.hd hc) hl.isList rv.ints hne fun h' tk m t' hk h1 h2 => ⟨.int _, H, I.kept hk, ⟨_, rfl⟩, q m h1 h2⟩
  · obtain ⟨its, rv, hl, _⟩ := I.tuple (sqtR hs)
    exact max_tupI (I.ok.hd hc) (show s.heap.IsTuple a its.toArray from hl) rv.ints hne fun h' tk m t' hk h1 h2 => ⟨.int _, H, I.kept hk, ⟨_, rfl⟩, q m h1 h2⟩
variable {K : PySem.W.Frag}
theorem seq_ints {δ : DkS} {F H : Hp} {x : Dv} {v : V} {ns : List Int} (hs : Same F H) (h : VR K δ F H x v) (e : seqD x.toD = some (ns.map .int)) : ∃ a, v = .ref a ∧ (H a = some (.lst (ns.map V.int)) ∨ Rd H a (.tup (ns.map V.int))) := by
  obtain ⟨a, us, rfl, h2, h3⟩ := h.seq hs e
  rw [h3.ints] at h2
  exact ⟨a, rfl, h2⟩
def oMax : DC := fun xs R => match xs with
  | [.dat (.int i), .dat (.int j)] => R (.int (if j > i then j else i))
  | [x] => ∃ ns : List Int, seqD x.toD = some (ns.map .int) ∧ 0 < ns.length ∧ ∀ m, m ∈ ns → (∀ y, y ∈ ns → y ≤ m) → R (.int m)
  | _ => False
theorem ck_max : CallOk K (fun vs H Q => rMax2 H vs Q) oMax := fun δ F H xs vs R Q hs hv h b => by
  unfold oMax at h
  split at h
  · exact .inl ⟨_, _, vrs2 hv, b.int hs h⟩
  · obtain ⟨ns, e2, hne, hr⟩ := h
    obtain ⟨v, rfl, h1⟩ := vr1 hv
    obtain ⟨a, rfl, h2⟩ := seq_ints hs h1 e2
    exact .inr ⟨a, ns, rfl, h2, hne, fun m k1 k2 => b.int hs (hr m k1 k2)⟩
  · exact h.elim
end
def oEqA (neg : Bool) : D2 := fun x y R =>
  match x.toD, y.toD with
  | .str s, .str t => R (.bool (if neg then !decide (s = t) else decide (s = t)))
  | d, e => x.isDk = false ∧ y.isDk = false ∧ Sh d ∧ Sh e ∧ R (.bool (if neg then !PyData.eqv d e else PyData.eqv d e))
theorem or_eqA (hu : X.A.units + 64 < cLine) : OpR X (compareOp .Eq) (fun x y H Q => rEqD X.K x y H Q ∨ rEq x y H Q) := OpR.or (op_eqD hu) op_eq
theorem or_neA (hu : X.A.units + 64 < cLine) : OpR X (compareOp .NotEq) (fun x y H Q => rNeD X.K x y H Q ∨ rNe x y H Q) := OpR.or (op_neD hu) op_ne
section
variable {K : PySem.W.Frag}
theorem VR.str {δ : DkS} {F H : Hp} {x : Dv} {v : V} {s : Str} (hs : Same F H) (h : VR K δ F H x v) (e : x.toD = .str s) : v = .str s := by
  have r := h.rp hs (notDeck_of e nofun)
  rw [e] at r
  simpa only [Rp] using r
theorem bi_eqA : BinOk K (fun x y H Q => rEqD K x y H Q ∨ rEq x y H Q) (oEqA false) := fun δ F H x y v u R Q hs hx hy h b => by
  unfold oEqA at h
  split at h
  · rename_i s t e1 e2
    have r1 := hx.str hs e1; have r2 := hy.str hs e2
    subst r1 r2
    refine .inr ⟨rfl, b.bl hs ?_⟩
    have e : decide (V.str s = V.str t) = decide (s = t) := by
      by_cases q : s = t
      · subst q; simp
      · rw [decide_eq_false q, decide_eq_false fun z => q (V.str.inj z)]
    rw [e]; exact h
  · exact .inl (bi_eq δ F H x y v u R Q hs hx hy h b)
theorem bi_neA : BinOk K (fun x y H Q => rNeD K x y H Q ∨ rNe x y H Q) (oEqA true) := fun δ F H x y v u R Q hs hx hy h b => by
  unfold oEqA at h
  split at h
  · rename_i s t e1 e2
    have r1 := hx.str hs e1; have r2 := hy.str hs e2
    subst r1 r2
    refine .inr ⟨rfl, b.bl hs ?_⟩
    have e : decide (V.str s = V.str t) = decide (s = t) := by
      by_cases q : s = t
      · subst q; simp
      · rw [decide_eq_false q, decide_eq_false fun z => q (V.str.inj z)]
    rw [e]; exact h
  · exact .inl (bi_ne δ F H x y v u R Q hs hx hy h b)
end
end DL
namespace DL
open PySem PySem.Spec PyProof.Rows L2
/-- at the law's entry only the script may be tracked, as a thing that nobody writes -/
def entryH (K : PySem.W.Frag) (a : Addr) (o : Obj) (vs : List V) : Hp := fun b => if b = a ∧ K.lookup a = none then some (.frz o (.lst vs)) else none
theorem entry_some {K : PySem.W.Frag} {a b : Addr} {o : Obj} {vs : List V} {u : HO} (h : entryH K a o vs b = some u) : b = a ∧ K.lookup a = none ∧ u = .frz o (.lst vs) := by
  unfold entryH at h
  by_cases q : b = a ∧ K.lookup a = none
  · rw [if_pos q] at h; cases h; exact ⟨q.1, q.2, rfl⟩
  · rw [if_neg q] at h; cases h
theorem entry_none {K : PySem.W.Frag} {a b : Addr} {o : Obj} {vs : List V} (h : b ≠ a) : entryH K a o vs b = none := if_neg fun q => h q.1
def spLaw (K : PySem.W.Frag) : Sp := fun vs H Q _ => ∃ (a : Addr) (ns : List Int), vs = [.ref a] ∧ SqL K H a (ns.map V.int) ∧ ns.length ≤ 63 ∧ (∀ b, H b = none ∨ ∃ o xs, H b = some (.frz o (.lst xs))) ∧ ∀ H', Q (.bl true) H'
theorem law_g {P : Program} {w : World} {K : PySem.W.Frag} {mg mb : Str → Option Value} {k : Nat} {fa a : Addr} {fd : FuncData} {x : Str} {s₁ : Shared} {vs : List Value} {ns : List Int}
    (KX : K.In s₁.heap) (hns : s₁.heap.Ns mainGlobals mg) (hb : s₁.heap.Ns builtinsNs mb) (hbb : ∀ x : Str, x ≠ "__name__" → mb x = bootBuiltins x) (hlim : s₁.heap.NoLimit) (hg : s₁.gens = #[])
    (ha : s₁.heap.get? a = some { cls := .type "list", data := .seq vs.toArray }) (hi : IntsAre vs ns) (hl : ns.length ≤ 63) (hr : Room k callerA)
    (F : ∀ base : Heap, K.In base → base.Ns mainGlobals mg → FnG P w K mg base k fa fd [x] (spLaw K)) (hbind : ∀ (s : Shared) (u : Value), BindsTo s fd ⟨[u], []⟩ [(x, u)]) :
    codeAny (model P w) callerA (.call (.ref fa) ⟨[.ref a], []⟩) (fun r s' => r = .ok (.ret (.bool true)) ∧ PySem.OldK s₁.heap s'.heap ∧ s'.os = s₁.os ∧ AllBare s'.gens) s₁ := by
  let ob : Obj := { cls := .type "list", data := .seq vs.toArray }
  let H := entryH K a ob (ns.map V.int)
  have rv := vals_ints hi
  have hl2 : ns.length ≤ sizeLine := Nat.le_trans hl (by decide)
  have only : ∀ b, H b = none ∨ ∃ o xs, H b = some (.frz o (.lst xs)) := fun b => by
    cases q : H b with
    | none => exact .inl rfl
    | some u => obtain ⟨_, _, rfl⟩ := entry_some q; exact .inr ⟨_, _, rfl⟩
  have script : SqL K H a (ns.map V.int) := by
    cases q : K.lookup a with
    | none => exact .inl (.inr ⟨ob, if_pos ⟨rfl, q⟩⟩)
    | some o =>
      have e := KX a o q
      rw [ha] at e
      cases e
      exact .inr ⟨_, vs.toArray, _, q, rfl, rfl, rfl, by rw [List.size_toArray, hi.length]; exact hl2, by simpa using rv⟩
  have hok : HOk P w H s₁.heap := fun b u q => by
    obtain ⟨rfl, _, rfl⟩ := entry_some q
    exact ⟨ha, by rw [List.length_map]; exact hl2, vs, _, rv, ha⟩
  have keepB : ∀ {b : Addr} {o : Obj}, s₁.heap.get? b = some o → H b = none → (hidT s₁.heap H).get? b = some o := fun e n => hidT_get e n
  have keepN : ∀ {b : Addr} {m : Str → Option Value}, s₁.heap.Ns b m → (hidT s₁.heap H).Ns b m := fun {b m} ⟨o, es, ep, e, d, r⟩ => by
    refine ⟨o, es, ep, keepB e (entry_none fun q => ?_), d, r⟩
    subst q
    rw [ha] at e; cases e; cases d
  have keepK : K.In (hidT s₁.heap H) := fun b o e => keepB (KX b o e) (by
    cases q : H b with
    | none => rfl
    | some u =>
      obtain ⟨rfl, q2, _⟩ := entry_some q
      rw [q2] at e; cases e)
  have lim2 : (hidT s₁.heap H).NoLimit := by
    obtain ⟨mc, h1, h2⟩ := hlim
    exact ⟨mc, keepN h1, h2⟩
  have e0 : Env0 P w K mg (hidT s₁.heap H) callerA [] s₁ H := by
    refine ⟨rfl, ⟨keepK, keepN hns, ⟨mb, keepN hb, hbb⟩, lim2⟩, fun b o e => of_hidT e, Nat.le_of_eq (hidT_size _ _), trivial, fun b hm => ?_, hok, .of_eq hg⟩
    exact absurd (show b ∈ ([] : List Addr) from hm) (by simp)
  have run := (F _ keepK (keepN hns)).run callerA [] s₁ H ⟨[.ref a], []⟩ [.ref a] [.ref a] (fun v _ => v = .bl true) rfl hr e0 (hbind s₁ (.ref a)) (.cons rfl .nil) ⟨a, ns, rfl, script, hl, only, fun _ => rfl⟩
  refine codeAny_mono run fun r s' h => ?_
  match r, h with
  | .ok (.ret u), ⟨v, H', os, bare, un, hok', r', q⟩ =>
    have q' : v = .bl true := q
    subst q'
    obtain rfl : u = Value.bool true := r'
    refine ⟨rfl, PySem.OldK.of_keep fun b o e => ?_, os, bare⟩
    cases q : H b with
    | none => exact un.keep b o e q (fun z => absurd (show b ∈ ([] : List Addr) from z) (by simp)) (by simp)
    | some u =>
      obtain ⟨rfl, _, rfl⟩ := entry_some q
      have e2 := (hok' b _ (un.frzs b _ _ q)).1
      rw [ha] at e; cases e
      exact e2
/-- the goal that the head leaves -/
theorem walk_g {l : PySem.W.OpenLaw} {k : Nat} {q : Program} {loose : List Str} {XP : (Str → Option Value) → Heap → Prop} {YP : World → Heap → Prop} {d : DefRec} {K : Params → PySem.W.Frag} {x : Str}
    (hn : l.most = some 63) (hdf : d.params.defaults = []) (hr : Room k callerA) (hY : ∀ (w : World) (h : Heap), YP w h → (K w.params).In h)
    (F : ∀ (w : World) (mg : Str → Option Value) (fa : Addr) (h : Heap), (K w.params).In h → h.Ns mainGlobals mg → mg d.name = some (.ref fa) →
      ∃ fd : FuncData, (∀ (s : Shared) (u : Value), BindsTo s fd ⟨[u], []⟩ [(x, u)]) ∧ ∀ base : Heap, (K w.params).In base → base.Ns mainGlobals mg → FnG l.prog w (K w.params) mg base k fa fd [x] (spLaw (K w.params))) :
    PySem.W.WalkO q loose XP YP l.row.toRowW d [] (fun f vs => PySem.call f vs) :=
  Att.attach_call hn hdf fun w s₀ s₁ mg mb fa o pm cd doc a vs ns G Y ho hd hcd hmg hobj hints hlen hg => by
    have KX := hY w _ Y
    obtain ⟨fd, hb, hF⟩ := F w mg fa _ KX G.T.g hmg
    exact law_g KX G.T.g G.T.b G.T.builtins G.T.nolimit hg hobj hints hlen hr hF hb
end DL
namespace DL
open PySem PySem.Spec PyProof.Rows L2
variable {X : Cx} {Y : Fx}
def oNeg (x : Dv) (R : PyData → Prop) : Prop :=
  match x with
  | .dat (.int i) => R (.int (-i))
  | _ => False
theorem we_neg {a : Expr} {t : DTE} {pos : Pos} (ha : WE Y X a t) : WE Y X (.UnaryOp .USub a pos) (dUn oNeg t) :=
  pe_imp (pe_un un_neg ha) (one (r := fun x H1 Q => rU (fun i => .int (-i)) x H1 Q) fun δ F H x v R Q hs hx h b => by
    unfold oNeg at h
    split at h
    · simp only [VR, Rp] at hx
      exact ⟨_, hx, b.int hs h⟩
    · exact h.elim)
/-- a loop over a list or a tuple -/
theorem pi_seq {tg l : Expr} {tl : TE} (hl : PE X l tl) : PI X tg l (fun σ H R => tl σ H fun x H1 => ∃ a, x = .ref a ∧ ((∃ xs, H1 a = some (.lst xs) ∧ R (Itl X.K a) H1) ∨ ∃ xs, Rd H1 a (.tup xs) ∧ R (Itt X.K a) H1)) :=
  ⟨fun pins s σ H R I h => thn (hl.run pins s σ H _ I h) fun v s1 ⟨x, H1, I1, r1, a, e, q⟩ => by
    subst e
    cases r1
    have fresh : ∀ b ∈ [s1.heap.objs.size], FpOk X pins H1 b := fun b hb => by
      rw [List.mem_singleton.mp hb]
      exact I1.fpOk (Nat.le_refl _) (I1.hok.fresh (Nat.le_refl _))
    rcases q with ⟨xs, hq, q⟩ | ⟨xs, hq, q⟩
    · obtain ⟨its, rv, p, hz⟩ := I1.list (SqL.of hq)
      exact wpAny_pyIter_list p.isList ⟨_, [s1.heap.objs.size], _, _, H1, rfl, I1.kept (t' := s1.toks) fun b o e => Heap.get?_push_of_some _ e, turn_list a _, ⟨_, Heap.get?_push_size _ rfl, rfl, rfl⟩, fresh, q⟩
    · obtain ⟨its, rv, p, hz⟩ := I1.tuple (sqtR hq)
      exact wpAny_pyIter_tuple (show s1.heap.IsTuple a its.toArray from p) ⟨_, [s1.heap.objs.size], _, _, H1, rfl, I1.kept (t' := s1.toks) fun b o e => Heap.get?_push_of_some _ e, turn_tuple a _, ⟨_, Heap.get?_push_size _ rfl, rfl, rfl⟩, fresh, q⟩⟩
def dSrcS (t : DTE) : DSrc := fun ρ n R => t ρ n fun x n' => needD x fun d => ∃ ds, seqD d = some ds ∧ R ds n'
theorem di_seq {tg e : Expr} {t : DTE} (he : WE Y X e t) : DI Y X tg e (dSrcS t) := pi_imp (pi_seq he) fun σ H R ⟨Z, F, ρ, n, Q, r, ht, k⟩ =>
  ⟨Z, F, ρ, n, _, r, ht, fun x n1 F1 H1 v hx g1 s1 d1 w1 => by
    obtain ⟨d, rfl, hx⟩ := needD_is hx
    obtain ⟨ds, e, hx2⟩ : ∃ ds, seqD d = some ds ∧ _ := hx
    cases d with
    | list es =>
      cases e
      simp only [VR, Rp] at w1
      obtain ⟨a, vs, rfl, h1, h2⟩ := w1
      exact ⟨a, rfl, .inl ⟨vs, s1 _ _ h1, k _ _ _ _ _ hx2 g1 s1 d1 (itOk_list h1 h2)⟩⟩
    | tuple es =>
      cases e
      simp only [VR, Rp] at w1
      obtain ⟨a, vs, rfl, h1, h2⟩ := w1
      exact ⟨a, rfl, .inr ⟨vs, rdS s1 h1, k _ _ _ _ _ hx2 g1 s1 d1 (itOk_tup h1 h2)⟩⟩
    | _ => cases e⟩
def Has (P : Program) (w : World) (K : PySem.W.Frag) (mg : Str → Option Value) (base : Heap) (x : Str) (k : Nat) (ps : List Str) (c : DSpec) : Prop :=
  ∃ f fd, mg x = some (.ref f) ∧ PySem.W.keepIn K (.ref f) = true ∧ Binds K fd ps [] ∧ FnG P w K mg base k f fd ps (spD K ps.length c)
theorem we_has {k : Nat} {c : DSpec} {ps : List Str} {x : Str} {p pos : Pos} {e : Expr} {es : List Expr} {t : DTA} (h : Has X.prog X.w X.K X.mg X.base x k ps c) (hgd : X.A.guards = some []) (hr : Room k X.A) (hg : Gl X x)
    (ha : WA Y X (e :: es) t) (hdb : (x == ("__debug__" : Str)) = false := by decide) (he : starEach (e :: es) X.env = (false, eval e X.env) :: starEach es X.env := by rfl) (hpl : (backTo pos (starEach es X.env)).any (·.1) = false := by rfl) :
    WE Y X (.Call (.Name x p) (e :: es) [] pos) (dFn ps.length c t) := by
  obtain ⟨f, fd, h1, h2, h3, h4⟩ := h
  exact we_fn h4 hgd hr hg h1 h2 h3 ha hdb he hpl
theorem compR_fm {α : Type} (xs : List α) (enc : α → PyData) (p : α → Bool) (f : α → PyData) {n : Wo} {step : CStep} {R : List PyData → Wo → Prop} (hz : xs.length < sizeLine)
    (h : ∀ x ∈ xs, ∀ acc K, acc.length < sizeLine → K (if p x = true then acc ++ [f x] else acc) n → step (enc x) acc n K) (hR : R ((xs.filter p).map f) n) : CompR (xs.map enc) n step R := by
  refine ⟨fun k acc m => m = n ∧ acc = ((xs.take k).filter p).map f, ⟨rfl, rfl⟩, ?_, ?_⟩
  · rintro k x acc m hx ⟨rfl, rfl⟩
    rw [List.getElem?_map] at hx
    obtain ⟨z, hz2, rfl⟩ := Option.map_eq_some_iff.mp hx
    have hk : k < xs.length := (List.getElem?_eq_some_iff.mp hz2).1
    refine h z (List.mem_of_getElem? hz2) _ _ ?_ ⟨rfl, ?_⟩
    · rw [List.length_map]
      have := List.length_filter_le p (xs.take k)
      rw [List.length_take] at this
      omega
    · have e : xs.take (k + 1) = xs.take k ++ [z] := by
        rw [List.take_add_one, hz2]; rfl
      rw [e, List.filter_append, List.map_append]
      cases q : p z <;> simp [q]
  · rintro acc m ⟨rfl, rfl⟩
    rw [List.length_map, List.take_length]
    exact hR
theorem forR_inv {xs : List PyData} {ρ : Rho} {n : Wo} {step : FStep} {Q : Rho → Wo → Prop} (I : Nat → Rho → Wo → Prop) (h0 : I 0 ρ n) (hs : ∀ (k : Nat) x ρ' n', xs[k]? = some x → I k ρ' n' → step x ρ' n' (I (k + 1))) (he : ∀ ρ' n', I xs.length ρ' n' → Q ρ' n') : ForR xs ρ n step Q := ⟨I, h0, hs, he⟩
end DL
namespace DL
open PySem PySem.Spec PyProof.Rows L2
variable {X : Cx} {Y : Fx}
def dCut (t u : DTS) : DTS := fun E ρ n => ∃ J : Rho → Wo → Prop, t { E with nx := J } ρ n ∧ ∀ ρ' n', J ρ' n' → u E ρ' n'
theorem dss_cut {st : Stmt} {rest : List Stmt} {t u : DTS} (h1 : DS Y X st t) (h2 : DSs Y X rest u) : DSs Y X (st :: rest) (dCut t u) :=
  pss_imp (pss_cons h1 h2) fun D σ H ⟨Z, F, ρ, n, E, r, ⟨J, ht, hJ⟩, k⟩ => ⟨Z, F, ρ, n, _, r, ht, ⟨fun F' H' σ' ρ' n' h r' => ⟨Z, F', ρ', n', E, r', hJ _ _ h, k⟩, k.rt, k.bk, k.ct⟩⟩
theorem compR_m {α : Type} (xs : List α) (enc : α → PyData) (f : α → PyData) {n : Wo} {step : CStep} {R : List PyData → Wo → Prop} (hz : xs.length < sizeLine)
    (h : ∀ x ∈ xs, ∀ acc K, acc.length < sizeLine → K (acc ++ [f x]) n → step (enc x) acc n K) (hR : R (xs.map f) n) : CompR (xs.map enc) n step R :=
  compR_fm xs enc (fun _ => true) f hz (fun x hx acc K ha hK => h x hx acc K ha (by simpa using hK)) (by rwa [List.filter_eq_self.mpr (fun _ _ => rfl)])
theorem atI_mem {α : Type} {xs : List α} {i : Int} (h0 : 0 ≤ i) (h1 : i < xs.length) : ∃ d, atI xs i = some d ∧ d ∈ xs := by
  have hi : i.toNat < xs.length := by omega
  refine ⟨xs[i.toNat], ?_, List.getElem_mem _⟩
  unfold atI ixN
  rw [if_pos h0, if_pos h1]
  simp [hi]
theorem rngD_mem {lo : Int} {n : Nat} {k : Nat} {x : PyData} (h : (rngD lo n)[k]? = some x) : x = .int (lo + (k : Int)) ∧ k < n := rngD_get h
theorem line1000 {n : Nat} (h : n ≤ 1000) : n ≤ sizeLine := Nat.le_trans h (by decide)
def Wo.z : Wo := ⟨0, fun _ => none, fun _ => none⟩
theorem pss_any {α : Type} {X : Cx} {st : List Stmt} {t : α → TS} (h : ∀ a, PSs X st (t a)) : PSs X st (fun D σ H => ∃ a, t a D σ H) := ⟨fun p s σ H D I ⟨a, w⟩ => (h a).run p s σ H D I w⟩
section
variable {P : Program} {w : World} {K : PySem.W.Frag} {mg : Str → Option Value} {base : Heap}
theorem law_start {N : List Str} {kd : Bool} {st1 : Stmt} {rest : List Stmt} {sLaw : Stmt} {f : Addr} {fd : FuncData} {k m : Nat} {spD0 : PySem.W.Frag → Sp}
    (F : Fun K "law" "law" sLaw f fd) (S : FnScope N ["script"] (defScope sLaw)) (hbody : defBody sLaw = st1 :: rest) (hN : N.length = m + 2)
    (hsp : ∀ (a : Addr) (ns : List Int) (H : Hp) (Q : VK), SqL K H a (ns.map V.int) → ns.length ≤ 63 → (∀ (H' : Hp) (δ : DkS) (p : Addr), Same H H' → IsDk kd δ p → δ.at0 H' 0 → (∀ b, b ∈ δ.own → H' b ≠ none) → Q (.ref p) H') → spD0 K [.ref a] H Q E0)
    (h : ∀ (cdv : Value) (A : Around) (outer : List Env) (s : Shared) (H : Hp), A.guards = some [] → Room k (A.deeper (envOfC "law" (defScope sLaw) s.heap.objs.size f cdv)) →
      PS (cxOf CX0 P w K mg base N "law" (defScope sLaw) f cdv A outer s H E0).nox st1 (tAsg (fun σ H Q => tCons (tVar 0) tNil σ H fun vs H1 => spD0 K vs H1 Q E0) (gName 1)) ∧
      ∀ Y : Fx, ∃ t, DSs Y (cxOf CX0 P w K mg base N "law" (defScope sLaw) f cdv A outer s H E0).nox rest t ∧ t { nx := fun _ _ => False, rt := fun d _ => d = .bool true } (none :: some (.deck kd) :: List.replicate m none) Wo.z) :
    FnG P w K mg base (k + 1) f fd ["script"] (spLaw K) := by
  refine fng_of F S (fun vs H Q E ⟨a, ns, e, _⟩ => by rw [e]; rfl) fun cdv A outer s H vs Q hgd hr ⟨a, ns, e, hS, hlen, _, hk⟩ => ?_
  subst e
  obtain ⟨h1, h0⟩ := h cdv A outer s H hgd hr
  rw [hbody]
  refine ⟨_, pss_cons h1 (pss_any fun Y => (h0 Y).choose_spec.1), ?_⟩
  have hst : L2.start N [V.ref a] = some (.ref a) :: none :: List.replicate m none := by
    unfold L2.start
    rw [hN]
    rfl
  refine ⟨.ref a, by rw [hst]; rfl, hsp a ns H _ hS hlen fun H' δ p hs hd hat hne => ?_⟩
  refine ⟨⟨fun _ => none, H', δ⟩, ?_⟩
  obtain ⟨h2, h3⟩ := (h0 ⟨fun _ => none, H', δ⟩).choose_spec
  refine ⟨⟨fun _ => none, H', δ⟩, fun _ => none, none :: some (.deck kd) :: List.replicate m none, Wo.z, _, ⟨⟨fun _ _ q => (by cases q), ⟨hat, fun _ _ e => (nomatch e), fun _ _ e => (nomatch e)⟩, fun b hb => ⟨rfl, hne b hb⟩, Same.refl _, fun _ _ q => q, fun _ _ _ q _ => q, fun _ _ _ _ q => ⟨_, q⟩⟩, rfl, rfl, Gr.refl, ?_, fun i x q => ?_, fun i j b ds y _ q _ _ _ _ => ?_⟩, h3, ⟨fun _ _ _ _ _ q _ => q.elim, fun d n' F2 H2 v q _ r => ?_, fun _ _ _ _ _ q _ => q.elim, fun _ _ _ _ _ q _ => q.elim⟩⟩
  · rw [hst]; simp
  · rw [hst]
    have rep : ∀ (j : Nat) (z : Dv), (List.replicate m (none : Option Dv))[j]? ≠ some (some z) := fun j z e => by
      rw [List.getElem?_replicate] at e
      split at e <;> cases e
    match i, q with
    | 1, q => cases q; exact ⟨.ref p, rfl, p, rfl, hd⟩
    | j + 2, q => exact absurd q (rep j x)
  · have rep : ∀ (j : Nat) (z : Dv), (List.replicate m (none : Option Dv))[j]? ≠ some (some z) := fun j z e => by
      rw [List.getElem?_replicate] at e
      split at e <;> cases e
    match i, q with
    | j + 2, q => exact absurd q (rep j _)
  · have q' : d = .bool true := q
    subst q'
    simp only [Rp] at r
    subst r
    exact hk _
end
end DL
namespace DL
open PySem PySem.Spec PyProof.Rows L2
variable {X : Cx} {Y : Fx}
theorem Rps.erase {K : PySem.W.Frag} {F : Hp} : ∀ {ds : List PyData} {vs : List V} (j : Nat), Rps K F ds vs → Rps K F (ds.eraseIdx j) (vs.eraseIdx j)
  | [], _, _, h => by simp only [Rps] at h; subst h; simp [Rps]
  | d :: ds, _, 0, h => by
    simp only [Rps] at h
    obtain ⟨v, r, rfl, h1, h2⟩ := h
    exact h2
  | d :: ds, _, j + 1, h => by
    simp only [Rps] at h
    obtain ⟨v, r, rfl, h1, h2⟩ := h
    exact rps_cons h1 (Rps.erase j h2)
theorem seqIx {z : Int} {n : Nat} (h0 : 0 ≤ z) (h1 : z < n) : seqIndex? z n = some z.toNat := by
  unfold seqIndex?
  have e : ¬ z < 0 := by omega
  simp only [e, if_false]
  rw [if_pos (by simp; exact ⟨h0, h1⟩)]
def prD (p : Int × Int) : PyData := .tuple [.int p.1, .int p.2]
end DL
namespace DL
open PySem PySem.Spec PyProof.Rows L2
variable {X : Cx} {Y : Fx}
structure ItOkV (K : PySem.W.Frag) (δ : DkS) (J : It) (F1 H1 : Hp) (xs : List PyData) : Prop where
  go : ∀ (i : Nat) H, (∀ a o, a ∉ δ.own → H1 a = some o → isIns o = false → H a = some o) → Same F1 H → i < xs.length → J.go i H
  stop : ∀ (i : Nat) H, (∀ a o, a ∉ δ.own → H1 a = some o → isIns o = false → H a = some o) → Same F1 H → xs.length ≤ i → J.stop i H
  yld : ∀ (i : Nat) H v H' x, J.yld i H v H' → (∀ a o, a ∉ δ.own → H1 a = some o → isIns o = false → H a = some o) → ∀ F2, Same F1 F2 → Same F2 H → xs[i]? = some x → ∃ F3, Gp F2 H F3 H' ∧ Same F3 H' ∧ Rp K F3 x v
theorem ItOk.toV {K : PySem.W.Frag} {δ : DkS} {J : It} {F1 H1 : Hp} {xs : List PyData} (h : ItOk K J F1 xs) : ItOkV K δ J F1 H1 xs :=
  ⟨fun i H _ s q => h.go i H s q, fun i H _ s q => h.stop i H s q, fun i H v H' x hy _ F2 s1 s2 hx => h.use s1 s2 hy hx⟩
theorem itOkV_list {K : PySem.W.Frag} {δ : DkS} {F H1 : Hp} {a : Addr} {vs : List V} {ds : List PyData} (h : H1 a = some (.lst vs)) (na : a ∉ δ.own) (r : Rps K F ds vs) : ItOkV K δ (Itl K a) F H1 ds where
  go := fun i H k s hi => ⟨vs, vs[i]'(by rw [← r.length]; exact hi), SqL.of (k _ _ na h rfl), by simp⟩
  stop := fun i H k s hi => ⟨vs, SqL.of (k _ _ na h rfl), by rw [← r.length]; exact hi⟩
  yld := fun i H v H' x ⟨e, y⟩ k F2 s1 s2 hx => by
    have h1 := y vs (SqL.of (k _ _ na h rfl))
    obtain ⟨w, e1, e2⟩ := r.get hx
    rw [h1] at e1; cases e1
    subst e
    exact ⟨F2, Gp.refl, s2, Rp.mono s1 x v e2⟩
def upIv (Y : Fx) (K : PySem.W.Frag) (t : DSrc) : TI := fun σ H R => ∃ Z F ρ n Q, SR Y K Z F H σ ρ n ∧ t ρ n Q ∧
  ∀ xs n' F' H' J, Q xs n' → Gr Z.δ F H F' H' → Same F' H' → Z.δ.at_ K F' H' n' → ItOkV K Z.δ J F' H' xs → R J H'
abbrev DIv (Y : Fx) (X : Cx) (tg iter : Expr) (t : DSrc) : Prop := PI X tg iter (upIv Y X.K t)
def dSrcV (t : DTE) : DSrc := fun ρ n R => t ρ n fun x n' => ∃ ds, seqD x.toD = some ds ∧ R ds n'
theorem di_seqV {tg e : Expr} {t : DTE} (he : WE Y X e t) : DIv Y X tg e (dSrcV t) := pi_imp (pi_seq he) fun σ H R ⟨Z, F, ρ, n, Q, r, ht, k⟩ =>
  ⟨Z, F, ρ, n, _, r, ht, fun x n1 F1 H1 v ⟨ds, e, hx⟩ g1 s1 d1 w1 => by
    cases x with
    | dat d =>
      cases d with
      | list es =>
        cases e
        simp only [VR, Rp] at w1
        obtain ⟨a, vs, rfl, h1, h2⟩ := w1
        exact ⟨a, rfl, .inl ⟨vs, s1 _ _ h1, k _ _ _ _ _ hx g1 s1 d1 (itOk_list h1 h2).toV⟩⟩
      | tuple es =>
        cases e
        simp only [VR, Rp] at w1
        obtain ⟨a, vs, rfl, h1, h2⟩ := w1
        exact ⟨a, rfl, .inr ⟨vs, rdS s1 h1, k _ _ _ _ _ hx g1 s1 d1 (itOk_tup h1 h2).toV⟩⟩
      | _ => cases e
    | vw es =>
      cases e
      obtain ⟨a, vs, rfl, h1, h2, h3⟩ := w1
      exact ⟨a, rfl, .inl ⟨vs, h1, k _ _ _ _ _ hx g1 s1 d1 (itOkV_list h1 h3 h2)⟩⟩
    | mt es => exact w1.elim
    | deck b => cases e
    | md _ _ => exact w1.elim⟩
theorem comp_imv {K : PySem.W.Frag} {s : DSrc} {t : TG} {g : DTG} {sl : List Nat} {tt : DTT} {te : DTE} {vs : List Nat} (hg : GOk K t g sl) (hv : ∀ i ∈ sl, i ∈ vs) : ∀ σ H Q, upM Y K (mComp s g tt te vs) σ H Q → tLc (upIv Y K s) t (upT Y K tt) (up Y K te) vs σ H Q :=
  fun σ H Q ⟨Z, F, ρ, n, R, r, ht, k⟩ => ⟨Z, F, ρ, n, _, r, ht, fun xs n1 F1 H1 J ⟨⟨I, h0, hstep, hend⟩⟩ g1 s1 d1 w1 => by
    have r1 := r.step g1 s1 d1
    intro D hD
    have hD0 : H D = none := by
      cases e : H D with
      | none => rfl
      | some o => exact absurd hD (g1.dH D (by rw [e]; nofun))
    have nD : D ∉ Z.δ.own := fun q => (r1.b.dkF D q).2 hD
    refine ⟨fun i m H2 => m = xs.length - i ∧ i ≤ xs.length ∧ ∃ F2 acc n2 us, Gr Z.δ F1 H1 F2 H2 ∧ Same F2 H2 ∧ Z.δ.at_ K F2 H2 n2 ∧ F2 D = none ∧ H2 D = some (.lst us) ∧ Rps K F2 acc us ∧ I i acc n2, ⟨xs.length, by simp, Nat.zero_le _, ?_⟩, ?_⟩
    · obtain ⟨g2, s2⟩ := Gp.newM (o := .lst []) hD s1
      exact ⟨F1, [], n1, [], g2.gr, s2, g2.dk r1.b, s1.free hD, upd_same, rps_nil, h0⟩
    · rintro i m H2 ⟨rfl, hi, F2, acc, n2, us, g2, s2, d2, f2, hD2, ra, h2⟩
      by_cases hlt : i < xs.length
      · refine .inr ⟨w1.go i H2 g2.kH (g2.sF.trans s2) hlt, fun H' => ∃ F2 acc n2 us, Gr Z.δ F1 H1 F2 H' ∧ Same F2 H' ∧ Z.δ.at_ K F2 H' n2 ∧ F2 D = none ∧ H' D = some (.lst us) ∧ Rps K F2 acc us ∧ I (i + 1) acc n2, fun H' q => ⟨xs.length - (i + 1), by omega, rfl, hlt, q⟩, fun v H3 hy => ?_⟩
        obtain ⟨x, hx⟩ : ∃ x, xs[i]? = some x := ⟨xs[i], by simp [hlt]⟩
        obtain ⟨F3, g3, s3, r3⟩ := w1.yld i H2 v H3 x hy g2.kH F2 g2.sF s2 hx
        have gg3 := g2.trans (g3.gr (δ := Z.δ))
        have r2 := (r1.step g2 s2 d2)
        have d3 := g3.dk r2.b
        have rw3 := (r1.step gg3 s3 d3).wipe vs
        have hD3 : H3 D = some (.lst us) := g3.sH _ _ hD2
        have f3 : F3 D = none := g3.nF D (by rw [hD2]; nofun) f2
        refine hg.im _ _ _ _ _ _ _ _ _ _ _ rw3 r3 (hstep i x acc n2 hx h2) fun σ4 ρ4 h4 r4 hw => ⟨by rw [hw vs hv, wipe_idem], ?_⟩
        refine ⟨Z, F3, ρ4, n2, _, r4, h4, fun b m5 F5 H5 h5 g5 s5 d5 => ?_⟩
        have hD5 : H5 D = some (.lst us) := g5.kH _ _ nD hD3 rfl
        have f5 : F5 D = none := g5.nF D (by rw [hD3]; nofun) f3
        have ra5 : Rps K F5 acc us := Rps.mono (g3.sF.trans g5.sF) acc us ra
        cases b with
        | false => exact ⟨F5, acc, m5, us, gg3.trans g5, s5, d5, f5, hD5, ra5, h5⟩
        | true =>
          refine ⟨Z, F5, ρ4, m5, _, r4.step g5 s5 d5, h5, fun y m6 F6 H6 v6 h6 g6 s6 d6 w6 => ?_⟩
          obtain ⟨d, rfl, hl, h6⟩ := needD_is h6
          have hD6 : H6 D = some (.lst us) := g6.kH _ _ nD hD5 rfl
          have f6 : F6 D = none := g6.nF D (by rw [hD5]; nofun) f5
          have ra6 : Rps K F6 acc us := Rps.mono g6.sF acc us ra5
          refine ⟨us, hD6, by rw [← ra.length]; exact hl, F6, acc ++ [d], m6, us ++ [v6], ?_, ?_, ?_, f6, upd_same, ra6.append (rps_cons w6 rps_nil), h6⟩
          · have gg6 := (gg3.trans g5).trans g6
            exact gg6.chg hD
          · exact fun a o e => by rw [upd_ne (ne_of_none e f6)]; exact s6 _ _ e
          · exact d6.chg nD hD6 rfl
      · have e : i = xs.length := by omega
        subst e
        exact .inl ⟨w1.stop _ H2 g2.kH (g2.sF.trans s2) (Nat.le_refl _), k _ _ _ _ _ _ (hend _ _ h2) (g1.trans g2) s2 d2 hD0 f2 hD2 ra⟩⟩
theorem me_compV {elt tg iter : Expr} {ifs : List Expr} {scope : Scope} {own : List (Str × Nat)} {pos : Pos} {s : DSrc} {t : TG} {g : DTG} {sl : List Nat} {tt : DTT} {te : DTE} (hc : X.calm = true) (hN : X.N.Nodup) (hi : DIv Y X tg iter s) (ok : BlkOk X.N X.env.scope scope own)
    (hk : GOk X.K t g sl) (hg : ∀ (s : Shared) (H : Hp) (C : Addr) (cl : List (Str × Addr)) (fp : List Addr), PG (X.blk s H scope (compEnvC scope cl C X.env) fp) tg t) (ht : ∀ (s : Shared) (H : Hp) (C : Addr) (cl : List (Str × Addr)) (fp : List Addr), WTs Y (X.blk s H scope (compEnvC scope cl C X.env) fp) ifs tt)
    (he : ∀ (s : Shared) (H : Hp) (C : Addr) (cl : List (Str × Addr)) (fp : List Addr), WE Y (X.blk s H scope (compEnvC scope cl C X.env) fp) elt te) (hv : ∀ i ∈ sl, i ∈ own.map (·.2)) (hs : ∀ x, foldedSetIterable iter X.env x = pure x := by intro _; rfl) :
    ME Y X (.ListComp elt [⟨tg, iter, ifs, 0⟩] scope pos) (mComp s g tt te (own.map (·.2))) :=
  pe_imp (pe_lc hc hN hi ok hg ht he hs) (comp_imv hk hv)
end DL
namespace DL
open PySem PySem.Spec PyProof.Rows L2
variable {X : Cx} {Y : Fx}
theorem Rps.dropLast {K : PySem.W.Frag} {F : Hp} {ds : List PyData} {vs : List V} (h : Rps K F ds vs) : Rps K F ds.dropLast vs.dropLast := by
  rw [List.dropLast_eq_take, List.dropLast_eq_take, h.length]
  exact Rps.take _ h
end DL
namespace DL
open PySem PySem.Spec PyProof.Rows L2
variable {X : Cx} {Y : Fx}
def dAppPop (i j : Nat) (t : DTE) : DTS := fun E ρ n => ∃ xs ds, ρ[i]? = some (some (.mt xs)) ∧ ρ[j]? = some (some (.mt ds)) ∧ t ρ n fun x n' => ∃ (z : Int) (k : Nat) (d : PyData), x = .dat (.int z) ∧ (-(2 ^ 63) ≤ z ∧ z < 2 ^ 63) ∧ seqIndex? z ds.length = some k ∧ ds[k]? = some d ∧ xs.length < sizeLine ∧
  E.nx ((ρ.set j (some (.mt (ds.eraseIdx k)))).set i (some (.mt (xs ++ [d])))) n'
theorem ds_appPop {i j : Nat} {o o2 e : Expr} {t : DTE} {apos cpos apos2 cpos2 pos : Pos} (hij : i ≠ j) (ho : PE X o (tVar i)) (ho2 : PE X o2 (tVar j)) (he : WE Y X e t)
    (hbase : attributeBase o "append" X.env (eval o X.env) = eval o X.env := by rfl)
    (hfew : ((backTo cpos (starEach [.Call (.Attribute o2 "pop" apos2) [e] [] cpos2] X.env)).all (fun x => !x.1) && (backToKw cpos (keywordEach [] X.env)).all (fun x => x.1.isSome)
      && decide (([.Call (.Attribute o2 "pop" apos2) [e] [] cpos2] : List Expr).length + ([] : List Keyword).length + (if ([] : List Keyword).isEmpty then 0 else 1) < 30)) = true := by rfl)
    (hline : (apos.endLine == cpos.line) = true := by rfl) (hst : starEach [.Call (.Attribute o2 "pop" apos2) [e] [] cpos2] X.env = (false, eval (.Call (.Attribute o2 "pop" apos2) [e] [] cpos2) X.env) :: starEach [] X.env := by rfl) (hplain : (backTo cpos (starEach [] X.env)).any (·.1) = false := by rfl)
    (hbase2 : attributeBase o2 "pop" X.env (eval o2 X.env) = eval o2 X.env := by rfl)
    (hfew2 : ((backTo cpos2 (starEach [e] X.env)).all (fun x => !x.1) && (backToKw cpos2 (keywordEach [] X.env)).all (fun x => x.1.isSome)
      && decide (([e] : List Expr).length + ([] : List Keyword).length + (if ([] : List Keyword).isEmpty then 0 else 1) < 30)) = true := by rfl)
    (hline2 : (apos2.endLine == cpos2.line) = true := by rfl) (hst2 : starEach [e] X.env = (false, eval e X.env) :: starEach [] X.env := by rfl) (hplain2 : (backTo cpos2 (starEach [] X.env)).any (·.1) = false := by rfl)
    (hs : swapsWith (.Call (.Attribute o "append" apos) [.Call (.Attribute o2 "pop" apos2) [e] [] cpos2] [] cpos) none pos.line X.env = pure false := by rfl) :
    DS Y X (.Expr (.Call (.Attribute o "append" apos) [.Call (.Attribute o2 "pop" apos2) [e] [] cpos2] [] cpos) pos) (dAppPop i j t) :=
  ps_imp (ps_expr (pe_bm PySem.F.plainAttrs_list PySem.F.slot_list_append PySem.F.type_list_append mt_append ho (pa_cons (pe_bm PySem.F.plainAttrs_list PySem.F.slot_list_pop PySem.F.type_list_pop mt_popAt ho2 (pa_cons he pa_nil hst2) hbase2 hfew2 hline2 hst2 hplain2) pa_nil hst) hbase hfew hline hst hplain) hs) fun D σ H ⟨Z, F, ρ, n, E, r, ⟨xs, ds, e1, e2, ht⟩, k⟩ => by
    obtain ⟨b, us, p1, p2, p3⟩ := r.own e1
    obtain ⟨a, vs, q1, q2, q3⟩ := r.own e2
    refine ⟨_, p1, .inl ⟨rfl, us, SqL.of p2⟩, _, q1, .inl ⟨rfl, vs, SqL.of q2⟩, Z, F, ρ, n, _, r, ht, fun x n1 F1 H1 u hx g1 s1 d1 wx => ?_⟩
    obtain ⟨z, kk, d, rfl, hz, hk, hd, hl, hx⟩ := hx
    have r1 := r.step g1 s1 d1
    obtain ⟨a', vs', q5, q6, q7⟩ := r1.own e2
    rw [q1] at q5; cases q5
    obtain ⟨y, hy, ry⟩ := q7.get hd
    simp only [VR, Rp] at wx
    subst wx
    refine ⟨a, vs', z, kk, y, rfl, rfl, q6, hz.1, hz.2, by rw [← q7.length]; exact hk, hy, ?_⟩
    have r2 := r1.mut e2 q1 (q7.erase kk)
    have e1' : (ρ.set j (some (.mt (ds.eraseIdx kk))))[i]? = some (some (.mt xs)) := by rw [List.getElem?_set_ne (Ne.symm hij)]; exact e1
    obtain ⟨b', us', t5, t6, t7⟩ := r2.own e1'
    rw [p1] at t5; cases t5
    exact ⟨b, us', y, rfl, rfl, t6, by rw [← t7.length]; exact hl, k.nx _ _ _ _ _ hx (r2.mut e1' p1 (t7.append (rps_cons ry rps_nil)))⟩
end DL
namespace DL
open PySem PySem.Spec PyProof.Rows L2
variable {X : Cx} {Y : Fx}
theorem Rps.strs {K : PySem.W.Frag} {F : Hp} : ∀ {ss : List Str} {vs : List V}, Rps K F (ss.map PyData.str) vs → vs = ss.map V.str
  | [], _, h => by simpa only [List.map_nil, Rps] using h
  | n :: ss, _, h => by
    simp only [List.map_cons, Rps, Rp] at h
    obtain ⟨v, r, rfl, rfl, h2⟩ := h
    rw [Rps.strs h2]; rfl
end DL
namespace DL
open PySem PySem.Spec PyProof.Rows L2
variable {X : Cx} {Y : Fx}
section
variable {prog : Program} {w : World} {A : Around} {E : Value → Shared → Prop} {s : Shared}
theorem collectT {l : Addr} {vs : List Value} {Q : List Value → Shared → Prop} (hl : s.heap.IsTuple l vs.toArray) (hz : vs.length ≤ sizeLine)
    (h : Q vs { s with heap := (s.heap.push (seqObj "list" #[] 0)).update s.heap.objs.size (Obj.mapSeq (· ++ vs.toArray)) }) : wpAny (model prog w) A (collect (.ref l)) Q E s := by
  obtain ⟨o, ho, hc, n, hd⟩ := id hl
  have hnew : (s.heap.push (seqObj "list" #[] 0)).get? s.heap.objs.size = some (seqObj "list" #[] 0) := Heap.get?_push_size _ rfl
  have hold : (s.heap.push (seqObj "list" #[] 0)).get? l = some o := Heap.get?_push_of_some _ ho
  have tnew : Code.quiet (.builtin "list.__iadd__" ⟨[.ref s.heap.objs.size, .ref l], []⟩) = true := Code.quiet_builtin _ (by decide +kernel)
  have grown := get?_update_seq hnew (· ++ vs.toArray)
  have fit : (#[] ++ vs.toArray : Array Value).size ≤ sizeLine + 1 := by simp only [Array.size_append, List.size_toArray, List.length_nil]; omega
  have back : ((#[] : Array Value) ++ vs.toArray).toList = vs := by simp
  unfold collect
  refine wpAny_bind (wpAny_runValue (codeAny_builtin entry_proto_collect' (wpAny_bind (m := newList []) (wpAny_newList (wpAny_pure ⟨tnew, codeAny_builtin entry_list_iadd' ?_⟩)))))
  show wpAny _ _ (Builtin.List.listExtendWith (.ref s.heap.objs.size) (.ref l) (.ref s.heap.objs.size)) _ _ ({ s with heap := s.heap.push (seqObj "list" #[] 0) } : Shared)
  unfold Builtin.List.listExtendWith
  have two : (Builtin.List.listSameRef (.ref s.heap.objs.size) (.ref l) || (Value.type "tuple" == Value.type "list") || (Value.type "tuple" == Value.type "tuple")) = true := by rw [Bool.or_eq_true]; exact .inr rfl
  refine wpAny_bind (wpAny_typeOf (T := "tuple") ⟨o, hold, hc⟩ ?_)
  rw [if_pos two]
  refine wpAny_bind (listItems_at hold hd (wpAny_bind (listItems_at hnew rfl ?_)))
  have mt0 : ¬ ((!(#[] : Array Value).isEmpty && Builtin.List.listTooLong ((#[] : Array Value).size + vs.toArray.size)) = true) := by simp
  rw [if_neg mt0]
  refine wpAny_bind (listUpdate_at hnew rfl (wpAny_pure ?_) (Nat.zero_le _) fit)
  refine wpAny_bind (m := load s.heap.objs.size) (wpAny_load grown ?_)
  show wpAny _ _ (Pure.pure ((#[] : Array Value) ++ vs.toArray).toList) Q E _
  rw [back]
  exact wpAny_pure h
/-- sorted(t): the collected list at size, the new one behind it -/
theorem sortedT {l : Addr} {vs : List Value} {ltv : Value → Value → Bool} {Q : Value → Shared → Prop} (O : SrtO.Swo ltv) (hl : s.heap.IsTuple l vs.toArray) (hz : vs.length ≤ sizeLine)
    (hS : 2 ≤ vs.length → ∀ (h₁ : Heap) (a : Addr), SrtO.SortableO prog w A.in1.in1 { s with heap := h₁ } a vs ltv)
    (h : ∀ out : List Value, SrtO.Srtd ltv out → SrtO.Stb ltv out vs → Q (.ref (s.heap.objs.size + 1)) { s with heap := sortedAll s.heap vs out.toArray }) : wpAny (model prog w) A (call (.builtin "sorted") [.ref l]) Q E s := by
  have sz1 : ((s.heap.push (seqObj "list" #[] 0)).update s.heap.objs.size (Obj.mapSeq (· ++ vs.toArray))).objs.size = s.heap.objs.size + 1 := (Heap.size_update ..).trans (size_push' ..)
  have at1 := Heap.get?_push_size ((s.heap.push (seqObj "list" #[] 0)).update s.heap.objs.size (Obj.mapSeq (· ++ vs.toArray))) (o := seqObj "list" vs.toArray 0) rfl
  refine Calls.call_function_entry kind_sorted plain_sorted entry_sorted (args_sorted1 _) ?_
  unfold Builtin.«sorted»
  refine wpAny_bind (m := checkCount "sorted" 1 1 _) (wpAny_pure (wpAny_bind (collectT hl hz (wpAny_bind (wpAny_newList ?_ hz)))))
  rw [sz1] at at1 ⊢
  exact wpAny_bind (wpAny_holding (wpAny_call_entry slot_list_sort ⟨_, at1, rfl⟩ entry_list_sort (SrtO.list_sort_ord O at1 hz (fun h2 => hS h2 _ _) fun out hs hb => ⟨_, rfl, wpAny_pure ⟨_, rfl, h out hs hb⟩⟩) (args_list_sort _)))
end
def rSortIT (K : PySem.W.Frag) : List V → Hp → VK → Prop := fun vs H Q => ∃ (a : Addr) (ns : List Int), vs = [V.ref a] ∧ SqT K H a (ns.map V.int) ∧
  ∀ (ns' : List Int) (p : Addr), ns'.Perm ns → ns'.Pairwise (· ≤ ·) → H p = none → Q (.ref p) (upd H p (.lst (ns'.map V.int)))
theorem cr_sortIT : CallR X (.builtin "sorted") (rSortIT X.K) := by
  intro pins s σ H vs us Q I r ⟨a, ns, e, hs, q⟩
  subst e
  obtain ⟨its, rv, hl, hz⟩ := I.tuple hs
  have hi := rv.ints
  rw [Vals.ref1 r]
  refine sortedT SrtO.swo_int (show s.heap.IsTuple a its.toArray from hl) (by rw [← rv.length]; exact hz) (fun h2 h₁ a' => SrtO.ints_sortable hi h2) fun out h1 h2 => ?_
  obtain ⟨k1, k2, k3⟩ := SrtO.ints_out hi h1 h2
  obtain ⟨ep, he'⟩ := PyProof.Rows.sortedAll_at s.heap its out.toArray
  have hlen : ((out.map SrtO.iv).map V.int).length ≤ sizeLine := by
    have := k2.length_eq
    rw [List.length_map] at hz ⊢
    omega
  have inv := I.laid (t' := s.toks) (fun _ _ => PyProof.Rows.sortedAll_old) (Nat.le_succ _) (a := s.heap.objs.size + 1) (o := .lst ((out.map SrtO.iv).map V.int)) ⟨hlen, out, ep, vals_of_ints k1, he'⟩
  exact ⟨.ref _, _, inv, rfl, q _ _ k2 k3 (I.hok.fresh (Nat.le_succ _))⟩
def oSortIT : DCM := fun xs R => ∃ x, ∃ ns : List Int, xs = [x] ∧ x.toD = .tuple (ns.map .int) ∧ ∀ ns' : List Int, ns'.Perm ns → ns'.Pairwise (· ≤ ·) → R (ns'.map .int)
theorem ck_sortIT {K : PySem.W.Frag} : CallOkM K (rSortIT K) oSortIT := fun δ F H xs vs R Q hs hv ⟨x, ns, e, e2, hr⟩ b => by
  subst e
  obtain ⟨v, rfl, h1⟩ := vr1 hv
  obtain ⟨a, us, rfl, h2, h3⟩ := h1.tpl hs e2
  rw [h3.ints] at h2
  exact ⟨a, ns, rfl, sqtR (rdS hs h2), fun ns' p k1 k2 hp => b _ _ _ (hr ns' k1 k2) hp (rps_ints ns')⟩
end DL
set_option maxHeartbeats 4000000
namespace DL
open PySem PySem.Spec PyProof.Rows L2
section
variable {P : Program} {w : World} {A : Around} {E : Value → Shared → Prop} {s : Shared}
/-- what its start leaves -/
def Made (w : World) (s : Shared) (xs : List Int) (r : Value) (s2 : Shared) : Prop :=
  r = .none ∧ ∃ g k m, s2 = { s with heap := g, toks := k } ∧ SetR w g s.heap.objs.size (fun j => decide (j ∈ xs)) m ∧ m ≤ xs.length ∧ ∀ b o, s.heap.get? b = some o → g.get? b = some o
end
end DL
namespace DL
open PySem PySem.Spec PyProof.Rows L2
variable {X : Cx} {Y : Fx}
def oAddS : D2 := fun x y R => ∃ a b : Str, x = .dat (.str a) ∧ y = .dat (.str b) ∧ a.length + b.length ≤ sizeLine ∧ R (.str (a ++ b))
abbrev rAddS : R2 := fun x y H Q => ∃ i j, x = .str i ∧ y = .str j ∧ i.length + j.length ≤ sizeLine ∧ Q (.str (i ++ j)) H
theorem bi_addS {K : PySem.W.Frag} : BinOk K rAddS oAddS := fun δ F H x y v u R Q hs hx hy ⟨a, b, e1, e2, hl, hr⟩ bk => by
  subst e1 e2
  simp only [VR, Rp] at hx hy
  exact ⟨a, b, hx, hy, hl, bk.here hs hr (by simp [Rp])⟩
def oStr : DC := fun xs R => ∃ i : Int, xs = [.dat (.int i)] ∧ i.natAbs.log2 < 1920 ∧ R (.str (toString i))
theorem cr_str {K : PySem.W.Frag} : CallOk K (fun xs H Q => ∃ i, xs = [.int i] ∧ i.natAbs.log2 < 1920 ∧ Q (.str (toString i)) H) oStr := fun δ F H xs vs R Q hs hv ⟨i, e, hl, hr⟩ bk => by
  subst e
  obtain ⟨v, rfl, h⟩ := vr1 hv
  simp only [VR, Rp] at h
  subst h
  exact ⟨i, rfl, hl, bk.here hs hr (by simp [Rp])⟩
def dJoin (t u : DTE) : DTE := fun ρ n R => t ρ n fun x n1 => ∃ a : Str, x = .dat (.str a) ∧ u ρ n1 fun y n2 => ∃ ys : List Str, y = .dat (.list (ys.map .str)) ∧ (ys.map (·.length)).sum + ys.length * a.length ≤ 16777216 ∧ R (.dat (.str (Txt.join a ys))) n2
theorem we_join {o e : Expr} {t u : DTE} {apos pos : Pos} (ho : WE Y X o t) (he : WE Y X e u) (h1 : starEach [e] X.env = [(false, eval e X.env)] := by rfl)
    (h2 : attributeBase o "join" X.env (eval o X.env) = eval o X.env := by rfl) (h3 : (apos.endLine == pos.line) = true := by rfl) : WE Y X (.Call (.Attribute o "join" apos) [e] [] pos) (dJoin t u) :=
  pe_imp (pe_join ho he h1 h2 h3) fun σ H Q ⟨Z, F, ρ, n, R, r, ht, k⟩ => ⟨Z, F, ρ, n, _, r, ht, fun x n1 F1 H1 v ⟨a, e1, hx⟩ g1 s1 d1 w1 => by
    subst e1
    simp only [VR, Rp] at w1
    subst w1
    refine ⟨⟨a, rfl⟩, Z, F1, ρ, n1, _, r.step g1 s1 d1, hx, fun y n2 F2 H2 u2 ⟨ys, e2, hb, hy⟩ g2 s2 d2 w2 => ?_⟩
    subst e2
    simp only [VR, Rp] at w2
    obtain ⟨p, vs, rfl, p1, p2⟩ := w2
    rw [p2.strs] at p1
    exact ⟨a, p, ys, rfl, rfl, .inl (SqL.of (s2 _ _ p1)), hb, k _ _ _ _ _ hy (g1.trans g2) s2 d2 (by simp [VR, Rp])⟩⟩
end DL
namespace DL
open PySem PySem.Spec PyProof.Rows L2
variable {X : Cx} {Y : Fx}
theorem isInt_of {k : Int} {v : Value} (h : Value.isInt k v = true) : ∃ t, v = .int k t := by
  unfold Value.isInt at h
  split at h
  · have := of_decide_eq_true h
    subst this
    exact ⟨_, rfl⟩
  · cases h
theorem isStr_of {k : Str} {v : Value} (h : Value.isStrOf k v = true) : ∃ t, v = .str k t := by
  unfold Value.isStrOf at h
  split at h
  · have := eq_of_beq h
    subst this
    exact ⟨_, rfl⟩
  · cases h
theorem dict_entries {prog : Program} {w : World} : ∀ {ps : List (Key × Int)} {es : List DictEntry} {vs : List (Key × Value)}, Pairs (mixKind prog w) es vs → KV (ps.map fun p => (p.1, V.int p.2)) vs →
    ∀ h : Heap, ReadsAll h (es.map (·.key)) (ps.map fun p => keyD p.1) [] ∧ ReadsAll h (es.map (·.val)) (ps.map fun p => PyData.int p.2) []
  | [], es, vs, hp, hk, h => by
    cases hk
    cases hp
    exact ⟨.nil, .nil⟩
  | p :: ps, es, vs, hp, hk, h => by
    cases hk with
    | cons a b =>
      cases hp with
      | cons c d e =>
        obtain ⟨i1, i2⟩ := dict_entries e b h
        obtain ⟨a1, a2⟩ := a
        obtain ⟨t, a2⟩ := a2
        rw [← a1] at c
        refine ⟨?_, ?_⟩
        · cases hk1 : p.1 with
          | inl i =>
            rw [hk1] at c
            obtain ⟨t, ht⟩ := isInt_of c
            rw [List.map_cons, List.map_cons, hk1, ht]
            exact .cons (as := []) (.int i t) i1
          | inr x =>
            rw [hk1] at c
            obtain ⟨t, ht⟩ := isStr_of c
            rw [List.map_cons, List.map_cons, hk1, ht]
            exact .cons (as := []) (.str x t) i1
        · rw [List.map_cons, List.map_cons, d, a2]
          exact .cons (as := []) (.int p.2 t) i2
section
variable {pins : List (Addr × Obj)} {σ : L2.St} {H : Hp} {s : Shared}
theorem ref_hidden (a : Addr) : (refD a).showable = false := by
  show PyData.showable (.dict [(.none, .int (((2 : Nat) ^ 2000 + a : Nat) : Int))]) = false
  simp only [PyData.showable, PyData.showableKv, Bool.true_and, Bool.and_true]
  refine decide_eq_false fun h => ?_
  have e : ((((2 : Nat) ^ 2000 + a : Nat) : Int)).natAbs = 2 ^ 2000 + a := Int.natAbs_natCast _
  rw [e] at h
  have h2 : 2000 ≤ (2 ^ 2000 + a).log2 := (Nat.le_log2 (by have := Nat.two_pow_pos 2000; omega)).mpr (Nat.le_add_right _ _)
  omega
theorem cln_hidden (ns : List Int) : (clnD ns).showable = false := by
  have h := ref_hidden (0 : Nat)
  rw [show refD (0 : Nat) = PyData.dict [(.none, .int (((2 : Nat) ^ 2000 : Nat) : Int))] from rfl] at h
  simp only [PyData.showable, PyData.showableKv, Bool.true_and, Bool.and_true] at h
  unfold clnD
  simp only [PyData.showable, PyData.showableKv, PyData.showableAll, Bool.true_and, Bool.and_true]
  rw [h, Bool.false_and]
theorem ref_unshown {H : Hp} {kvs : List (PyData × PyData)} {v : V} (hs : (PyData.dict kvs).showable = true) : ¬ ((∃ a : Addr, PyData.dict kvs = refD a ∧ v = .ref a) ∨ ∃ (a : Addr) (ns : List Int) (o : Obj), PyData.dict kvs = clnD ns ∧ v = .ref a ∧ H a = some (.frz o (.tup (ns.map V.int))) ∧ o.cls = .type "tuple" ∧ o.dict = none) := by
  rintro (⟨a, e, _⟩ | ⟨_, ns, _, e, _⟩)
  · rw [e, ref_hidden] at hs
    cases hs
  · rw [e, cln_hidden] at hs
    cases hs
mutual
theorem Rp.readsE (I : Inv X pins σ H s) : ∀ (d : PyData) (v : V) (u : Value), Rp X.K H d v → L2.RelV v u → d.showable = true → ∃ as, Reads s.heap u d as
  | .none, v, u, h, r, _ => by simp only [Rp] at h; subst h; cases r; exact ⟨[], .none⟩
  | .bool b, v, u, h, r, _ => by simp only [Rp] at h; subst h; cases r; exact ⟨[], .bool b⟩
  | .int i, v, u, h, r, _ => by simp only [Rp] at h; subst h; obtain ⟨t, rfl⟩ := r; exact ⟨[], .int i t⟩
  | .str x, v, u, h, r, _ => by simp only [Rp] at h; subst h; obtain ⟨t, rfl⟩ := r; exact ⟨[], .str x t⟩
  | .list ds, v, u, h, r, hs => by
    simp only [Rp] at h
    obtain ⟨a, xs, rfl, h1, h2⟩ := h
    cases r
    obtain ⟨_, its, n, hv, hg⟩ := I.hok a _ h1
    obtain ⟨as, hr⟩ := Rps.readsE I ds xs its h2 hv (by simpa only [PyData.showable] using hs)
    exact ⟨a :: as, .list hg rfl rfl hr⟩
  | .tuple ds, v, u, h, r, hs => by
    simp only [Rp] at h
    obtain ⟨a, xs, rfl, h1, h2⟩ := h
    cases r
    obtain ⟨_, its, hv, o, hg, hc, n, hd⟩ := tupOk I h1
    obtain ⟨as, hr⟩ := Rps.readsE I ds xs its h2 hv (by simpa only [PyData.showable] using hs)
    exact ⟨as, .tuple hg hc hd hr⟩
  | .dict kvs, v, u, h, r, hs => by
    simp only [Rp] at h
    obtain ⟨a, ks, rfl, h1, ps, rfl, rfl⟩ := h.resolve_right (ref_unshown hs)
    cases r
    obtain ⟨_, _, vs, hk, o, es, ep, hg, hx, hd, _, hp, _⟩ := dk_of I.hok h1
    obtain ⟨r1, r2⟩ := dict_entries hp hk s.heap
    refine ⟨_, .dict hg hx.1 hd (as := []) (bs := []) ?_ ?_⟩
    · rw [List.map_map]; exact r1
    · rw [List.map_map]; exact r2
theorem Rps.readsE (I : Inv X pins σ H s) : ∀ (ds : List PyData) (vs : List V) (us : List Value), Rps X.K H ds vs → Vals vs us → PyData.showableAll ds = true → ∃ as, ReadsAll s.heap us ds as
  | [], vs, us, h, r, _ => by simp only [Rps] at h; subst h; cases r; exact ⟨[], .nil⟩
  | d :: ds, vs, us, h, r, hs => by
    simp only [Rps] at h
    obtain ⟨v, vs', rfl, h1, h2⟩ := h
    simp only [PyData.showableAll, Bool.and_eq_true] at hs
    cases r with
    | cons r1 r2 =>
      obtain ⟨as, a1⟩ := Rp.readsE I d v _ h1 r1 hs.1
      obtain ⟨bs, a2⟩ := Rps.readsE I ds vs' _ h2 r2 hs.2
      exact ⟨as ++ bs, .cons a1 a2⟩
end
theorem leafK {h : Heap} {u : Value} {d : PyData} {as : List Addr} {P : Program} {w : World} (r : Reads h u d as) (hs : d.showable = true) (hd : d.hasDict = false) (hl : d.shown.length ≤ sizeLine) : ∃ bs, ReadAtMost h d.depth bs ∧ ReprK P w bs h d.depth u d.shown :=
  ReprK.of_reads r hs (fun q => by rw [hd] at q; cases q) hl
theorem dictE (I : Inv X pins σ H s) {a : Addr} {ps : List (Key × Int)} {as : List Addr} (h1 : H a = some (.dK (ps.map fun p => (p.1, V.int p.2)))) (q : Reads s.heap (.ref a) (.dict (ps.map fun p => (keyD p.1, PyData.int p.2))) as)
    (hs : (PyData.dict (ps.map fun p => (keyD p.1, PyData.int p.2))).showable = true) (hl : (PyData.dict (ps.map fun p => (keyD p.1, PyData.int p.2))).shown.length ≤ sizeLine) :
    ∃ o es ep bs, s.heap.get? a = some o ∧ o.cls = .type "dict" ∧ o.data = .dict es ep ∧ (a == sysModules) = false ∧ ReadAtMost s.heap (PyData.depthKv (ps.map fun p => (keyD p.1, PyData.int p.2))) bs ∧ a ∉ bs ∧
      ReprEntriesK X.prog X.w bs s.heap (PyData.depthKv (ps.map fun p => (keyD p.1, PyData.int p.2))) es.toList (PyData.shownKv (ps.map fun p => (keyD p.1, PyData.int p.2))) := by
  obtain ⟨_, low, vs, hk, o, es, ep, hg, hx, hd, _, hp, _⟩ := dk_of I.hok h1
  obtain ⟨r1, r2⟩ := dict_entries hp hk s.heap
  generalize hkv : (ps.map fun p => (keyD p.1, PyData.int p.2)) = kvs at q hs hl ⊢
  have r1' : ReadsAll s.heap (es.toList.map (·.key)) (kvs.map (·.1)) [] := by rw [← hkv, List.map_map]; exact r1
  have r2' : ReadsAll s.heap (es.toList.map (·.val)) (kvs.map (·.2)) [] := by rw [← hkv, List.map_map]; exact r2
  obtain ⟨sk, sv⟩ := PyData.showableKv_split kvs (by simpa only [PyData.showable] using hs)
  have hl : (dictText (PyData.shownKv kvs)).length ≤ sizeLine := by rw [← PyData.shown.eq_7]; exact hl
  obtain ⟨b1, m1, k1⟩ := ReprAllK.of_readsAll (prog := X.prog) (w := X.w) r1' sk (fun _ h => (nomatch h)) fun t ht => by
    obtain ⟨p, hp, hle⟩ := PyData.shownKv_key_le _ t ht
    exact Nat.le_trans hle (Nat.le_trans (dictText_mem_le hp) hl)
  obtain ⟨b2, m2, k2⟩ := ReprAllK.of_readsAll (prog := X.prog) (w := X.w) r2' sv (fun _ h => (nomatch h)) fun t ht => by
    obtain ⟨p, hp, hle⟩ := PyData.shownKv_val_le _ t ht
    exact Nat.le_trans hle (Nat.le_trans (dictText_mem_le hp) hl)
  have hdp : (PyData.dict kvs).depth = PyData.depthKv kvs + 1 := by simp only [PyData.depth]
  have d1 := PyData.depthAll_keys_le kvs
  have d2 := PyData.depthAll_vals_le kvs
  have m3 : ReadAtMost s.heap (PyData.depthKv kvs) (b1 ++ b2) := ReadAtMost.append (m1.mono d1) (m2.mono d2)
  have nin : a ∉ b1 ++ b2 := not_mem_of_deeper q (by rw [hdp]; exact Nat.lt_succ_self _) m3
  refine ⟨o, es, ep, b1 ++ b2, hg, hx.1, hd, low, m3, nin, ?_⟩
  rw [PyData.shownKv_eq]
  exact ReprEntriesK.of_two es.toList _ _ (k1.more_le (fun b hb => List.mem_append_left _ hb) d1) (k2.more_le (fun b hb => List.mem_append_right _ hb) d2)
mutual
theorem Rp.reprE (I : Inv X pins σ H s) : ∀ (d : PyData) (v : V) (u : Value), Rp X.K H d v → L2.RelV v u → d.showable = true → d.shown.length ≤ sizeLine → ∃ bs, ReadAtMost s.heap d.depth bs ∧ ReprK X.prog X.w bs s.heap d.depth u d.shown
  | .none, v, u, h, r, hs, hl => by obtain ⟨as, q⟩ := Rp.readsE I _ v u h r hs; exact leafK q hs rfl hl
  | .bool b, v, u, h, r, hs, hl => by obtain ⟨as, q⟩ := Rp.readsE I _ v u h r hs; exact leafK q hs rfl hl
  | .int i, v, u, h, r, hs, hl => by obtain ⟨as, q⟩ := Rp.readsE I _ v u h r hs; exact leafK q hs rfl hl
  | .str x, v, u, h, r, hs, hl => by obtain ⟨as, q⟩ := Rp.readsE I _ v u h r hs; exact leafK q hs rfl hl
  | .list ds, v, u, h, r, hs, hl => by
    obtain ⟨as, q⟩ := Rp.readsE I _ v u h r hs
    simp only [Rp] at h
    obtain ⟨a, xs, rfl, h1, h2⟩ := h
    cases r
    obtain ⟨_, its, n, hv, hg⟩ := I.hok a _ h1
    have hl2 : ∀ t ∈ PyData.shownAll ds, t.length ≤ sizeLine := fun t ht => Nat.le_trans (listText_mem_le ht) hl
    obtain ⟨bs, b1, b2⟩ := Rps.reprE I ds xs its h2 hv (by simpa only [PyData.showable] using hs) hl2
    have hdp : (PyData.list ds).depth = PyData.depthAll ds + 1 := by simp only [PyData.depth]
    have nin : a ∉ bs := not_mem_of_deeper q (by rw [hdp]; exact Nat.lt_succ_self _) b1
    refine ⟨a :: bs, fun b hb => ?_, ?_⟩
    · rcases List.mem_cons.mp hb with rfl | hb
      · exact ⟨_, _, q, Nat.le_refl _⟩
      · obtain ⟨e, es, x1, x2⟩ := b1 b hb
        exact ⟨e, es, x1, by rw [hdp]; omega⟩
    · rw [hdp]
      show ReprK X.prog X.w (a :: bs) s.heap (PyData.depthAll ds + 1) (.ref a) (listText (PyData.shownAll ds))
      cases its with
      | nil =>
        have hn : PyData.shownAll ds = [] := List.eq_nil_of_length_eq_zero b2.length_eq
        rw [hn]
        exact ReprK.listEmpty hg rfl rfl
      | cons x l => exact ReprK.list hg rfl rfl nin (by rw [b2.length_eq]; simp) fun i y hy => b2.item i y (by simpa using hy)
  | .tuple ds, v, u, h, r, hs, hl => by
    obtain ⟨as, q⟩ := Rp.readsE I _ v u h r hs
    simp only [Rp] at h
    obtain ⟨a, xs, rfl, h1, h2⟩ := h
    cases r
    obtain ⟨_, its, hv, o, hg, hc, n, hd⟩ := tupOk I h1
    have hl2 : ∀ t ∈ PyData.shownAll ds, t.length ≤ sizeLine := fun t ht => Nat.le_trans (tupleText_mem_le ht) hl
    obtain ⟨bs, b1, b2⟩ := Rps.reprE I ds xs its h2 hv (by simpa only [PyData.showable] using hs) hl2
    have hdp : (PyData.tuple ds).depth = PyData.depthAll ds + 1 := by simp only [PyData.depth]
    have nin : a ∉ bs := not_mem_of_deeper q (by rw [hdp]; exact Nat.lt_succ_self _) b1
    refine ⟨a :: bs, fun b hb => ?_, ?_⟩
    · rcases List.mem_cons.mp hb with rfl | hb
      · exact ⟨_, _, q, Nat.le_refl _⟩
      · obtain ⟨e, es, x1, x2⟩ := b1 b hb
        exact ⟨e, es, x1, by rw [hdp]; omega⟩
    · rw [hdp]
      exact ReprK.tuple hg hc hd nin (by simpa using b2)
  | .dict kvs, v, u, h, r, hs, hl => by
    obtain ⟨as, q⟩ := Rp.readsE I _ v u h r hs
    simp only [Rp] at h
    obtain ⟨a, ks, rfl, h1, ps, rfl, rfl⟩ := h.resolve_right (ref_unshown hs)
    cases r
    have hdp : (PyData.dict (ps.map fun p => (keyD p.1, PyData.int p.2))).depth = PyData.depthKv (ps.map fun p => (keyD p.1, PyData.int p.2)) + 1 := by simp only [PyData.depth]
    obtain ⟨o, es, ep, bs, hg, hc, hd, low, m3, nin, k⟩ := dictE I h1 q hs hl
    refine ⟨a :: bs, fun b hb => ?_, ?_⟩
    · rcases List.mem_cons.mp hb with rfl | hb
      · exact ⟨_, _, q, Nat.le_refl _⟩
      · obtain ⟨e, es, x1, x2⟩ := m3 b hb
        exact ⟨e, es, x1, by rw [hdp]; omega⟩
    · rw [hdp, PyData.shown.eq_7]
      exact ReprK.dict hg hc hd low nin k
theorem Rps.reprE (I : Inv X pins σ H s) : ∀ (ds : List PyData) (vs : List V) (us : List Value), Rps X.K H ds vs → Vals vs us → PyData.showableAll ds = true → (∀ t ∈ PyData.shownAll ds, t.length ≤ sizeLine) → ∃ bs, ReadAtMost s.heap (PyData.depthAll ds) bs ∧ ReprAllK X.prog X.w bs s.heap (PyData.depthAll ds) us (PyData.shownAll ds)
  | [], vs, us, h, r, _, _ => by simp only [Rps] at h; subst h; cases r; exact ⟨[], fun _ h => (nomatch h), .nil⟩
  | d :: ds, vs, us, h, r, hs, hl => by
    simp only [Rps] at h
    obtain ⟨v, vs', rfl, h1, h2⟩ := h
    simp only [PyData.showableAll, Bool.and_eq_true] at hs
    cases r with
    | cons r1 r2 =>
      obtain ⟨as, a1, a2⟩ := Rp.reprE I d v _ h1 r1 hs.1 (hl _ (by simp only [PyData.shownAll]; exact List.mem_cons_self))
      obtain ⟨bs, b1, b2⟩ := Rps.reprE I ds vs' _ h2 r2 hs.2 fun t ht => hl t (by simp only [PyData.shownAll]; exact List.mem_cons_of_mem _ ht)
      have e : PyData.depthAll (d :: ds) = max d.depth (PyData.depthAll ds) := by simp only [PyData.depthAll]
      refine ⟨as ++ bs, ReadAtMost.append (a1.mono (by rw [e]; omega)) (b1.mono (by rw [e]; omega)), ?_⟩
      simp only [PyData.shownAll]
      exact .cons ((a2.more fun b hb => List.mem_append_left _ hb).level_le (by rw [e]; omega)) (b2.more_le (fun b hb => List.mem_append_right _ hb) (by rw [e]; omega))
end
end
/-- what may be shown, with dicts -/
structure TameE (m k : Nat) (d : PyData) : Prop where
  sh : d.showable = true
  dp : d.depth ≤ k
  le : d.shown.length ≤ m
theorem TameE.mono {m k m' k' : Nat} {d : PyData} (h : TameE m k d) (h1 : m ≤ m') (h2 : k ≤ k') : TameE m' k' d := ⟨h.sh, Nat.le_trans h.dp h2, Nat.le_trans h.le h1⟩
theorem Tame.e {m k : Nat} {d : PyData} (h : Tame m k d) : TameE m k d := ⟨h.sh, h.dp, Nat.le_trans (shown_le d h.cl) h.le⟩
theorem texts_le {m : Nat} : ∀ {ds : List PyData}, (∀ d ∈ ds, d.shown.length ≤ m) → ((PyData.shownAll ds).map fun t => t.length + 2).sum ≤ ds.length * (m + 2)
  | [], _ => by simp [PyData.shownAll]
  | d :: ds, h => by
    have h1 := h d (by simp)
    have h2 := texts_le (ds := ds) fun e he => h e (by simp [he])
    simp only [PyData.shownAll, List.map_cons, List.sum_cons, List.length_cons, Nat.add_mul]
    omega
theorem tameE_tuple {m k l : Nat} {ds : List PyData} (h : ∀ d ∈ ds, TameE m k d) (hl : ds.length ≤ l) : TameE (l * (m + 2) + 3) (k + 1) (.tuple ds) :=
  ⟨by simp only [PyData.showable]; exact showAll fun d hd => (h d hd).sh, by simp only [PyData.depth]; exact Nat.succ_le_succ (depthAll_le fun d hd => (h d hd).dp), by
    simp only [PyData.shown]
    have := texts_le fun d hd => (h d hd).le
    have := Nat.mul_le_mul_right (m + 2) hl
    have := tupleText_le (PyData.shownAll ds)
    omega⟩
theorem tameE_list {m k l : Nat} {ds : List PyData} (h : ∀ d ∈ ds, TameE m k d) (hl : ds.length ≤ l) : TameE (l * (m + 2) + 3) (k + 1) (.list ds) :=
  ⟨by simp only [PyData.showable]; exact showAll fun d hd => (h d hd).sh, by simp only [PyData.depth]; exact Nat.succ_le_succ (depthAll_le fun d hd => (h d hd).dp), by
    simp only [PyData.shown]
    have := texts_le fun d hd => (h d hd).le
    have := Nat.mul_le_mul_right (m + 2) hl
    have := listText_le (PyData.shownAll ds)
    omega⟩
def rReprE (K : PySem.W.Frag) : List V → Hp → VK → Prop := fun xs H Q => ∃ v d, xs = [v] ∧ Rp K H d v ∧ TameE 1000000 60 d ∧ Q (.str d.shown) H
theorem call_reprE (hg : X.A.guards = some []) (hu : X.A.units + 64 < cLine) : CallR X (.builtin "repr") (rReprE X.K) := by
  intro pins s σ H xs us Q I r h
  obtain ⟨v, d, rfl, hr, ht, q⟩ := h
  obtain ⟨u, rfl, ru⟩ := vals1 r
  have hz : d.shown.length ≤ sizeLine := Nat.le_trans ht.le (by decide)
  have hu1 : X.A.units + 1 < cLine := by omega
  have hdp := ht.dp
  cases d with
  | none =>
    simp only [Rp] at hr; subst hr; cases ru
    exact PySem.P.repr_of_none ⟨.str _, H, I.tok _, ⟨_, rfl⟩, q⟩
  | bool b =>
    simp only [Rp] at hr; subst hr; cases ru
    refine PySem.P.repr_of_bool ⟨.str (PyData.shown (.bool b)), H, I.tok _, ⟨s.toks, ?_⟩, q⟩
    cases b <;> rfl
  | int i =>
    simp only [Rp] at hr; subst hr; obtain ⟨t, rfl⟩ := ru
    have := ht.sh
    simp only [PyData.showable, decide_eq_true_eq] at this
    exact PySem.P.repr_of_int this ⟨.str _, H, I.tok _, ⟨_, rfl⟩, q⟩
  | str z =>
    simp only [Rp] at hr; subst hr; obtain ⟨t, rfl⟩ := ru
    exact PySem.P.repr_of_str ⟨.str _, H, I.tok _, ⟨_, rfl⟩, q⟩ hz
  | list ds =>
    obtain ⟨as, hq⟩ := Rp.readsE I _ v u hr ru ht.sh
    simp only [Rp] at hr
    obtain ⟨a, xs, rfl, h1, h2⟩ := hr
    cases ru
    obtain ⟨_, its, n, hv, hget⟩ := I.hok a _ h1
    have hl2 : ∀ t ∈ PyData.shownAll ds, t.length ≤ sizeLine := fun t h => Nat.le_trans (listText_mem_le h) hz
    obtain ⟨bs, b1, b2⟩ := Rps.reprE I ds xs its h2 hv (by simpa only [PyData.showable] using ht.sh) hl2
    have hd1 : (PyData.list ds).depth = PyData.depthAll ds + 1 := by simp only [PyData.depth]
    have nin : a ∉ bs := not_mem_of_deeper hq (by rw [hd1]; exact Nat.lt_succ_self _) b1
    have ty : s.TypeIs (.ref a) "list" := ⟨_, hget, rfl⟩
    refine call_repr_slot hu1 ty (Slot.toG PySem.F.slot_list_repr) ?_
    cases its with
    | nil =>
      have hn : PyData.shownAll ds = [] := List.eq_nil_of_length_eq_zero b2.length_eq
      refine call_list_repr_empty ty hget rfl ⟨_, _, rfl, .str (PyData.list ds).shown, H, I.tok _, ⟨s.toks, ?_⟩, q⟩
      simp only [PyData.shown, hn]
      rfl
    | cons x l =>
      refine call_list_reprK hget rfl rfl nin (by rw [b2.length_eq]; simp) (fun i y hy => b2.item i y (by simpa using hy)) (A := X.A.in1) (g := []) hg (fun b _ => Clear.nil b) (by show X.A.units + 1 + (PyData.depthAll ds + 1) < cLine; omega) (fun _ _ e => e) (fun h' u tk hk => ⟨_, _, rfl, .str (PyData.list ds).shown, H, I.kept (t' := tk) hk, ⟨u, ?_⟩, q⟩) (by simpa only [PyData.shown] using hz)
      simp only [PyData.shown]
  | tuple ds =>
    obtain ⟨as, hq⟩ := Rp.readsE I _ v u hr ru ht.sh
    simp only [Rp] at hr
    obtain ⟨a, xs, rfl, h1, h2⟩ := hr
    cases ru
    obtain ⟨_, its, hv, o, hget, hc, n, hd⟩ := tupOk I h1
    have hl2 : ∀ t ∈ PyData.shownAll ds, t.length ≤ sizeLine := fun t h => Nat.le_trans (tupleText_mem_le h) hz
    obtain ⟨bs, b1, b2⟩ := Rps.reprE I ds xs its h2 hv (by simpa only [PyData.showable] using ht.sh) hl2
    have hd1 : (PyData.tuple ds).depth = PyData.depthAll ds + 1 := by simp only [PyData.depth]
    have nin : a ∉ bs := not_mem_of_deeper hq (by rw [hd1]; exact Nat.lt_succ_self _) b1
    have ty : s.TypeIs (.ref a) "tuple" := ⟨_, hget, hc⟩
    refine call_repr_slot hu1 ty PySem.F.slot_tuple_repr ?_
    refine call_tuple_reprK hget hc hd nin (by simpa using b2) (A := X.A.in1) (g := []) hg (fun b _ => Clear.nil b) (by show X.A.units + 1 + (PyData.depthAll ds + 1) < cLine; omega) (fun _ _ e => e) (fun h' u tk hk => ⟨_, _, rfl, .str (PyData.tuple ds).shown, H, I.kept (t' := tk) hk, ⟨u, ?_⟩, q⟩) (by simpa only [PyData.shown] using hz)
    simp only [PyData.shown]
  | dict kvs =>
    obtain ⟨as, hq⟩ := Rp.readsE I _ v u hr ru ht.sh
    simp only [Rp] at hr
    obtain ⟨a, ks, rfl, h1, ps, rfl, rfl⟩ := hr.resolve_right (ref_unshown ht.sh)
    cases ru
    have hd1 : (PyData.dict (ps.map fun p => (keyD p.1, PyData.int p.2))).depth = PyData.depthKv (ps.map fun p => (keyD p.1, PyData.int p.2)) + 1 := by simp only [PyData.depth]
    obtain ⟨o, es, ep, bs, hget, hc, hd, low, m3, nin, k⟩ := dictE I h1 hq ht.sh hz
    have ty : s.TypeIs (.ref a) "dict" := ⟨_, hget, hc⟩
    have hz2 := hz
    rw [PyData.shown.eq_7] at hz2
    refine call_repr_slot hu1 ty PySem.F.slot_dict_repr ?_
    refine call_dict_reprK hget hc hd low nin k (A := X.A.in1) (g := []) hg (fun b _ => Clear.nil b) (by show X.A.units + 1 + (_ + 1) < cLine; omega) (fun _ _ e => e) (fun h' u tk hk => ⟨_, _, rfl, .str _, H, I.kept (t' := tk) hk, ⟨u, ?_⟩, q⟩) hz2
    rw [PyData.shown.eq_7]
def oReprE : DC := fun xs R => ∃ x, xs = [x] ∧ x.isDk = false ∧ TameE 1000000 60 x.toD ∧ R (.str x.toD.shown)
end DL
namespace DL
open PySem PySem.Spec PyProof.Rows L2
variable {X : Cx} {Y : Fx}
theorem ck_reprE {K : PySem.W.Frag} : CallOk K (rReprE K) oReprE := fun δ F H xs vs R Q hs hv ⟨x, e, hd, ht, hr⟩ b => by
  subst e
  obtain ⟨v, rfl, h1⟩ := vr1 hv
  exact ⟨v, x.toD, rfl, h1.rp hs hd, ht, b.here hs hr (by simp [Rp])⟩
theorem we_dict0 {pos : Pos} : WE Y X (.Dict [] [] pos) (dC (.dict [])) :=
  pe_imp pe_dnewK fun σ H Q ⟨Z, F, ρ, n, R, r, ht, k⟩ => fun p hp => by
    obtain ⟨g2, s2⟩ := Gp.new (o := .dK []) hp r.b.sub
    exact k _ _ _ _ _ ht g2.gr s2 (g2.dk r.b) (by simp only [VR, Rp]; exact .inl ⟨p, [], rfl, upd_same, [], rfl, rfl⟩)
theorem we_dict1 {a : Str} {b : Int} {j1 j2 : Nat} {p1 p2 pos : Pos} : WE Y X (.Dict [some (.Constant (.str a) j1 p1)] [.Constant (.int b) j2 p2] pos) (dC (.dict [(.str a, .int b)])) :=
  pe_imp (pe_disp (pps_cons pe_str pe_int pps_nil) rfl rfl (by simp) (by decide : 1 ≤ 15)) fun σ H Q ⟨Z, F, ρ, n, R, r, ht, k⟩ => fun p hp => by
    refine ⟨upd_same, [(.inr a, .int b)], rfl, (by decide : 1 ≤ 15), ?_⟩
    rw [show upd (upd H p (.dK [])) p (.dK (mergeK [] [((.inr a : Key), V.int b)])) = upd H p (.dK [(.inr a, .int b)]) from upd_upd]
    obtain ⟨g2, s2⟩ := Gp.new (o := .dK [(.inr a, .int b)]) hp r.b.sub
    exact k _ _ _ _ _ ht g2.gr s2 (g2.dk r.b) (by simp only [VR, Rp]; exact .inl ⟨p, _, rfl, upd_same, [(.inr a, b)], rfl, rfl⟩)
end DL
set_option maxHeartbeats 4000000
namespace DL
open PySem PySem.Spec PyProof.Rows L2
/-- the pairs that were given out -/
def ZPairs (S : Nat) (xs ys : Array Value) (i : Nat) (h : Heap) : Prop := ∀ j, j < i → ∃ x y, xs[j]? = some x ∧ ys[j]? = some y ∧ IsPair h (S + 1 + j) x y
theorem ZPairs.keep {S i : Nat} {xs ys : Array Value} {h h' : Heap} (p : ZPairs S xs ys i h) (k : ∀ b o, S < b → h.get? b = some o → h'.get? b = some o) : ZPairs S xs ys i h' := fun j hj => by
  obtain ⟨x, y, e1, e2, e3⟩ := p j hj
  exact ⟨x, y, e1, e2, k _ _ (by omega) e3⟩
end DL
set_option maxHeartbeats 4000000
set_option maxHeartbeats 4000000
set_option maxHeartbeats 4000000
namespace DL
open PySem PySem.Spec PyProof.Rows L2
theorem VR.lstF {K : PySem.W.Frag} {δ : DkS} {F H : Hp} {x : Dv} {v : V} {ds : List PyData} (h : VR K δ F H x v) (hs : Same F H) (e : x.toD = .list ds) : ∃ a xs, v = .ref a ∧ H a = some (.lst xs) ∧ Rps K F ds xs := by
  cases x with
  | dat d =>
    simp only [Dv.toD] at e
    subst e
    simp only [VR, Rp] at h
    obtain ⟨a, xs, rfl, h1, h2⟩ := h
    exact ⟨a, xs, rfl, hs _ _ h1, h2⟩
  | vw es =>
    simp only [Dv.toD] at e
    injection e with e
    subst e
    obtain ⟨a, xs, rfl, h1, h2, _⟩ := h
    exact ⟨a, xs, rfl, h1, h2⟩
  | mt es => exact h.elim
  | deck k => cases e
  | md a ks => exact h.elim
section
variable {X : Cx} {Y : Fx}
def mCat (t u : DTE) : DTM := fun ρ n R => t ρ n fun x n1 => u ρ n1 fun y n2 => ∃ ds es, x.toD = .list ds ∧ y.toD = .list es ∧ ds.length + es.length ≤ sizeLine ∧ R (ds ++ es) n2
theorem me_cat {a b : Expr} {t u : DTE} {pos : Pos} (ha : WE Y X a t) (hb : WE Y X b u) : ME Y X (.BinOp a .Add b pos) (mCat t u) :=
  pe_imp (pe_op op_cat ha hb) fun σ H Q ⟨Z, F, ρ, n, R, r, ht, k⟩ => ⟨Z, F, ρ, n, _, r, ht, fun x n1 F1 H1 v hx g1 s1 d1 w1 => ⟨Z, F1, ρ, n1, _, r.step g1 s1 d1, hx, fun y n2 F2 H2 v2 hy g2 s2 d2 w2 => by
    obtain ⟨ds, es, e1, e2, hl, hR⟩ := hy
    obtain ⟨p1, xs, rfl, h1, r1⟩ := (w1.step g2).lstF s2 e1
    obtain ⟨p2, ys, rfl, h2, r2⟩ := w2.lstF s2 e2
    refine ⟨p1, p2, xs, ys, rfl, rfl, h1, h2, by rw [← r1.length, ← r2.length]; exact hl, fun p hp => ?_⟩
    obtain ⟨g3, s3⟩ := Gp.newM (o := .lst (xs ++ ys)) hp s2
    have g12 := g1.trans g2
    have hp0 : H p = none := by
      cases e : H p with
      | none => rfl
      | some o => exact absurd hp (g12.dH p (by rw [e]; nofun))
    exact k _ _ _ _ _ _ hR (g12.trans g3.gr) s3 (g3.dk (((r.step g1 s1 d1).step g2 s2 d2).b)) hp0 (s2.free hp) upd_same (r1.append r2)⟩⟩
end
theorem Has.mono {P : Program} {w : World} {K : PySem.W.Frag} {mg : Str → Option Value} {base : Heap} {x : Str} {j k : Nat} {ps : List Str} {c : DSpec} (h : Has P w K mg base x j ps c) (hj : j ≤ k) : Has P w K mg base x k ps c := by
  obtain ⟨f, fd, h1, h2, h3, h4⟩ := h
  exact ⟨f, fd, h1, h2, h3, h4.mono hj⟩
end DL
set_option maxHeartbeats 4000000
namespace DL
open PySem PySem.Spec PyProof.Rows L2
structure FnGX (P : Program) (w : World) (K : PySem.W.Frag) (mg : Str → Option Value) (base : Heap) (k : Nat) (f : Addr) (fd : FuncData) (ps : List Str) (sp : Sp) : Prop where
  len : ∀ vs H Q E, sp vs H Q E → vs.length = ps.length
  run : ∀ (A : Around) (outer : List Env) (s : Shared) (H : Hp) (args : Args) (us : List Value) (vs : List V) (Q : VK) (E : XK), A.guards = some [] → Room k A → Env0 P w K mg base A outer s H →
    BindsTo s fd args (ps.zip us) → Vals vs us → sp vs H Q E → codeAny (model P w) A (.call (.ref f) args) (CR (L2.CX P w) outer P w H s Q E) s
section
variable {P : Program} {w : World} {K : PySem.W.Frag} {mg : Str → Option Value} {base : Heap} {j k : Nat} {f : Addr} {fd : FuncData} {ps : List Str} {sp : Sp}
theorem FnGX.mono (F : FnGX P w K mg base j f fd ps sp) (h : j ≤ k) : FnGX P w K mg base k f fd ps sp :=
  ⟨F.len, fun A outer s H args us vs Q E hg hr => F.run A outer s H args us vs Q E hg (hr.mono h)⟩
theorem FnG.x (F : FnG P w K mg base k f fd ps sp) : FnGX P w K mg base k f fd ps (fun vs H Q _ => sp vs H Q E0) :=
  ⟨fun vs H Q _ h => F.len vs H Q E0 h, fun A outer s H args us vs Q E hg hr e0 hb rv h => codeAny_mono (F.run A outer s H args us vs Q hg hr e0 hb rv h) fun q s' hq => by
    cases q with
    | error e => exact hq.elim
    | ok fl =>
      cases fl with
      | ret u => exact hq
      | next => exact hq
      | brk => exact hq
      | cont => exact hq⟩
theorem fngx_of {x qual : Str} {st : Stmt} {N : List Str} (F : Fun K x qual st f fd) (S : FnScope N ps (defScope st)) (len : ∀ vs H Q E, sp vs H Q E → vs.length = ps.length)
    (hb : ∀ (cdv : Value) (A : Around) (outer : List Env) (s : Shared) (H : Hp) (vs : List V) (Q : VK) (E : XK), A.guards = some [] → Room k (A.deeper (envOfC qual (defScope st) s.heap.objs.size f cdv)) → sp vs H Q E →
      ∃ t, PSs (cxOf (L2.CX P w) P w K mg base N qual (defScope st) f cdv A outer s H E) (defBody st) t ∧ t { nx := fun _ H' => Q .non H', rt := Q } (start N vs) H) : FnGX P w K mg base (k + 1) f fd ps sp := by
  refine ⟨len, fun A outer s H args us vs Q E hgd hr e0 hbi rv hsp => ?_⟩
  obtain ⟨oc, od, kV, doc, pm, an, cdv, ct, osl, rfl, lk, hcd⟩ := F.ex
  have hl := len _ _ _ _ hsp
  have kin : K.In s.heap := e0.mod.kin.keeps fun b o e => (e0.bs b o e).1
  have lim : s.heap.NoLimit := e0.mod.nolimit.keeps fun b o e => (e0.bs b o e).1
  refine Att.call_fn kin lim lk hcd hr.depth hbi (List.all_eq_true.mpr fun ⟨y, u⟩ hy => ?_) (fun s1 x => ?_) S.co S.gen S.kind
  · rcases S.par y (List.of_mem_zip hy).1 with q | q <;> simp [q]
  · obtain ⟨t, ht, hq⟩ := hb cdv A outer s H vs Q E hgd (hr.deeper _) hsp
    have I := inv_start (CX := L2.CX P w) (P := P) (w := w) (E := E) S hr.hd e0 hl rv x
    refine wpAny_mono (ht.run [] s1 (start N vs) H _ I hq) (fun fl s' hs => ?_) fun e s' hs => hs
    have fin : ∀ {σ' : L2.St} {H' : Hp} {v : V} {u : Value}, Inv (cxOf (L2.CX P w) P w K mg base N qual (defScope st) f cdv A outer s H E) [] σ' H' s' → RelV v u → Q v H' → CE outer P w H s Q u s' :=
      fun J r q => ⟨_, _, J.os, J.bare, J.base, J.hok, r, q⟩
    cases fl with
    | ret u =>
      obtain ⟨v, σ', H', J, r, q⟩ := hs
      exact fin J r q
    | next =>
      obtain ⟨σ', H', J, q⟩ := hs
      exact fin (v := V.non) (u := Value.none) J rfl q
    | brk => obtain ⟨_, _, _, q⟩ := hs; exact q.elim
    | cont => obtain ⟨_, _, _, q⟩ := hs; exact q.elim
end
section
variable {X : Cx} {k : Nat} {f : Addr} {fd : FuncData} {ps : List Str} {sp : Sp}
theorem runx_make {pins : List (Addr × Obj)} {σ : L2.St} {H : Hp} {s : Shared} {Q : VK} {E : XK} {C : Addr} {us : List Value} {vs : List V} (M : Mk X.K C f) (F : FnGX X.prog X.w X.K X.mg X.base k f fd ps sp) (hgd : X.A.guards = some []) (hr : Room (k + 1) X.A) (hb : Binds X.K fd ps [])
    (hx : PassesAt (L2.CX X.prog X.w) X σ E) (I : Inv X pins σ H s) (r : Vals vs us)
    (h : ∀ x dx, H x = none → H dx = none → dx ≠ x → sp (.ref x :: vs) (upd (upd H dx (.own x)) x (.ins C dx [])) (fun v H2 => v = .non ∧ Q (.ref x) H2) E) :
    wpAny (model X.prog X.w) X.A (call (.ref C) us) (EP X pins σ Q) X.xe s := by
  have hq := h (s.heap.objs.size + 1) s.heap.objs.size (I.hok.fresh (Nat.le_succ _)) (I.hok.fresh (Nat.le_refl _)) (Nat.ne_of_lt (Nat.lt_succ_self _))
  have I2 := Inv.made (C := C) I
  have r2 : Vals (V.ref (s.heap.objs.size + 1) :: vs) (Value.ref (s.heap.objs.size + 1) :: us) := .cons rfl r
  have hl : (Value.ref (s.heap.objs.size + 1) :: us ++ []).length = ps.length := by
    have e := r2.length
    rw [F.len _ _ _ _ hq] at e
    rw [List.append_nil]
    exact e.symm
  have hbi := hb _ (Value.ref (s.heap.objs.size + 1) :: us) I2.kIn hl
  rw [List.append_nil] at hbi
  refine wpAny_call (make_map (f := f) I.kIn M.makes M.init (beq_iff_eq.mp M.fn) (codeAny_mono (F.run _ X.stack _ _ ⟨Value.ref (s.heap.objs.size + 1) :: us, []⟩ (Value.ref (s.heap.objs.size + 1) :: us) _ _ E hgd (hr.make C us [])
    (I2.env0.make C us []) hbi r2 hq) fun r s' hq' => ?_))
  cases r with
  | error e => exact hx pins _ _ e s' I2 hq'
  | ok fl =>
    cases fl with
    | ret u =>
      obtain ⟨v, H', I3, rv, ev, q3⟩ := I2.after hq'
      subst ev
      exact ⟨rv, ⟨V.ref (s.heap.objs.size + 1), H', I3, rfl, q3⟩⟩
    | next => exact False.elim hq'
    | brk => exact False.elim hq'
    | cont => exact False.elim hq'
end
structure Ex where
  C : Addr
  fs : List (Str × PyData)
def ExR (K : PySem.W.Frag) (F : Hp) (ex : Ex) (cls : Value) (d : Option Addr) : Prop := cls = .ref ex.C ∧ XoAt K F ⟨cls, d, ex.fs⟩
theorem ExR.mono {K : PySem.W.Frag} {F F' : Hp} {ex : Ex} {cls : Value} {d : Option Addr} (h : ExR K F ex cls d) (e : Same F F') : ExR K F' ex cls d := ⟨h.1, h.2.mono e⟩
abbrev DSpecX := List Dv → Wo → (PyData → Wo → Prop) → (Ex → Wo → Prop) → Prop
def spDX (K : PySem.W.Frag) (m : Nat) (c : DSpecX) : Sp := fun vs H Q Eh => ∃ δ F as n R E, as.length = m ∧ VRs K δ F H as vs ∧ Same F H ∧ δ.at_ K F H n ∧ (∀ a, a ∈ δ.own → F a = none ∧ H a ≠ none) ∧ c as n R E ∧
  (∀ d n' F' H' v, R d n' → Gr δ F H F' H' → Same F' H' → δ.at_ K F' H' n' → Rp K F' d v → Q v H') ∧
  ∀ ex n' F' H' cls d, E ex n' → Gr δ F H F' H' → Same F' H' → δ.at_ K F' H' n' → ExR K F' ex cls d → Eh cls d H'
/-- what is wished of an error, at the slots -/
abbrev DW := Ex → Rho → Wo → Prop
def WOk (Y : Fx) (K : PySem.W.Frag) (dw : DW) (W : WX) : Prop := ∀ ex ρ n F H σ cls d Z, dw ex ρ n → SR Y K Z F H σ ρ n → ExR K F ex cls d → W cls d σ H
def dwN : DW := fun _ _ _ => False
theorem wok0 {Y : Fx} {K : PySem.W.Frag} : WOk Y K dwN (fun _ _ _ _ => False) := fun _ _ _ _ _ _ _ _ _ h _ _ => h
/-- THE RULE for a def that may raise: its body over data -/
theorem fndX {P : Program} {w : World} {K : PySem.W.Frag} {mg : Str → Option Value} {base : Heap} {x qual : Str} {st : Stmt} {f : Addr} {fd : FuncData} {N ps : List Str} {k : Nat} (c : DSpecX) (F : Fun K x qual st f fd) (S : FnScope N ps (defScope st))
    (hb : ∀ (cdv : Value) (A : Around) (outer : List Env) (s : Shared) (H : Hp) (Eh : XK), A.guards = some [] → Room k (A.deeper (envOfC qual (defScope st) s.heap.objs.size f cdv)) → ∀ (Y : Fx) (E : Ex → Wo → Prop), WOk Y K (fun ex _ n => E ex n) (fun cls d _ H => Eh cls d H) →
      Takes (cxOf (L2.CX P w) P w K mg base N qual (defScope st) f cdv A outer s H Eh) (fun cls d _ H => Eh cls d H) →
      ∃ t, DSs Y (cxOf (L2.CX P w) P w K mg base N qual (defScope st) f cdv A outer s H Eh) (defBody st) t ∧ ∀ as n R, as.length = ps.length → c as n R E → t { nx := fun _ n' => R .none n', rt := R } (startR N as) n) : FnGX P w K mg base (k + 1) f fd ps (spDX K ps.length c) := by
  refine fngx_of F S (fun vs H Q E ⟨δ, Fz, as, n, R, E', hl, w1, _⟩ => by rw [← Paired.length w1]; exact hl) fun cdv A outer s H vs Q Eh hgd hr ⟨δ, Fz, as, n, R, E, hl, w1, s1, d1, o1, hc, hk, hx⟩ => ?_
  obtain ⟨t, h1, h2⟩ := hb cdv A outer s H Eh hgd hr ⟨Fz, H, δ⟩ E (fun ex ρ n' F' H' σ cls d Z he r hd => hx _ _ _ _ _ _ he r.gr r.b.sub (by have q := r.b.dk; rw [r.de] at q; exact q) hd) (takes_of rfl rfl rfl rfl)
  exact ⟨_, h1, ⟨Fz, H, δ⟩, Fz, startR N as, n, _, sr_start w1 s1 d1 o1, h2 as n R hl hc, ⟨fun F' H' σ' ρ' n' q r' => hk _ _ _ _ _ q (Base.gr o1 r'.b) r'.b.sub r'.b.dk (by simp [Rp]), fun d n' F' H' v q b q2 => hk _ _ _ _ _ q (Base.gr o1 b) b.sub b.dk q2, fun _ _ _ _ _ q _ => q.elim, fun _ _ _ _ _ q _ => q.elim⟩⟩
end DL
set_option maxHeartbeats 4000000
namespace DL
open PySem PySem.Spec PyProof.Rows L2
def putD (f : Str) (d : PyData) : List (Str × PyData) → List (Str × PyData)
  | [] => [(f, d)]
  | (g, x) :: r => if g = f then (g, d) :: r else (g, x) :: putD f d r
section
variable {K : PySem.W.Frag} {F : Hp}
theorem FsR.lookup {f : Str} {d : PyData} : ∀ {fs : List (Str × PyData)} {vs : List (Str × V)}, FsR K F fs vs → fs.lookup f = some d → ∃ v, vs.lookup f = some v ∧ Rp K F d v
  | [], _, .nil, h => by cases h
  | (g, x) :: fs, _, .cons (b := (g', v)) (l₂ := vs) hr ht, h => by
    obtain ⟨e, hr⟩ := hr
    have e : g = g' := e
    subst e
    by_cases q : f = g
    · subst q
      have h2 : List.lookup f ((f, x) :: fs) = some x := by simp [List.lookup]
      rw [h2] at h
      cases h
      exact ⟨v, by simp [List.lookup], hr⟩
    · have q2 : (f == g) = false := by simpa using q
      have h2 : List.lookup f ((g, x) :: fs) = List.lookup f fs := by simp [List.lookup, q2]
      rw [h2] at h
      obtain ⟨w, e1, e2⟩ := FsR.lookup ht h
      exact ⟨w, by simp only [List.lookup, q2]; exact e1, e2⟩
theorem FsR.put {f : Str} {d : PyData} {v : V} (hd : Rp K F d v) : ∀ {fs : List (Str × PyData)} {vs : List (Str × V)}, FsR K F fs vs → FsR K F (putD f d fs) (putF f v vs)
  | [], _, .nil => .cons ⟨rfl, hd⟩ .nil
  | (g, x) :: fs, _, .cons (b := (g', u)) (l₂ := vs) hr ht => by
    obtain ⟨e, hr⟩ := hr
    have e : g = g' := e
    subst e
    unfold putD putF
    by_cases q : g = f
    · rw [if_pos q, if_pos q]; exact .cons ⟨rfl, hd⟩ ht
    · rw [if_neg q, if_neg q]; exact .cons ⟨rfl, hr⟩ (FsR.put hd ht)
theorem VR.ref {δ : DkS} {H : Hp} {a : Addr} {v : V} (h : VR K δ F H (.dat (refD a)) v) : v = .ref a := Rp.ref (K := K) (F := F) h
theorem vr_ref {δ : DkS} {H : Hp} {a : Addr} : VR K δ F H (.dat (refD a)) (.ref a) := rp_ref (K := K) (F := F)
theorem FsR.length {fs : List (Str × PyData)} {vs : List (Str × V)} (h : FsR K F fs vs) : fs.length = vs.length := Paired.length h
end
/-- a class whose instances are plain, and a field of it -/
structure FldC (K : PySem.W.Frag) (C : Addr) (f : Str) : Prop where
  c : Cls K C
  n : NoAttr K C f
section
variable {X : Cx} {Y : Fx}
/-- e.f -/
def dFld (K : PySem.W.Frag) (f : Str) (t : DTE) : DTE := fun ρ n R => t ρ n fun x n1 => ∃ a o d, x = .dat (refD a) ∧ n1.ob a = some o ∧ FldC K o.C f ∧ o.fs.lookup f = some d ∧ R (.dat d) n1
theorem we_fld {e : Expr} {f : Str} {t : DTE} {pos : Pos} (he : WE Y X e t) (hb : attributeBase e f X.env (eval e X.env) = eval e X.env := by rfl) : WE Y X (.Attribute e f pos) (dFld X.K f t) :=
  pe_imp (pe_fld he hb) fun σ H Q ⟨Z, F, ρ, n, R, r, ht, k⟩ => ⟨Z, F, ρ, n, _, r, ht, fun x n1 F1 H1 v ⟨a, o, d, ex, ho, hc, hl, hR⟩ g1 s1 d1 w1 => by
    subst ex
    obtain rfl := VR.ref w1
    obtain ⟨_, dx, vs, h2, h3⟩ := d1.2.1 a o ho
    obtain ⟨u, h4, h5⟩ := h3.lookup hl
    exact ⟨a, o.C, dx, vs, u, rfl, h2, hc.c, hc.n, h4, k _ _ _ _ _ hR g1 s1 d1 h5⟩⟩
/-- an object is written -/
theorem at_put {K : PySem.W.Frag} {δ : DkS} {F H : Hp} {n : Wo} {a dx : Addr} {o : Ob} {C : Addr} {vs vs' : List (Str × V)} {fs' : List (Str × PyData)} (h : δ.at_ K F H n) (ho : n.ob a = some o) (hH : H a = some (.ins o.C dx vs)) (hr : FsR K F fs' vs') :
    δ.at_ K F (upd H a (.ins o.C dx vs')) (n.put a ⟨o.C, fs'⟩) :=
  ⟨δ.stay H _ n.n (fun b hb => upd_ne fun q => by
      obtain ⟨xs, e⟩ := δ.lsts H n.n h.1 b hb
      rw [q, hH] at e
      cases e) h.1,
    ⟨fun b ob e => by
      have e : (if b = a then some ⟨o.C, fs'⟩ else n.ob b) = some ob := e
      by_cases q : b = a
      · rw [if_pos q] at e
        cases e
        subst q
        exact ⟨(h.2.1 b o ho).1, dx, vs', upd_same, hr⟩
      · rw [if_neg q] at e
        obtain ⟨h1, dx', us, h2, h3⟩ := h.2.1 b ob e
        exact ⟨h1, dx', us, by rw [upd_ne q]; exact h2, h3⟩, h.2.2⟩⟩
theorem gr_put {δ : DkS} {F H : Hp} {a dx C : Addr} {vs vs' : List (Str × V)} (hH : H a = some (.ins C dx vs)) : Gr δ F H F (upd H a (.ins C dx vs')) where
  sF := Same.refl _
  nF := fun _ _ h => h
  kH := fun b o _ e hi => by
    rw [upd_ne fun q => by rw [q, hH] at e; cases e; cases hi]
    exact e
  iH := fun b C' dx' fs e => by
    by_cases q : b = a
    · subst q
      rw [hH] at e
      cases e
      exact ⟨vs', upd_same⟩
    · exact ⟨fs, by rw [upd_ne q]; exact e⟩
  dH := fun b h => by
    by_cases q : b = a
    · subst q; rw [upd_same]; nofun
    · rw [upd_ne q]; exact h
theorem same_put {F H : Hp} {a : Addr} {u : HO} (hs : Same F H) (hF : F a = none) : Same F (upd H a u) := fun b o e => by
  rw [upd_ne (ne_of_none e hF)]; exact hs _ _ e
/-- o.f = e -/
def dFldS (K : PySem.W.Frag) (f : Str) (to te : DTE) : DTS := fun E ρ n => te ρ n fun y n1 => needD y fun d => to ρ n1 fun x n2 => ∃ a o, x = .dat (refD a) ∧ n2.ob a = some o ∧ FldC K o.C f ∧ o.fs.length < 1000 ∧ E.nx ρ (n2.put a ⟨o.C, putD f d o.fs⟩)
theorem ds_fld {o e : Expr} {f : Str} {to te : DTE} {pos pos' : Pos} (ho : WE Y X o to) (he : WE Y X e te) (hs : swapsWith e (some (.Attribute o f pos')) pos.line X.env = pure false := by rfl) : DS Y X (.Assign [.Attribute o f pos'] e pos) (dFldS X.K f to te) :=
  ps_imp (ps_fld ho he hs) fun D σ H ⟨Z, F, ρ, n, E, r, ht, k⟩ => ⟨Z, F, ρ, n, _, r, ht, fun y n1 F1 H1 v hy g1 s1 d1 w1 => by
    obtain ⟨d, rfl, hy⟩ := needD_is hy
    have r1 := r.step g1 s1 d1
    refine ⟨Z, F1, ρ, n1, _, r1, hy, fun x n2 F2 H2 u ⟨a, o, ex, ho, hc, hl, hx⟩ g2 s2 d2 w2 => ?_⟩
    subst ex
    obtain rfl := VR.ref w2
    obtain ⟨hF, dx, vs, h2, h3⟩ := d2.2.1 a o ho
    have hd : Rp X.K F2 d v := Rp.mono g2.sF d v w1
    refine ⟨a, o.C, dx, vs, rfl, h2, hc.c, hc.n, by rw [← h3.length]; exact hl, ?_⟩
    have r2 := r1.step g2 s2 d2
    exact k.nx _ _ _ _ _ hx (r2.step (gr_put h2) (same_put s2 hF) (at_put (C := o.C) d2 ho h2 (h3.put hd)))⟩
theorem obN {K : PySem.W.Frag} {δ : DkS} {F H : Hp} {n : Wo} {x : Addr} (h : δ.at_ K F H n) (hx : H x = none) : n.ob x = none := by
  cases e : n.ob x with
  | none => rfl
  | some o =>
    obtain ⟨_, _, _, h2, _⟩ := h.2.1 x o e
    rw [hx] at h2; cases h2
theorem gr_mk {δ : DkS} {F H : Hp} {x dx : Addr} {u w : HO} (hx : H x = none) (hd : H dx = none) : Gr δ F H F (upd (upd H dx w) x u) :=
  (Gr.refl.chg hd).chg hx
theorem same_mk {F H : Hp} {x dx : Addr} {u w : HO} (hs : Same F H) (hx : H x = none) (hd : H dx = none) : Same F (upd (upd H dx w) x u) :=
  same_put (same_put hs (hs.free hd)) (hs.free hx)
theorem at_mk {K : PySem.W.Frag} {δ : DkS} {F H : Hp} {n : Wo} {x dx C : Addr} (hs : Same F H) (h : δ.at_ K F H n) (ho : ∀ a, a ∈ δ.own → F a = none ∧ H a ≠ none) (hx : H x = none) (hd : H dx = none) (hne : dx ≠ x) : δ.at_ K F (upd (upd H dx (.own x)) x (.ins C dx [])) (n.put x ⟨C, []⟩) := by
  have nd : dx ∉ δ.own := fun q => (ho dx q).2 hd
  have nx : x ∉ δ.own := fun q => (ho x q).2 hx
  have h1 := h.lay (u := .own x) nd hd
  have h2 := h1.lay (u := .ins C dx []) nx (by rw [upd_ne (Ne.symm hne)]; exact hx)
  refine ⟨h2.1, fun b ob e => ?_, h2.2.2⟩
  have e : (if b = x then some ⟨C, []⟩ else n.ob b) = some ob := e
  by_cases q : b = x
  · rw [if_pos q] at e
    cases e
    subst q
    exact ⟨hs.free hx, dx, [], upd_same, .nil⟩
  · rw [if_neg q] at e
    exact h2.2.1 b ob e
def dMake (C : Addr) (c : DSpecX) (dw : DW) (t : DTA) : DTE := fun ρ n R => t ρ n fun as n1 => ∀ x, n1.ob x = none → c (.dat (refD x) :: as) (n1.put x ⟨C, []⟩) (fun d n2 => d = .none ∧ R (.dat (refD x)) n2) fun ex n2 => dw ex ρ n2
theorem make_im {m : Nat} {C : Addr} {c : DSpecX} {dw : DW} {W : WX} {t : DTA} (ok : WOk Y X.K dw W) (hm : ∀ as n R E, c as n R E → as.length = m) : ∀ σ H Q, up Y X.K (dMake C c dw t) σ H Q → (upA Y X.K t) σ H fun vs H1 => ∀ x dx, H1 x = none → H1 dx = none → dx ≠ x →
    spDX X.K m c (.ref x :: vs) (upd (upd H1 dx (.own x)) x (.ins C dx [])) (fun v H2 => v = .non ∧ Q (.ref x) H2) (L2.WE W σ) :=
  fun σ H Q ⟨Z, F, ρ, n, R, r, ht, k⟩ => ⟨Z, F, ρ, n, _, r, ht, fun as n1 F1 H1 vs hx g1 s1 d1 w1 => fun x dx nx nd ne => by
    have r1 := r.step g1 s1 d1
    have gm : Gr Z.δ F1 H1 F1 (upd (upd H1 dx (.own x)) x (.ins C dx [])) := gr_mk nx nd
    have sm : Same F1 (upd (upd H1 dx (.own x)) x (.ins C dx [])) := same_mk s1 nx nd
    have dm := at_mk (C := C) s1 d1 r1.b.dkF nx nd ne
    have r2 := r1.step gm sm dm
    have hc := hx x (obN d1 nx)
    refine ⟨Z.δ, F1, _, _, _, _, hm _ _ _ _ hc, .cons vr_ref (Paired.mapP w1 fun a b h => h.step gm), sm, dm, r2.b.dkF, hc, fun d n2 F2 H2 v ⟨e, h2⟩ g2 s2 d2 w2 => ?_, fun ex n2 F2 H2 cls d h2 g2 s2 d2 w2 => ok _ _ _ _ _ _ _ _ _ h2 (r2.step g2 s2 d2) w2⟩
    subst e
    simp only [Rp] at w2
    exact ⟨w2, k _ _ _ _ _ h2 ((g1.trans gm).trans g2) s2 d2 vr_ref⟩⟩
theorem we_make {k : Nat} {C : Addr} {c : DSpecX} {dw : DW} {W : WX} {f : Addr} {fd : FuncData} {ps : List Str} {x : Str} {p pos : Pos} {e : Expr} {es : List Expr} {t : DTA} (tk : Takes X W) (ok : WOk Y X.K dw W) (M : Mk X.K C f) (F : FnGX X.prog X.w X.K X.mg X.base k f fd ps (spDX X.K ps.length c)) (hc : ∀ as n R E, c as n R E → as.length = ps.length) (hgd : X.A.guards = some []) (hr : Room (k + 1) X.A) (hg : Gl X x) (hm : X.mg x = some (.ref C)) (hb : Binds X.K fd ps [])
    (ha : WA Y X (e :: es) t) (hdb : (x == ("__debug__" : Str)) = false := by decide) (he : starEach (e :: es) X.env = (false, eval e X.env) :: starEach es X.env := by rfl) (hpl : (backTo pos (starEach es X.env)).any (·.1) = false := by rfl) :
    WE Y X (.Call (.Name x p) (e :: es) [] pos) (dMake C c dw t) :=
  ⟨fun pins s σ H Q I h => wpAny_Call_Name_kw (ld_glob I hg hm (PySem.W.callWith_K (h₀ := X.base) I.ok.mod.kin M.kp (thn (ha.run pos pins s σ H _ I (make_im (m := ps.length) ok hc σ H Q h)) fun us s1 ⟨vs, H1, I1, r, q⟩ => ⟨I1.kIn, runx_make M F hgd hr hb (passAt tk σ) I1 r q⟩) he hpl) hdb)⟩
/-- every class of PC has the method m, and it keeps c -/
def HasM (P : Program) (w : World) (K : PySem.W.Frag) (mg : Str → Option Value) (base : Heap) (PC : Addr → Prop) (m : Str) (k : Nat) (ps : List Str) (c : Addr → DSpecX) : Prop :=
  ∀ C, PC C → Cls K C ∧ ∃ g fd, Meth K C m g ∧ Binds K fd ps [] ∧ FnGX P w K mg base k g fd ps (spDX K ps.length (c C))
end
end DL
set_option maxHeartbeats 4000000
namespace DL
open PySem PySem.Spec PyProof.Rows L2
/-- what the __init__ of an error class with one field keeps -/
def spEI (C : Addr) (f : Str) : Sp := fun vs H Q _ => ∃ a v, vs = [.ref a, v] ∧ H a = some (exo a C none) ∧ ∀ dx, H dx = none → dx ≠ a → Q .non (upd (upd H dx (exd dx [(f, v)])) a (exo a C (some dx)))
theorem heap_back {H : Hp} {a d : Addr} {o u w x : HO} (ha : H a = none) (hne : d ≠ a) : upd (del (upd (upd (upd H a o) d u) a w) a) d x = upd H d x := by
  funext b
  by_cases h1 : b = d
  · subst h1; rw [upd_same, upd_same]
  · rw [upd_ne h1, upd_ne h1]
    by_cases h2 : b = a
    · subst h2; rw [del_same, ha]
    · rw [del_ne h2, upd_ne h2, upd_ne h1, upd_ne h2]
/-- what an error class of one field must have -/
structure ErrC (P : Program) (w : World) (K : PySem.W.Frag) (mg : Str → Option Value) (base : Heap) (x : Str) (C : Addr) (f : Str) : Prop where
  g : mg x = some (.ref C)
  T : OexC K C
  i : ∃ fI fd ps, PySem.W.findIn K (.ref C) "__init__" = some (some (.ref fI)) ∧ PySem.W.typeIn K (.ref fI) = some (.type "function") ∧ FnOk P w K mg base CX0 1 fI fd ps (spEI C f) ∧ Binds K fd ps []
section
variable {X : Cx} {Y : Fx} {dw : DW} {W : WX}
def dRaise (C : Addr) (f : Str) (dw : DW) (t : DTE) : DTS := fun _ ρ n => t ρ n fun x n1 => needD x fun d => dw ⟨C, [(f, d)]⟩ ρ n1
theorem ds_raise {C : Addr} {x f : Str} {e : Expr} {t : DTE} {p pos pos2 : Pos} (hc : X.calm = true) (tk : Takes X W) (ok : WOk Y X.K dw W) (T : ErrC X.prog X.w X.K X.mg X.base x C f) (hr : Room 2 X.A) (hg : Gl X x) (ha : WE Y X e t)
    (hdb : (x == ("__debug__" : Str)) = false := by decide) (he : starEach [e] X.env = (false, eval e X.env) :: starEach [] X.env := by rfl) (hpl : (backTo pos (starEach [] X.env)).any (·.1) = false := by rfl) :
    DS Y X (.Raise (some (.Call (.Name x p) [e] [] pos)) none pos2) (dRaise C f dw t) := by
  obtain ⟨fI, fd, ps, i1, i2, i3, i4⟩ := T.i
  refine ps_imp (ps_raise hc tk (pmk_oex (k := 1) (ds := []) (dvs := []) T.T i1 i2 i3 hr i4 .nil pass0 hg T.g (pa_cons ha pa_nil he) hdb he hpl)) fun D σ H ⟨Z, F, ρ, n, E, r, ht, k⟩ => ?_
  refine ⟨Z, F, ρ, n, _, r, ht, fun y n1 F1 H1 v hy g1 s1 d1 w1 => ?_⟩
  obtain ⟨d, rfl, hy⟩ := needD_is hy
  refine ⟨(by decide : 1 ≤ 1000), fun a ha => ⟨a, v, rfl, upd_same, fun dx h1 h2 => ?_⟩⟩
  have hd1 : H1 dx = none := by rw [upd_ne h2] at h1; exact h1
  refine ⟨rfl, dx, [(f, v)], upd_same, by rw [upd_ne h2]; exact upd_same, hd1, ?_⟩
  rw [heap_back ha h2]
  have r1 := r.step g1 s1 d1
  obtain ⟨g2, s2⟩ := Gp.new (o := .xd [(f, v)]) hd1 s1
  exact ok _ _ _ _ _ _ _ _ _ hy (r1.step g2.gr s2 (g2.dk r1.b)) ⟨rfl, .inr ⟨dx, _, rfl, upd_same, .cons ⟨rfl, Rp.mono g2.sF d v w1⟩ .nil⟩⟩
/-- a def's entry, moved to where F stands -/
def Fx.at_ (Y : Fx) (F : Hp) : Fx := ⟨F, Y.H0, Y.δ⟩
end
end DL
set_option maxHeartbeats 4000000
namespace DL
open PySem PySem.Spec PyProof.Rows L2
/-- .. of a plain class -/
structure InsC (K : PySem.W.Frag) (C : Addr) : Prop where
  c : Cls K C
  ca : PySem.W.findIn K (.ref C) "__class__" = some (some (.builtin "object.__class__"))
  cg : PySem.W.specialIn K (.builtin "object.__class__") "__get__" = some (some (.builtin "getset_descriptor.__get__"))
  ct : PySem.W.takesIn K (.builtin "object.__class__") = some true
  mo : PySem.W.mroIn K C (.type "object") = some true
section
variable {X : Cx} {Y : Fx}
def TyDv (K : PySem.W.Frag) (n : Wo) (x : Dv) (ty : Value) : Prop := (isDR x = false ∧ ty = .type (tyD x.toD)) ∨ ∃ a o, x = .dat (refD a) ∧ n.ob a = some o ∧ InsC K o.C ∧ ty = .ref o.C
theorem TyDv.x {K : PySem.W.Frag} {δ : DkS} {F H : Hp} {n : Wo} {x : Dv} {v : V} {ty : Value} (h : TyDv K n x ty) (hv : VR K δ F H x v) (hs : Same F H) (hd : δ.at_ K F H n) : TyX K H v ty := by
  rcases h with ⟨h1, rfl⟩ | ⟨a, o, rfl, ho, hc, rfl⟩
  · exact tyD_of (hv.rp hs (isDR_dk h1)) (isDR_rf h1)
  · obtain rfl := VR.ref hv
    obtain ⟨_, dx, vs, h2, _⟩ := hd.2.1 a o ho
    exact .base (.ins h2 hc.c hc.ca hc.cg hc.ct hc.mo)
def dIs (K : PySem.W.Frag) (cv : Value) (t : DTE) : DTE := fun ρ n R => t ρ n fun x n1 => ∃ ty b, TyDv K n1 x ty ∧ PySem.W.kitOne K ty cv = some b ∧ R (.dat (.bool b)) n1
theorem we_is {c : V} {cv : Value} {e ec : Expr} {t : DTE} {p pos : Pos} (hg : Gl X "isinstance") (hm : X.mg "isinstance" = none) (he : WE Y X e t) (hec : PE X ec (tC c)) (hcv : ClsV c cv)
    (h1 : starEach [e, ec] X.env = (false, eval e X.env) :: starEach [ec] X.env := by rfl) (h2 : starEach [ec] X.env = (false, eval ec X.env) :: starEach [] X.env := by rfl) (hpl : (backTo pos (starEach [ec] X.env)).any (·.1) = false := by rfl) :
    WE Y X (.Call (.Name "isinstance" p) [e, ec] [] pos) (dIs X.K cv t) :=
  pe_imp (pe_callB call_isi hg hm PyProof.Rows.boot_isinstance (pa_cons he (pa_cons hec pa_nil h2) h1) (by decide) (by decide) h1 hpl) fun σ H Q ⟨Z, F, ρ, n, R, r, ht, k⟩ =>
    ⟨Z, F, ρ, n, _, r, ht, fun x n1 F1 H1 v ⟨ty, b, hty, hk, hR⟩ g1 s1 d1 w1 => ⟨v, c, ty, cv, b, rfl, hcv, hty.x w1 s1 d1, hk, k _ _ _ _ _ hR g1 s1 d1 (by simp [VR, Rp])⟩⟩
end
end DL
set_option maxHeartbeats 4000000
namespace DL
open PySem PySem.Spec PyProof.Rows L2
def HasX (P : Program) (w : World) (K : PySem.W.Frag) (mg : Str → Option Value) (base : Heap) (x : Str) (k : Nat) (ps : List Str) (c : DSpecX) : Prop :=
  ∃ f fd, mg x = some (.ref f) ∧ PySem.W.keepIn K (.ref f) = true ∧ Binds K fd ps [] ∧ FnGX P w K mg base k f fd ps (spDX K ps.length c)
/-- the class x stands at C, and its __init__ keeps c -/
def HasC (P : Program) (w : World) (K : PySem.W.Frag) (mg : Str → Option Value) (base : Heap) (x : Str) (C : Addr) (k : Nat) (ps : List Str) (c : DSpecX) : Prop :=
  mg x = some (.ref C) ∧ (∀ as n R E, c as n R E → as.length = ps.length) ∧ ∃ f fd, Mk K C f ∧ Binds K fd ps [] ∧ FnGX P w K mg base k f fd ps (spDX K ps.length c)
section
variable {X : Cx} {Y : Fx} {dw : DW} {W : WX}
theorem we_hasC {k : Nat} {C : Addr} {c : DSpecX} {ps : List Str} {x : Str} {p pos : Pos} {e : Expr} {es : List Expr} {t : DTA} (tk : Takes X W) (ok : WOk Y X.K dw W) (h : HasC X.prog X.w X.K X.mg X.base x C k ps c) (hgd : X.A.guards = some []) (hr : Room (k + 1) X.A) (hg : Gl X x)
    (ha : WA Y X (e :: es) t) (hdb : (x == ("__debug__" : Str)) = false := by decide) (he : starEach (e :: es) X.env = (false, eval e X.env) :: starEach es X.env := by rfl) (hpl : (backTo pos (starEach es X.env)).any (·.1) = false := by rfl) :
    WE Y X (.Call (.Name x p) (e :: es) [] pos) (dMake C c dw t) := by
  obtain ⟨h1, h2, f, fd, h3, h4, h5⟩ := h
  exact we_make tk ok h3 h5 h2 hgd hr hg h1 h4 ha hdb he hpl
end
def inCls (st : Stmt) (j : Nat) : Stmt := match st with
  | .ClassDef _ _ _ b _ _ _ _ _ _ _ => b.getD j (.Pass ⟨0, 0, 0, 0⟩)
  | _ => .Pass ⟨0, 0, 0, 0⟩
end DL
namespace DL
open PySem PySem.Spec PyProof.Rows L2
theorem kit_own {K : PySem.W.Frag} {t : Value} {D : Addr} {b : Bool} (h1 : PySem.W.isClsIn K D = true) (h2 : PySem.W.typeIn K (.ref D) = some (.type "type")) (h3 : PySem.W.subIn K (.ref D) (.ref D) = some true) (h4 : PySem.W.subIn K t (.ref D) = some b) : PySem.W.kitOne K t (.ref D) = some b := by
  unfold PySem.W.kitOne
  by_cases e : (t == Value.ref D) = true
  · rw [if_pos e]
    have e2 : t = .ref D := beq_iff_eq.mp e
    rw [e2] at h4
    rw [← h4, h3]
  · rw [if_neg e]
    unfold PySem.W.kitCls
    have h1' : (PySem.W.clsIn K D).isSome = true := h1
    simp only [h1', h2, Bool.true_and]
    rw [if_pos (by simp)]
    exact h4
theorem kit_tyr {K : PySem.W.Frag} {T : String} {D : Addr} {b : Bool} (h1 : PySem.W.isClsIn K D = true) (h2 : PySem.W.typeIn K (.ref D) = some (.type "type")) (h4 : PySem.W.subIn K (.type T) (.ref D) = some b) : PySem.W.kitOne K (.type T) (.ref D) = some b := by
  unfold PySem.W.kitOne
  rw [if_neg (by simp)]
  unfold PySem.W.kitCls
  have h1' : (PySem.W.clsIn K D).isSome = true := h1
  simp only [h1', h2, Bool.true_and]
  rw [if_pos (by simp)]
  exact h4
end DL
set_option maxHeartbeats 4000000
namespace DL
open PySem PySem.Spec PyProof.Rows L2
section
variable {X : Cx} {Y : Fx} {k : Nat} {f : Addr} {fd : FuncData} {ps : List Str} {sp : Sp} {W : WX} {dw : DW} {PC : Addr → Prop} {m : Str} {c : Addr → DSpecX}
theorem runxA {A : Around} {pins : List (Addr × Obj)} {σ : L2.St} {H : Hp} {s : Shared} {Q : VK} {E : XK} {us : List Value} {vs : List V} (F : FnGX X.prog X.w X.K X.mg X.base k f fd ps sp) (hgd : A.guards = some []) (hr : Room k A) (e0 : Env0 X.prog X.w X.K X.mg X.base A X.stack s H) (hb : Binds X.K fd ps [])
    (hx : PassesAt (L2.CX X.prog X.w) X σ E) (I : Inv X pins σ H s) (r : Vals vs us) (h : sp vs H Q E) : wpAny (model X.prog X.w) A (call (.ref f) us) (EP X pins σ Q) X.xe s := by
  have hl : (us ++ []).length = ps.length := by rw [List.append_nil, ← r.length]; exact F.len _ _ _ _ h
  have hbi := hb s us I.kIn hl
  rw [List.append_nil] at hbi
  refine wpAny_call (codeAny_mono (F.run A X.stack s H ⟨us, []⟩ us vs Q E hgd hr e0 hbi r h) fun q s' hq => ?_)
  cases q with
  | error e => exact hx pins H s e s' I hq
  | ok fl =>
    cases fl with
    | ret u => exact I.after hq
    | next => exact hq.elim
    | brk => exact hq.elim
    | cont => exact hq.elim
/-- the method m of the object at a, called from below -/
theorem dun {A : Around} {pins : List (Addr × Obj)} {σ : L2.St} {H F : Hp} {s : Shared} {ρ : Rho} {n : Wo} {Z : Fx} {Q : VK} {a : Addr} {ob : Ob} {as : List Dv} {us : List Value} {vs : List V} {R' : PyData → Wo → Prop}
    (tk : Takes X W) (ok : WOk Y X.K dw W) (HM : HasM X.prog X.w X.K X.mg X.base PC m k ps c) (I : Inv X pins σ H s) (r : SR Y X.K Z F H σ ρ n) (hob : n.ob a = some ob) (hPC : PC ob.C)
    (w : VRs X.K Z.δ F H as vs) (rv : Vals vs us) (hlen : as.length + 1 = ps.length) (hx : c ob.C (.dat (refD a) :: as) n R' fun ex n3 => dw ex ρ n3)
    (kk : ∀ d n3 F3 H3 v, R' d n3 → Gr Z.δ F H F3 H3 → Same F3 H3 → Z.δ.at_ X.K F3 H3 n3 → Rp X.K F3 d v → Q v H3) :
    ∃ g dx od, PySem.W.InstAt s.heap a (PySem.W.instObj ob.C dx) ob.C (some od) ∧ Cls X.K ob.C ∧ Meth X.K ob.C m g ∧
      (A.guards = some [] → Room k A → Env0 X.prog X.w X.K X.mg X.base A X.stack s H → wpAny (model X.prog X.w) A (call (.ref g) (.ref a :: us)) (EP X pins σ Q) X.xe s) := by
  obtain ⟨_, dx, vs', h2, h3⟩ := r.b.dk.2.1 a ob hob
  obtain ⟨hcl, g, fd, hM, hB, hF⟩ := HM _ hPC
  obtain ⟨mA, O, _⟩ := ins_get I.hok h2
  obtain ⟨od, J, _⟩ := O.look
  refine ⟨g, dx, od, J, hcl, hM, fun hgd hr e0 => runxA (us := .ref a :: us) (vs := .ref a :: vs) hF hgd hr e0 hB (passAt tk σ) I (.cons rfl rv) ?_⟩
  exact ⟨Z.δ, F, .dat (refD a) :: as, n, R', _, hlen, .cons vr_ref w, r.b.sub, by have q := r.b.dk; exact q, r.b.dkF, hx, kk, fun ex n3 F3 H3 cls d h4 g3 s3 d3 w3 => ok _ _ _ _ _ _ _ _ _ h4 (r.step g3 s3 d3) w3⟩
/-- two values, left then right -/
theorem two_run {a b : Expr} {ta tb : DTE} (ha : WE Y X a ta) (hb : WE Y X b tb) {pins : List (Addr × Obj)} {s : Shared} {σ : L2.St} {H F : Hp} {Z : Fx} {ρ : Rho} {n : Wo} {P : Dv → Dv → Wo → Prop} (I : Inv X pins σ H s) (r : SR Y X.K Z F H σ ρ n)
    (h : ta ρ n fun x n1 => tb ρ n1 fun y n2 => P x y n2) {Q : Value → Shared → Prop} {f : Value → Value → Sem Value}
    (hf : ∀ v u s2 x y xv yv n2 F2 H2, Inv X pins σ H2 s2 → RelV xv v → RelV yv u → P x y n2 → Gr Z.δ F H F2 H2 → Same F2 H2 → Z.δ.at_ X.K F2 H2 n2 → VR X.K Z.δ F2 H2 x xv → VR X.K Z.δ F2 H2 y yv → wpAny (model X.prog X.w) X.A (f v u) Q X.xe s2) :
    wpAny (model X.prog X.w) X.A (eval a X.env) (fun v s₁ => wpAny (model X.prog X.w) X.A (eval b X.env) (fun u s₂ => wpAny (model X.prog X.w) X.A (f v u) Q X.xe s₂) X.xe s₁) X.xe s := by
  refine thn (ha.run pins s σ H (fun v H1 => ∃ x n1 F1, _ ∧ Gr Z.δ F H F1 H1 ∧ Same F1 H1 ∧ Z.δ.at_ X.K F1 H1 n1 ∧ VR X.K Z.δ F1 H1 x v) I ⟨Z, F, ρ, n, _, r, h, fun x n1 F1 H1 v hx g1 s1 d1 w1 => ⟨x, n1, F1, hx, g1, s1, d1, w1⟩⟩) fun u s1 ⟨v, H1, I1, rx, x, n1, F1, hx, g1, s1', d1, w1⟩ => ?_
  have r1 := r.step g1 s1' d1
  refine thn (hb.run pins s1 σ H1 (fun v H2 => ∃ y n2 F2, P x y n2 ∧ Gr Z.δ F1 H1 F2 H2 ∧ Same F2 H2 ∧ Z.δ.at_ X.K F2 H2 n2 ∧ VR X.K Z.δ F2 H2 y v) I1 ⟨Z, F1, ρ, n1, _, r1, hx, fun y n2 F2 H2 v hy g2 s2 d2 w2 => ⟨y, n2, F2, hy, g2, s2, d2, w2⟩⟩) fun u2 s2 ⟨v2, H2, I2, ry, y, n2, F2, hy, g2, s2', d2, w2⟩ => ?_
  exact hf u u2 s2 x y v v2 n2 F2 H2 I2 rx ry hy (g1.trans g2) s2' d2 (w1.step g2) w2
def dInO (neg : Bool) (PC : Addr → Prop) (c : Addr → DSpecX) (dw : DW) (ta tb : DTE) : DTE := fun ρ n R => ta ρ n fun x n1 => tb ρ n1 fun y n2 => ∃ a o, y = .dat (refD a) ∧ n2.ob a = some o ∧ PC o.C ∧
  c o.C [.dat (refD a), x] n2 (fun d n3 => ∃ q : Bool, d = .bool q ∧ R (.dat (.bool (if neg = true then !q else q))) n3) fun ex n3 => dw ex ρ n3
theorem inO_core {a b : Expr} {ta tb : DTE} {neg : Bool} {pos : Pos} (tk : Takes X W) (ok : WOk Y X.K dw W) (HM : HasM X.prog X.w X.K X.mg X.base PC "__contains__" k ps c) (hgd : X.A.guards = some []) (hr : Room k X.A) (hl : ps.length = 2) (ha : WE Y X a ta) (hb : WE Y X b tb)
    {pins : List (Addr × Obj)} {s : Shared} {σ : L2.St} {H : Hp} {Q : VK} (I : Inv X pins σ H s) (h : up Y X.K (dInO neg PC c dw ta tb) σ H Q) :
    wpAny (model X.prog X.w) X.A (eval a X.env) (fun v s₁ => wpAny (model X.prog X.w) X.A (eval b X.env) (fun u s₂ => wpAny (model X.prog X.w) X.A (compareOp (if neg = true then .NotIn else .In) v u) (EP X pins σ Q) X.xe s₂) X.xe s₁) X.xe s := by
  obtain ⟨Z, F, ρ, n, R, r, h, kk⟩ := h
  exact two_run ha hb I r h fun v u s2 x y xv yv n2 F2 H2 I2 rx ry ⟨a, o, ey, ho, hPC, hx⟩ g2 s2' d2 w2 w3 => by
    subst ey
    obtain rfl := VR.ref w3
    obtain rfl : u = Value.ref a := ry
    have r2 := r.step g2 s2' d2
    obtain ⟨g, dx, od, J, hcl, hM, run⟩ := dun (A := X.A) (Q := fun z H' => ∃ q : Bool, z = .bl q ∧ Q (.bl (if neg = true then !q else q)) H') (us := [v]) (vs := [xv]) tk ok HM I2 r2 ho hPC (.cons w2 .nil) (.cons rx .nil) hl.symm hx fun d n3 F3 H3 v ⟨q, ed, h4⟩ g3 s3 d3 w4 => by
      subst ed
      simp only [Rp] at w4
      exact ⟨q, w4, kk _ _ _ _ _ h4 (g2.trans g3) s3 d3 (by simp [VR, Rp])⟩
    obtain ⟨mm, hF⟩ := I2.fr
    cases neg with
    | false =>
      refine PySem.W.in_K hF I2.ok.mod.kin J hM.at_ hM.fn (wpAny_mono (run hgd hr I2.env0) (fun w s' ⟨z, H', I', rz, q, eq, hq⟩ => ?_) fun _ _ q => q)
      subst eq
      obtain rfl : w = Value.bool q := rz
      exact wpAny_truthy_bool ⟨.bl q, H', I', rfl, hq⟩
    | true =>
      refine PySem.W.notIn_K hF I2.ok.mod.kin J hM.at_ hM.fn (wpAny_mono (run hgd hr I2.env0) (fun w s' ⟨z, H', I', rz, q, eq, hq⟩ => ?_) fun _ _ q => q)
      subst eq
      obtain rfl : w = Value.bool q := rz
      exact wpAny_truthy_bool ⟨.bl (!q), H', I', rfl, hq⟩
theorem we_inO {a b : Expr} {ta tb : DTE} {pos : Pos} (tk : Takes X W) (ok : WOk Y X.K dw W) (HM : HasM X.prog X.w X.K X.mg X.base PC "__contains__" k ps c) (hgd : X.A.guards = some []) (hr : Room k X.A) (hl : ps.length = 2) (ha : WE Y X a ta) (hb : WE Y X b tb)
    (hm : behindInMarks .In b = false := by with_unfolding_all rfl) : WE Y X (.Compare a [.In] [b] pos) (dInO false PC c dw ta tb) :=
  ⟨fun pins s σ H Q I h => wpAny_Compare1 (inO_core (neg := false) (pos := pos) tk ok HM hgd hr hl ha hb I h) hm⟩
theorem we_notInO {a b : Expr} {ta tb : DTE} {pos : Pos} (tk : Takes X W) (ok : WOk Y X.K dw W) (HM : HasM X.prog X.w X.K X.mg X.base PC "__contains__" k ps c) (hgd : X.A.guards = some []) (hr : Room k X.A) (hl : ps.length = 2) (ha : WE Y X a ta) (hb : WE Y X b tb)
    (hm : behindInMarks .NotIn b = false := by with_unfolding_all rfl) : WE Y X (.Compare a [.NotIn] [b] pos) (dInO true PC c dw ta tb) :=
  ⟨fun pins s σ H Q I h => wpAny_Compare1 (inO_core (neg := true) (pos := pos) tk ok HM hgd hr hl ha hb I h) hm⟩
def dStrO (PC : Addr → Prop) (c : Addr → DSpecX) (dw : DW) (ta : DTE) : DTE := fun ρ n R => ta ρ n fun x n1 => ∃ a o, x = .dat (refD a) ∧ n1.ob a = some o ∧ PC o.C ∧
  c o.C [.dat (refD a)] n1 (fun d n2 => ∃ z : Str, d = .str z ∧ R (.dat (.str z)) n2) fun ex n2 => dw ex ρ n2
theorem we_strO {e : Expr} {ta : DTE} {p pos : Pos} (tk : Takes X W) (ok : WOk Y X.K dw W) (HM : HasM X.prog X.w X.K X.mg X.base PC "__str__" k ps c) (hgd : X.A.guards = some []) (hr : Room (k + 2) X.A) (hl : ps.length = 1)
    (hg : Gl X "str") (hm : X.mg "str" = none) (he : WE Y X e ta)
    (h1 : starEach [e] X.env = (false, eval e X.env) :: starEach [] X.env := by rfl) (hpl : (backTo pos (starEach [] X.env)).any (·.1) = false := by rfl) : WE Y X (.Call (.Name "str" p) [e] [] pos) (dStrO PC c dw ta) :=
  ⟨fun pins s σ H Q I ⟨Z, F, ρ, n, R, r, h, kk⟩ => by
    refine wpAny_Call_Name_kw (ld_blt I hg hm (show bootBuiltins "str" = some (.type "str") by decide +kernel) ?_ (by decide) (by decide))
    refine PyProof.Rows.callWith_type1 (thn ((pa_cons he pa_nil h1).run pos pins s σ H (fun vs H1 => ∃ v x n1 F1, vs = [v] ∧ (∃ a o, x = .dat (refD a) ∧ n1.ob a = some o ∧ PC o.C ∧ c o.C [.dat (refD a)] n1 (fun d n2 => ∃ z : Str, d = .str z ∧ R (.dat (.str z)) n2) fun ex n2 => dw ex ρ n2) ∧ Gr Z.δ F H F1 H1 ∧ Same F1 H1 ∧ Z.δ.at_ X.K F1 H1 n1 ∧ VR X.K Z.δ F1 H1 x v) I ⟨Z, F, ρ, n, _, r, h, fun x n1 F1 H1 v hx g1 s1 d1 w1 => ⟨v, x, n1, F1, rfl, hx, g1, s1, d1, w1⟩⟩) fun us s1 ⟨vs, H1, I1, r1, v, x, n1, F1, ev, ⟨a, o, ex, ho, hPC, hx⟩, g1, s1', d1, w1⟩ => ?_) h1 hpl
    subst ev ex
    obtain rfl := VR.ref w1
    obtain ⟨u, rfl, ru⟩ := r1.one
    obtain rfl : u = Value.ref a := ru
    have r2 := r.step g1 s1' d1
    have hr2 : Room k X.A.in1.in1 := (show Room (k + 1) X.A.in1 from Room.in1 hr).in1
    obtain ⟨g, dx, od, J, hcl, hM, run⟩ := dun (A := X.A.in1.in1) (Q := fun v H' => ∃ z : Str, v = .str z ∧ Q (.str z) H') (us := []) tk ok HM I1 r2 ho hPC .nil .nil hl.symm hx fun d n3 F3 H3 v ⟨z, ed, h4⟩ g3 s3 d3 w4 => by
      subst ed
      simp only [Rp] at w4
      exact ⟨z, w4, kk _ _ _ _ _ h4 (g1.trans g3) s3 d3 (by simp [VR, Rp])⟩
    refine PySem.W.kso_call hr2.units0 I1.kIn J hM.at_ hM.fn (wpAny_mono (run hgd hr2 I1.env0.in1.in1) (fun w s' ⟨z, H', I', rz, i, ei, q⟩ => ?_) fun _ _ q => q)
    subst ei
    obtain ⟨t, rfl⟩ := (show ∃ t, w = Value.str i t from rz)
    exact ⟨.str i, H', I', ⟨_, rfl⟩, q⟩⟩
end
end DL
set_option maxHeartbeats 4000000
namespace DL
open PySem PySem.Spec PyProof.Rows L2
section
variable {X : Cx} {Y : Fx} {k : Nat} {f : Addr} {fd : FuncData} {ps : List Str} {sp : Sp} {W : WX} {dw : DW} {PC : Addr → Prop} {m : Str} {c : Addr → DSpecX}
def HasMD (P : Program) (w : World) (K : PySem.W.Frag) (mg : Str → Option Value) (base : Heap) (PC : Addr → Prop) (m : Str) (k : Nat) (ps : List Str) (c : Addr → DSpecX) : Prop :=
  ∀ C, PC C → Cls K C ∧ ∃ g fd ds, Meth K C m g ∧ Vals [V.non] ds ∧ Binds K fd ps ds ∧ FnGX P w K mg base k g fd ps (spDX K ps.length (c C))
def HasMK (P : Program) (w : World) (K : PySem.W.Frag) (mg : Str → Option Value) (base : Heap) (PC : Addr → Prop) (m kw : Str) (k : Nat) (ps : List Str) (c : Addr → DSpecX) : Prop :=
  ∀ C, PC C → Cls K C ∧ ∃ g fd, Meth K C m g ∧ KBn K fd ps (ps.length - 1) [kw] (fun us ws => us ++ ws) (fun us ws => us ++ ws) ∧ FnGX P w K mg base k g fd ps (spDX K ps.length (c C))
end
end DL
set_option maxHeartbeats 4000000
set_option maxHeartbeats 4000000
namespace LkE
open PySem PySem.W PySem.Calls PyProof.Rows PySem.HandSPX
open Builtin Builtin.ObjectAttr
abbrev bare (C : Addr) (od : Option Addr) (fv : Array Value) : Obj := { cls := .ref C, dict := od, data := .fields fv }
end LkE
set_option maxHeartbeats 4000000
set_option maxHeartbeats 4000000
set_option maxHeartbeats 4000000
namespace DL
open PySem PySem.Spec PyProof.Rows L2
inductive Tst (X : Cx) : Expr → (Value → Option Bool) → Prop
  | one {x : Str} {c : Value} {np : Pos} (h : Names X x c) : Tst X (.Name x np) (fun cls => PySem.W.exmOne X.K cls c)
  | two {x1 x2 : Str} {c1 c2 : Value} {p1 p2 tp : Pos} {kk} (h1 : Names X x1 c1) (h2 : Names X x2 c2) : Tst X (.Tuple [.Name x1 p1, .Name x2 p2] kk tp) (fun cls => PySem.W.exmAny X.K cls [c1, c2])
  | three {x1 x2 x3 : Str} {c1 c2 c3 : Value} {p1 p2 p3 tp : Pos} {kk} (h1 : Names X x1 c1) (h2 : Names X x2 c2) (h3 : Names X x3 c3) : Tst X (.Tuple [.Name x1 p1, .Name x2 p2, .Name x3 p3] kk tp) (fun cls => PySem.W.exmAny X.K cls [c1, c2, c3])
section
variable {X : Cx}
theorem ld_names {X : Cx} {E : Value → Shared → Prop} {pins : List (Addr × Obj)} {s : Shared} {σ : L2.St} {H : Hp} {x : Str} {c : Value} {pos : Pos} {Q : Value → Shared → Prop} (I : Inv X pins σ H s) (hc : Names X x c) (h : Q c s) : wpAny (model X.prog X.w) X.A (eval (.Name x pos) X.env) Q E s := by
  obtain ⟨hg, hdbg, hm | ⟨hm, hv, hnn⟩⟩ := hc
  · exact ld_glob I hg hm h hdbg
  · exact ld_blt I hg hm hv h hnn hdbg
theorem Tst.run {t : Expr} {f : Value → Option Bool} (T : Tst X t f) {a : Addr} {pn : List (Addr × Obj)} {pins : List (Addr × Obj)} {σ : L2.St} {H : Hp} {s : Shared} {cls : Value} {b : Bool} {Q : Bool → Shared → Prop} {E : Value → Shared → Prop} (I : Inv (X.suite a pn) pins σ H s)
    (LT : PySem.W.Looks (model X.prog X.w) s.heap (typeOf (.ref a)) cls) (hb : f cls = some b) (q : ∀ h', (∀ q o, s.heap.get? q = some o → h'.get? q = some o) → Q b { s with heap := h' }) :
    wpAny (model X.prog X.w) (X.A.mark (some (.ref a))) (eval t X.env) (fun c s₁ => wpAny (model X.prog X.w) (X.A.mark (some (.ref a))) (excMatches (.ref a) c) Q E s₁) E s := by
  have ld : ∀ {E : Value → Shared → Prop} {x : Str} {c : Value} {p : Pos} {Q : Value → Shared → Prop}, Names X x c → Q c s → wpAny (model X.prog X.w) (X.A.mark (some (.ref a))) (eval (.Name x p) X.env) Q E s := fun h q => ld_names (X := X.suite a pn) I h q
  cases T with
  | one h => exact ld h ((PySem.W.exm_one I.kIn LT hb).here (q _ fun _ _ z => z))
  | @two x1 x2 c1 c2 p1 p2 tp kk h1 h2 =>
    refine wpAny_Tuple ?_
    refine wpAny_items_cons (ld h1 ?_)
    refine wpAny_items_cons (ld h2 ?_)
    refine wpAny_items_nil ⟨by size_fits, ?_⟩
    have kp : ∀ q o, s.heap.get? q = some o → (s.heap.push { cls := .type "tuple", data := .seq [c1, c2].toArray }).get? q = some o := fun _ _ z => Heap.get?_push_of_some _ z
    exact (PySem.W.exm_tup2 (I.kIn.keeps kp) (LT.keeps kp) (Heap.get?_push_size s.heap rfl) hb).here (q _ kp)
  | @three x1 x2 x3 c1 c2 c3 p1 p2 p3 tp kk h1 h2 h3 =>
    refine wpAny_Tuple ?_
    refine wpAny_items_cons (ld h1 ?_)
    refine wpAny_items_cons (ld h2 ?_)
    refine wpAny_items_cons (ld h3 ?_)
    refine wpAny_items_nil ⟨by size_fits, ?_⟩
    have kp : ∀ q o, s.heap.get? q = some o → (s.heap.push { cls := .type "tuple", data := .seq [c1, c2, c3].toArray }).get? q = some o := fun _ _ z => Heap.get?_push_of_some _ z
    exact (PySem.W.exm_tup3 (I.kIn.keeps kp) (LT.keeps kp) (Heap.get?_push_size s.heap rfl) hb).here (q _ kp)
structure Cz where
  f : Value → Option Bool
  i : Option Nat
  ts : Addr → Value → Option Addr → TS
variable {body : List Stmt} {h₀ : ExceptHandler} {hds : List ExceptHandler} {l : List Cz} {pos : Pos} {tb : WX → TS} {Wout : WX}
end
end DL
set_option maxHeartbeats 4000000
set_option maxHeartbeats 0
namespace DL
open PySem PySem.Spec PyProof.Rows L2
def sizesD (xs : List Int) : PyData := .tuple (xs.map .int)
def hallD (feet pairs : List Int) : PyData := .tuple [sizesD feet, sizesD pairs]
/-- sizes from 1 to h -/
abbrev In1 (h : Int) (xs : List Int) : Prop := ∀ x ∈ xs, 1 ≤ x ∧ x ≤ h
theorem pick2 {a b : PyData} {r : Int} (h0 : 0 ≤ r) (h1 : r < 2) : ∃ d, atI [a, b] r = some d ∧ (d = a ∨ d = b) := by
  obtain ⟨d, h, hm⟩ := atI_mem (xs := [a, b]) h0 (by simpa using h1)
  exact ⟨d, h, by simpa using hm⟩
theorem pick3 {a b c : PyData} {r : Int} (h0 : 0 ≤ r) (h1 : r < 3) : ∃ d, atI [a, b, c] r = some d ∧ (d = a ∨ d = b ∨ d = c) := by
  obtain ⟨d, h, hm⟩ := atI_mem (xs := [a, b, c]) h0 (by simpa using h1)
  exact ⟨d, h, by simpa using hm⟩
/-- numbers as they were drawn -/
theorem ints_of {h : Int} : ∀ {ys : List PyData}, (∀ y ∈ ys, ∃ z : Int, y = .int z ∧ 1 ≤ z ∧ z ≤ h) → ∃ zs : List Int, ys = zs.map .int ∧ In1 h zs
  | [], _ => ⟨[], rfl, fun _ q => (by cases q)⟩
  | y :: ys, q => by
    obtain ⟨z, rfl, h1, h2⟩ := q y (by simp)
    obtain ⟨zs, rfl, h3⟩ := ints_of (ys := ys) fun x hx => q x (by simp [hx])
    exact ⟨z :: zs, rfl, fun x hx => by
      rcases List.mem_cons.mp hx with rfl | hx
      · exact ⟨h1, h2⟩
      · exact h3 x hx⟩
/-- the item at a place -/
def getI (xs : List Int) (j : Int) : Int := (xs[j.toNat]?).getD 0
def intsN (m : Nat) : List Int := (List.range m).map fun (k : Nat) => (k : Int)
theorem mem_intsN {m : Nat} {j : Int} (h : j ∈ intsN m) : 0 ≤ j ∧ j < m := by
  obtain ⟨k, hk, rfl⟩ := List.mem_map.mp h
  have := List.mem_range.mp hk
  omega
theorem intsN_lt (m : Nat) : (intsN m).Pairwise (· < ·) := by
  unfold intsN
  rw [List.pairwise_map]
  exact List.pairwise_lt_range.imp fun h => by omega
/-- how many feet are less, how many pairs are at least s -/
def cF (feet : List Int) (s : Int) : Nat := (feet.filter fun x => decide (x < s)).length
def cP (pairs : List Int) (s : Int) : Nat := (pairs.filter fun x => decide (s ≤ x)).length
def IsMost (feet pairs : List Int) (m : Int) : Prop := (∃ s, m = (cF feet s : Int) + cP pairs s) ∧ ∀ s, m ≤ (cF feet s : Int) + cP pairs s
def IsFew (feet pairs : List Int) (m : Int) : Prop := (∃ s, m = (max (cF feet s) (cP pairs s) : Nat)) ∧ ∀ s, m ≤ (max (cF feet s) (cP pairs s) : Nat)
theorem cF_cons (f : Int) (fs : List Int) (s : Int) : cF (f :: fs) s = cF fs s + if f < s then 1 else 0 := by
  unfold cF
  rw [List.filter_cons]
  by_cases h : f < s
  · rw [if_pos (decide_eq_true h), if_pos h]; rfl
  · rw [if_neg (by simpa using h), if_neg h]; rfl
theorem cP_cons (p : Int) (ps : List Int) (s : Int) : cP (p :: ps) s = cP ps s + if s ≤ p then 1 else 0 := by
  unfold cP
  rw [List.filter_cons]
  by_cases h : s ≤ p
  · rw [if_pos (decide_eq_true h), if_pos h]; rfl
  · rw [if_neg (by simpa using h), if_neg h]; rfl
theorem cF_perm {a b : List Int} (h : a.Perm b) (s : Int) : cF a s = cF b s := (h.filter _).length_eq
theorem cP_perm {a b : List Int} (h : a.Perm b) (s : Int) : cP a s = cP b s := (h.filter _).length_eq
theorem cF_zero {l : List Int} {s : Int} (h : ∀ x ∈ l, s ≤ x) : cF l s = 0 := by
  unfold cF
  rw [List.filter_eq_nil_iff.mpr fun x hx => by have := h x hx; simp; omega]
  rfl
theorem cP_zero {l : List Int} {s : Int} (h : ∀ x ∈ l, x < s) : cP l s = 0 := by
  unfold cP
  rw [List.filter_eq_nil_iff.mpr fun x hx => by have := h x hx; simp; omega]
  rfl
theorem cF_le (l : List Int) (s : Int) : cF l s ≤ l.length := List.length_filter_le _ _
theorem cF_all {l : List Int} {s : Int} (h : ∀ x ∈ l, x < s) : cF l s = l.length := by
  unfold cF
  rw [List.filter_eq_self.mpr fun x hx => by simpa using h x hx]
/-- the largest pairs to the greatest feet that they fit: feet and pairs from the greatest on -/
def gr : List Int → List Int → Nat
  | [], _ => 0
  | f :: fs, [] => gr fs []
  | f :: fs, p :: ps => if f ≤ p then gr fs ps + 1 else gr fs (p :: ps)
theorem gr_le : ∀ (F P : List Int) (s : Int), gr F P ≤ cF F s + cP P s
  | [], _, _ => Nat.zero_le _
  | f :: fs, [], s => by
    have := gr_le fs [] s
    rw [cF_cons]
    unfold gr
    omega
  | f :: fs, p :: ps, s => by
    unfold gr
    by_cases h : f ≤ p
    · rw [if_pos h, cF_cons, cP_cons]
      have := gr_le fs ps s
      split <;> split <;> omega
    · rw [if_neg h, cF_cons]
      have := gr_le fs (p :: ps) s
      omega
theorem gr_ge (top : Int) : ∀ (F P : List Int), F.Pairwise (fun a b => b ≤ a) → P.Pairwise (fun a b => b ≤ a) → (∀ x ∈ F, x < top) → (∀ x ∈ P, x < top) → ∃ s, (s ∈ F ∨ s = top) ∧ cF F s + cP P s ≤ gr F P
  | [], P, _, _, _, hP => ⟨top, .inr rfl, by rw [cP_zero hP]; exact Nat.le_refl 0⟩
  | f :: fs, [], h1, h2, hF, hP => by
    obtain ⟨p1, p2⟩ := List.pairwise_cons.mp h1
    obtain ⟨s, hs, hle⟩ := gr_ge top fs [] p2 h2 (fun x hx => hF x (by simp [hx])) hP
    unfold gr
    rcases hs with hs | rfl
    · refine ⟨s, .inl (by simp [hs]), ?_⟩
      have := p1 s hs
      rw [cF_cons, if_neg (by omega)]
      exact hle
    · rw [cF_all fun x hx => hF x (by simp [hx])] at hle
      have h0 : gr fs [] ≤ 0 := by
        cases fs with
        | nil => exact Nat.le_refl 0
        | cons a l =>
          have := gr_le (a :: l) [] (((a :: l).getLast (by simp)))
          have q : cF (a :: l) ((a :: l).getLast (by simp)) = 0 := cF_zero fun x hx => by
            have hl : (a :: l) = (a :: l).dropLast ++ [(a :: l).getLast (by simp)] := (List.dropLast_concat_getLast (by simp)).symm
            rw [hl] at hx p2
            rcases List.mem_append.mp hx with z | z
            · exact (List.pairwise_append.mp p2).2.2 x z _ (by simp)
            · rw [List.mem_singleton.mp z]; simp
          rw [q] at this
          exact this
      have hl : fs.length = 0 := by omega
      have : fs = [] := List.eq_nil_of_length_eq_zero hl
      subst this
      exact ⟨f, .inl (by simp), by rw [cF_cons, if_neg (by omega)]; exact Nat.zero_le _⟩
  | f :: fs, p :: ps, h1, h2, hF, hP => by
    obtain ⟨p1, p2⟩ := List.pairwise_cons.mp h1
    obtain ⟨q1, q2⟩ := List.pairwise_cons.mp h2
    have hF' : ∀ x ∈ fs, x < top := fun x hx => hF x (by simp [hx])
    have hf := hF f (by simp)
    have hp := hP p (by simp)
    unfold gr
    by_cases h : f ≤ p
    · rw [if_pos h]
      obtain ⟨s, hs, hle⟩ := gr_ge top fs ps p2 q2 hF' fun x hx => hP x (by simp [hx])
      rcases hs with hs | rfl
      · refine ⟨s, .inl (by simp [hs]), ?_⟩
        have := p1 s hs
        rw [cF_cons, cP_cons, if_neg (by omega)]
        split <;> omega
      · refine ⟨s, .inr rfl, ?_⟩
        rw [cF_cons, cP_cons, if_neg (show ¬ s ≤ p by omega)]
        split <;> omega
    · rw [if_neg h]
      obtain ⟨s, hs, hle⟩ := gr_ge top fs (p :: ps) p2 h2 hF' hP
      rcases hs with hs | rfl
      · refine ⟨s, .inl (by simp [hs]), ?_⟩
        have := p1 s hs
        rw [cF_cons, if_neg (by omega)]
        omega
      · refine ⟨f, .inl (by simp), ?_⟩
        rw [cF_all hF'] at hle
        rw [cF_cons, if_neg (by omega), cP_zero fun x hx => by
          rcases List.mem_cons.mp hx with rfl | hx
          · omega
          · have := q1 x hx; omega]
        have := cF_le fs f
        omega
theorem most_of_gr {feet pairs F P : List Int} {top : Int} (hF : F.Perm feet) (hP : P.Perm pairs) (h1 : F.Pairwise fun a b => b ≤ a) (h2 : P.Pairwise fun a b => b ≤ a) (t1 : ∀ x ∈ feet, x < top) (t2 : ∀ x ∈ pairs, x < top) :
    IsMost feet pairs (gr F P : Nat) ∧ ∃ s, (s ∈ feet ∨ s = top) ∧ ((gr F P : Nat) : Int) = (cF feet s : Int) + cP pairs s := by
  obtain ⟨s, hs, hle⟩ := gr_ge top F P h1 h2 (fun x hx => t1 x (hF.mem_iff.mp hx)) fun x hx => t2 x (hP.mem_iff.mp hx)
  have hge := gr_le F P s
  rw [cF_perm hF, cP_perm hP] at hle hge
  refine ⟨⟨⟨s, by omega⟩, fun s' => ?_⟩, s, hs.imp (fun h => hF.mem_iff.mp h) id, by omega⟩
  have := gr_le F P s'
  rw [cF_perm hF, cP_perm hP] at this
  omega
theorem atI_get {xs : List Int} {j : Int} (h0 : 0 ≤ j) (h1 : j < xs.length) : atI (xs.map PyData.int) j = some (.int (getI xs j)) := by
  have hj : j.toNat < xs.length := by omega
  unfold atI ixN getI
  rw [if_pos h0, if_pos (by rw [List.length_map]; exact h1)]
  simp [hj]
theorem sh_ints (ns : List Int) : Sh (.list (ns.map .int)) :=
  Bool.and_eq_true_iff.mpr ⟨by simp only [PyData.canLay0]; exact canAll fun d hd => by obtain ⟨_, _, rfl⟩ := List.mem_map.mp hd; rfl, decide_eq_true (by
    simp only [PyData.depth]
    exact Nat.le_trans (Nat.succ_le_succ (depthAll_le (k := 0) fun d hd => by obtain ⟨_, _, rfl⟩ := List.mem_map.mp hd; exact Nat.le_refl _)) (by decide))⟩
def ins (a : Int) : List Int → List Int
  | [] => [a]
  | b :: l => if a ≤ b then a :: b :: l else b :: ins a l
theorem ins_perm (a : Int) : ∀ l, (ins a l).Perm (a :: l)
  | [] => List.Perm.refl _
  | b :: l => by
    unfold ins
    split
    · exact List.Perm.refl _
    · exact ((ins_perm a l).cons b).trans (List.Perm.swap _ _ _)
theorem ins_sorted (a : Int) : ∀ l : List Int, l.Pairwise (· ≤ ·) → (ins a l).Pairwise (· ≤ ·)
  | [], _ => List.pairwise_singleton _ _
  | b :: l, h => by
    obtain ⟨h1, h2⟩ := List.pairwise_cons.mp h
    unfold ins
    split
    · rename_i hab
      exact List.pairwise_cons.mpr ⟨fun x hx => by
        rcases List.mem_cons.mp hx with rfl | hx
        · exact hab
        · exact Int.le_trans hab (h1 x hx), h⟩
    · exact List.pairwise_cons.mpr ⟨fun x hx => by
        rcases List.mem_cons.mp ((ins_perm a l).mem_iff.mp hx) with rfl | hx
        · omega
        · exact h1 x hx, ins_sorted a l h2⟩
theorem exists_sorted : ∀ l : List Int, ∃ F : List Int, F.Perm l ∧ F.Pairwise (· ≤ ·)
  | [] => ⟨[], List.Perm.refl _, List.Pairwise.nil⟩
  | a :: l => by
    obtain ⟨F, h1, h2⟩ := exists_sorted l
    exact ⟨ins a F, (ins_perm a F).trans (h1.cons a), ins_sorted a F h2⟩
theorem rev_desc {F : List Int} (h : F.Pairwise (· ≤ ·)) : F.reverse.Pairwise fun a b => b ≤ a := List.pairwise_reverse.mpr h
/-- where the least number of both is attained -/
theorem most_at {feet pairs : List Int} {top : Int} (t1 : ∀ x ∈ feet, x < top) (t2 : ∀ x ∈ pairs, x < top) : ∃ s, (s ∈ feet ∨ s = top) ∧ ∀ s', (cF feet s : Int) + cP pairs s ≤ (cF feet s' : Int) + cP pairs s' := by
  obtain ⟨F, f1, f2⟩ := exists_sorted feet
  obtain ⟨Q, p1, p2⟩ := exists_sorted pairs
  obtain ⟨h, s, hs, e⟩ := most_of_gr ((List.reverse_perm F).trans f1) ((List.reverse_perm Q).trans p1) (rev_desc f2) (rev_desc p2) t1 t2
  exact ⟨s, hs, fun s' => by rw [← e]; exact h.2 s'⟩
structure HallOk (feet pairs : List Int) : Prop where
  f1 : 1 ≤ feet.length
  f2 : feet.length ≤ 40
  p2 : pairs.length ≤ 40
  fi : In1 (10 ^ 6) feet
  pi : In1 (10 ^ 6) pairs
theorem cons_erase {α : Type} : ∀ {l : List α} {k : Nat} (h : k < l.length), (l[k] :: l.eraseIdx k).Perm l
  | a :: l, 0, _ => List.Perm.refl _
  | a :: l, k + 1, h => by
    have ih := cons_erase (l := l) (k := k) (by simpa using h)
    show (l[k]'(by simpa using h) :: a :: l.eraseIdx k).Perm (a :: l)
    exact (List.Perm.swap _ _ _).trans (ih.cons a)
theorem eqv_int (a b : Int) : PyData.eqv (.int a) (.int b) = decide (a = b) := by rfl
theorem eraseIdx_map' {α β : Type} (f : α → β) : ∀ (l : List α) (k : Nat), (l.map f).eraseIdx k = (l.eraseIdx k).map f
  | [], _ => by simp
  | a :: l, 0 => rfl
  | a :: l, k + 1 => by simp [eraseIdx_map' f l k]
/-- a run, as pairs of numbers -/
structure RunOk (f p : Nat) (run : List (Int × Int)) : Prop where
  g : (run.map (·.1)).Perm (intsN f)
  s : ∀ q ∈ run, -1 ≤ q.2 ∧ (q.2 < (p : Int) ∨ q.2 = -1)
theorem intsN_len (m : Nat) : (intsN m).length = m := by simp [intsN]
theorem RunOk.len {f p : Nat} {run : List (Int × Int)} (h : RunOk f p run) : run.length = f := by
  have := h.g.length_eq
  rwa [List.length_map, intsN_len] at this
theorem RunOk.nd {f p : Nat} {run : List (Int × Int)} (h : RunOk f p run) : (run.map (·.1)).Nodup := h.g.nodup_iff.mpr ((intsN_lt f).imp fun h => Int.ne_of_lt h)
theorem sorted_uniq : ∀ {l m : List Int}, l.Perm m → l.Pairwise (· ≤ ·) → m.Pairwise (· ≤ ·) → l = m
  | [], m, hp, _, _ => hp.nil_eq
  | a :: l, [], hp, _, _ => hp.eq_nil
  | a :: l, b :: m, hp, h1, h2 => by
    obtain ⟨p1, p2⟩ := List.pairwise_cons.mp h1
    obtain ⟨q1, q2⟩ := List.pairwise_cons.mp h2
    have e : a = b := by
      have ha : a ∈ b :: m := hp.mem_iff.mp (by simp)
      have hb : b ∈ a :: l := hp.mem_iff.mpr (by simp)
      rcases List.mem_cons.mp ha with h | h
      · exact h
      · rcases List.mem_cons.mp hb with h' | h'
        · exact h'.symm
        · exact Int.le_antisymm (p1 b h') (q1 a h)
    subst e
    rw [sorted_uniq hp.cons_inv p2 q2]
theorem sh_int (i : Int) : Sh (.int i) := rfl
/-- a pair fits a guest -/
def fitG (feet pairs : List Int) (g j : Int) : Bool := decide (getI feet g ≤ getI pairs j)
/-- how the guests go: each takes a pair that fits, that the rule likes, or there is none -/
def Gs (rl : Int → Int → Prop) (feet pairs : List Int) : List Int → List (Int × Int) → Prop
  | _, [] => True
  | left, q :: r => ((∀ j ∈ left, fitG feet pairs q.1 j = false) ∧ q.2 = -1 ∧ Gs rl feet pairs left r) ∨
      (q.2 ∈ left ∧ fitG feet pairs q.1 q.2 = true ∧ (∀ i ∈ left, fitG feet pairs q.1 i = true → rl q.2 i) ∧ Gs rl feet pairs (left.erase q.2) r)
def srv (run : List (Int × Int)) : Nat := (run.filter fun q => decide (q.2 ≠ -1)).length
theorem Gs.mono {rl rl' : Int → Int → Prop} {feet pairs : List Int} (h : ∀ a b, rl a b → rl' a b) : ∀ {run : List (Int × Int)} {left : List Int}, Gs rl feet pairs left run → Gs rl' feet pairs left run
  | [], _, _ => trivial
  | q :: r, left, g => by
    rcases g with ⟨a, b, c⟩ | ⟨a, b, c, d⟩
    · exact .inl ⟨a, b, c.mono h⟩
    · exact .inr ⟨a, b, fun i hi hf => h _ _ (c i hi hf), d.mono h⟩
/-- a run of the hall -/
structure RunV (rl : Int → Int → Prop) (feet pairs : List Int) (run : List (Int × Int)) : Prop where
  g : (run.map (·.1)).Perm (intsN feet.length)
  s : Gs rl feet pairs (intsN pairs.length) run
abbrev anyR : Int → Int → Prop := fun _ _ => True
theorem RunV.any {rl : Int → Int → Prop} {feet pairs : List Int} {run : List (Int × Int)} (h : RunV rl feet pairs run) : RunV anyR feet pairs run := ⟨h.g, h.s.mono fun _ _ _ => trivial⟩
theorem RunV.len {rl : Int → Int → Prop} {feet pairs : List Int} {run : List (Int × Int)} (h : RunV rl feet pairs run) : run.length = feet.length := by
  have := h.g.length_eq
  rwa [List.length_map, intsN_len] at this
theorem RunV.nd {rl : Int → Int → Prop} {feet pairs : List Int} {run : List (Int × Int)} (h : RunV rl feet pairs run) : (run.map (·.1)).Nodup := h.g.nodup_iff.mpr ((intsN_lt _).imp fun h => Int.ne_of_lt h)
theorem gs_snd {rl : Int → Int → Prop} {feet pairs : List Int} : ∀ {run : List (Int × Int)} {left : List Int}, Gs rl feet pairs left run → ∀ q ∈ run, q.2 = -1 ∨ q.2 ∈ left
  | [], _, _, _, h => nomatch h
  | p :: r, left, g, q, hq => by
    rcases List.mem_cons.mp hq with rfl | hq
    · rcases g with ⟨_, b, _⟩ | ⟨a, _⟩
      · exact .inl b
      · exact .inr a
    · rcases g with ⟨_, _, c⟩ | ⟨_, _, _, d⟩
      · exact gs_snd c q hq
      · exact (gs_snd d q hq).imp id List.mem_of_mem_erase
theorem RunV.snd {rl : Int → Int → Prop} {feet pairs : List Int} {run : List (Int × Int)} (h : RunV rl feet pairs run) {q : Int × Int} (hq : q ∈ run) : -1 ≤ q.2 ∧ (q.2 < (pairs.length : Int) ∨ q.2 = -1) := by
  rcases gs_snd h.s q hq with e | e
  · exact ⟨by omega, .inr e⟩
  · have := mem_intsN e; exact ⟨by omega, .inl this.2⟩
theorem ifN {b : Bool} {A B : Prop} (hb : b = true) (h : B) : if (!b) = true then A else B := by subst hb; exact h
theorem ifF {b : Bool} {A B : Prop} (hb : b = false) (h : B) : if b = true then A else B := by subst hb; exact iteF h
theorem ifNF {b : Bool} {A B : Prop} (hb : b = false) (h : A) : if (!b) = true then A else B := by subst hb; exact h
theorem iteD {c A B : Prop} [Decidable c] (hc : c) (h : A) : if decide c = true then A else B := by rw [if_pos (decide_eq_true hc)]; exact h
theorem iteDF {c A B : Prop} [Decidable c] (hc : ¬ c) (h : B) : if decide c = true then A else B := by rw [if_neg (fun q => hc (of_decide_eq_true q))]; exact h
theorem isi_tt (ds : List PyData) : isiB (tyD (.tuple ds)) "tuple" = true := show isiB "tuple" "tuple" = true by decide +kernel
theorem isi_ii (i : Int) : isiB (tyD (.int i)) "int" = true := show isiB "int" "int" = true by decide +kernel
theorem isi_ib (i : Int) : isiB (tyD (.int i)) "bool" = false := show isiB "int" "bool" = false by decide +kernel
theorem isi_bb (i : Bool) : isiB (tyD (.bool i)) "bool" = true := show isiB "bool" "bool" = true by decide +kernel
theorem isi_bi (i : Bool) : isiB (tyD (.bool i)) "int" = true := show isiB "bool" "int" = true by decide +kernel
def runD (run : List (Int × Int)) : PyData := .tuple (run.map prD)
theorem asB_T {c : Bool} {R : Bool → Prop} (hc : c = true) (h : R true) : asB (.dat (.bool c)) R := by subst hc; exact h
theorem asB_F {c : Bool} {R : Bool → Prop} (hc : c = false) (h : R false) : asB (.dat (.bool c)) R := by subst hc; exact h
def srt (P : List Int) : List Int := P.mergeSort fun a b => decide (a ≤ b)
theorem srt_perm (P : List Int) : (srt P).Perm P := List.mergeSort_perm _ _
theorem le_tot (a b : Int) : (decide (a ≤ b) || decide (b ≤ a)) = true := by
  rw [Bool.or_eq_true, decide_eq_true_eq, decide_eq_true_eq]
  exact Int.le_total a b
theorem srt_sorted (P : List Int) : (srt P).Pairwise (· ≤ ·) :=
  (List.pairwise_mergeSort (le := fun a b : Int => decide (a ≤ b)) (fun a b c h1 h2 => decide_eq_true (Int.le_trans (of_decide_eq_true h1) (of_decide_eq_true h2))) le_tot P).imp fun h => of_decide_eq_true h
theorem srt_uniq {P Q : List Int} (hp : Q.Perm P) (hs : Q.Pairwise (· ≤ ·)) : Q = srt P := sorted_uniq (hp.trans (srt_perm P).symm) hs (srt_sorted P)
theorem sh_tints (ns : List Int) : Sh (.tuple (ns.map .int)) :=
  Bool.and_eq_true_iff.mpr ⟨by simp only [PyData.canLay0]; exact canAll fun d hd => by obtain ⟨_, _, rfl⟩ := List.mem_map.mp hd; rfl, decide_eq_true (by
    simp only [PyData.depth]
    exact Nat.le_trans (Nat.succ_le_succ (depthAll_le (k := 0) fun d hd => by obtain ⟨_, _, rfl⟩ := List.mem_map.mp hd; exact Nat.le_refl _)) (by decide))⟩
theorem eqvA_ints : ∀ a b : List Int, PyData.eqvAll (a.map .int) (b.map .int) = decide (a = b)
  | [], [] => by rfl
  | [], _ :: _ => by rfl
  | _ :: _, [] => by rfl
  | x :: xs, y :: ys => by
    show (decide (x = y) && PyData.eqvAll (xs.map .int) (ys.map .int)) = _
    rw [eqvA_ints xs ys]
    by_cases h : x = y <;> by_cases h2 : xs = ys <;> simp [h, h2]
theorem eqv_ints (a b : List Int) : PyData.eqv (.list (a.map .int)) (.list (b.map .int)) = decide (a = b) := eqvA_ints a b
theorem RunV.ok {rl : Int → Int → Prop} {F P : List Int} {run : List (Int × Int)} (h : RunV rl F P run) : RunOk F.length P.length run := ⟨h.g, fun _ hq => h.snd hq⟩
theorem eqv_tints (a b : List Int) : PyData.eqv (.tuple (a.map .int)) (.tuple (b.map .int)) = decide (a = b) := eqvA_ints a b
inductive Cv where
  | run (r : List (Int × Int))
  | tab (ws : List Str)
  | siz (z : Int)
def Cv.d : Cv → PyData
  | .run r => .tuple [.str "run", runD r]
  | .tab ws => .tuple [.str "table", .tuple (ws.map .str)]
  | .siz z => .tuple [.str "size", .int z]
def Cv.pos (feet pairs : List Int) (num : Int) : Cv → Bool
  | .run r => decide (num ≤ (srv r : Int))
  | .tab _ => false
  | .siz z => decide ((cF feet z : Int) + cP pairs z < num)
end DL
set_option maxHeartbeats 0
set_option maxHeartbeats 0
namespace DL
open PySem PySem.Spec PyProof.Rows L2
def numB : PyData → Bool
  | .int _ => true
  | _ => false
def tupB (d : PyData) (a b : Int) : Bool := match d with
  | .tuple ds => decide (a ≤ ds.length) && decide ((ds.length : Int) ≤ b)
  | _ => false
def numIn (d : PyData) (a b : Int) : Bool := match d with
  | .int z => decide (a ≤ z) && decide (z ≤ b)
  | _ => false
theorem tupB_true {d : PyData} {a b : Int} (h : tupB d a b = true) : ∃ ds, d = .tuple ds ∧ a ≤ ds.length ∧ (ds.length : Int) ≤ b := by
  unfold tupB at h
  split at h
  · rw [Bool.and_eq_true, decide_eq_true_eq, decide_eq_true_eq] at h
    exact ⟨_, rfl, h⟩
  · cases h
theorem numIn_true {d : PyData} {a b : Int} (h : numIn d a b = true) : ∃ z, d = .int z ∧ a ≤ z ∧ z ≤ b := by
  unfold numIn at h
  split at h
  · rw [Bool.and_eq_true, decide_eq_true_eq, decide_eq_true_eq] at h
    exact ⟨_, rfl, h⟩
  · cases h
theorem tameE_int {i : Int} {m : Nat} (h : i.natAbs < 2 ^ m) (hm : m ≤ 1000) (h0 : 0 < m) : TameE (m + 3) 0 (.int i) := (tame_int h hm h0).e
end DL
set_option maxHeartbeats 0
namespace DL
open PySem PySem.Spec PyProof.Rows L2
abbrev szD (d : PyData) : Bool := numIn d 1 1000000
theorem tup_true {es : List PyData} {a b : Int} (h1 : a ≤ es.length) (h2 : (es.length : Int) ≤ b) : tupB (.tuple es) a b = true := by
  show (decide (a ≤ (es.length : Int)) && decide ((es.length : Int) ≤ b)) = true
  rw [decide_eq_true h1, decide_eq_true h2]; rfl
theorem num_ok (z : Int) : PyData.strOk (toString z : Str) = true := by
  unfold PyData.strOk
  rw [Array.all_eq_true']
  intro c hc
  have h1 : c ∈ (Str.ofString (toString z)).cps.toList := by simpa using hc
  have h2 : ¬ (c ≠ 45 ∧ (c < 48 ∨ 57 < c)) := fun h => int_text_free' c h z h1
  have h3 : c < 58 := by omega
  have key : ∀ c : Nat, c < 58 → (decide (c < 1114112) && !(decide (55296 ≤ c) && decide (c ≤ 57343))) = true := by decide +kernel
  have := key c h3
  simp at this ⊢
  omega
end DL
set_option maxHeartbeats 0
namespace DL
open PySem PySem.Spec PyProof.Rows L2
theorem isDR_dat {d : PyData} (h : isRefD d = false) : isDR (.dat d) = false := Bool.or_eq_false_iff.mpr ⟨rfl, h⟩
theorem Wo.put_at {w : Wo} {a : Addr} {o : Ob} : (w.put a o).ob a = some o := if_pos rfl
theorem Wo.put_ne {w : Wo} {a b : Addr} {o : Ob} (h : b ≠ a) : (w.put a o).ob b = w.ob b := if_neg h
theorem Wo.put_put {w : Wo} {a : Addr} {o u : Ob} : (w.put a o).put a u = w.put a u := by
  unfold Wo.put
  congr 1
  funext b
  simp only
  split <;> rfl
/-- the same, but for the errors that were handled -/
structure Sim (n n' : Wo) : Prop where
  nn : n'.n = n.n
  ob : n'.ob = n.ob
theorem Sim.trans {a b c : Wo} (h : Sim a b) (g : Sim b c) : Sim a c := ⟨g.nn.trans h.nn, g.ob.trans h.ob⟩
end DL
set_option maxHeartbeats 0
namespace DL
open PySem PySem.Spec PyProof.Rows L2
def chs (s : Str) : List Nat := s.cps.toList
def numT (x : Int) : Str := toString x
end DL
set_option maxHeartbeats 4000000
namespace DL
open PySem PySem.Spec PyProof.Rows L2
abbrev Hl := List Int × List Int
def halD (h : Hl) : PyData := hallD h.1 h.2
structure HlOk (h : Hl) : Prop where
  ok : HallOk h.1 h.2
  l1 : h.1.length ≤ 20
  l2 : h.2.length ≤ 20
/-- what a party's object holds -/
structure Pt where
  busy : Bool
  h : Hl
  m : Int
  f : Int
  hs : List Hl
  done : List PyData
def Pt.fs (p : Pt) : List (Str × PyData) := [("_busy", .bool p.busy), ("hall", halD p.h), ("most", .int p.m), ("fewest", .int p.f), ("_halls", .tuple (p.hs.map halD)), ("_done", .tuple p.done)]
structure Pt.Ok (p : Pt) : Prop where
  hh : HlOk p.h
  mo : IsMost p.h.1 p.h.2 p.m
  fe : IsFew p.h.1 p.h.2 p.f
  last : p.hs.getLast? = some p.h
  all : ∀ h ∈ p.hs, HlOk h
  len : p.hs.length = p.done.length + 1
  few : p.done.length ≤ 60
abbrev Out := Sum (Nat × List (Str × PyData)) Hl
def intD : PyData → Int
  | .int z => z
  | _ => 0
def aCome (d : PyData) (h : Hl) : Out := if szD d = true then (if 20 ≤ h.1.length then .inl (1, []) else .inr (h.1 ++ [intD d], h.2)) else .inl (0, [("value", d)])
def aLeave (d : PyData) (h : Hl) : Out := if numIn d 0 ((h.1.length : Int) - 1) = true then (if h.1.length = 1 then .inl (3, []) else .inr (h.1.take (intD d).toNat ++ h.1.drop ((intD d).toNat + 1), h.2)) else .inl (2, [("value", d)])
def aPut (d : PyData) (h : Hl) : Out := if szD d = true then (if 20 ≤ h.2.length then .inl (5, []) else .inr (h.1, h.2 ++ [intD d])) else .inl (4, [("value", d)])
def aTake (d : PyData) (h : Hl) : Out := if numIn d 0 ((h.2.length : Int) - 1) = true then .inr (h.1, h.2.take (intD d).toNat ++ h.2.drop ((intD d).toNat + 1)) else .inl (6, [("value", d)])
def aft (nm : Str) (d : PyData) (h : Hl) : Out := if nm = "come" then aCome d h else if nm = "leave" then aLeave d h else if nm = "put" then aPut d h else aTake d h
theorem numIn_int {z a b : Int} (h1 : a ≤ z) (h2 : z ≤ b) : numIn (.int z) a b = true := by
  show (decide (a ≤ z) && decide (z ≤ b)) = true
  rw [decide_eq_true h1, decide_eq_true h2]; rfl
theorem szD_true {d : PyData} (h : szD d = true) : ∃ z, d = .int z ∧ 1 ≤ z ∧ z ≤ 1000000 := numIn_true h
def Pt.next (p : Pt) (h : Hl) (m f : Int) (e : PyData) : Pt := ⟨p.busy, h, m, f, p.hs ++ [h], p.done ++ [e]⟩
theorem Pt.Ok.next {p : Pt} (k : p.Ok) {h : Hl} {m f : Int} {e : PyData} (hh : HlOk h) (mo : IsMost h.1 h.2 m) (fe : IsFew h.1 h.2 f) (l : p.done.length < 60) : (p.next h m f e).Ok :=
  ⟨hh, mo, fe, by show (p.hs ++ [h]).getLast? = some h; simp, fun x hx => by
    rcases List.mem_append.mp hx with q | q
    · exact k.all x q
    · obtain rfl := List.mem_singleton.mp q; exact hh, by show (p.hs ++ [h]).length = (p.done ++ [e]).length + 1; rw [List.length_append, List.length_append]; have := k.len; simp; omega, by show (p.done ++ [e]).length ≤ 60; rw [List.length_append]; show p.done.length + 1 ≤ 60; omega⟩
end DL
namespace DL
open PySem PySem.Spec PyProof.Rows L2
theorem Wo.tr {a b c : Wo} {i j : Nat} (h : b ≤ a + i) (g : c ≤ b + j) : c ≤ a + (i + j) := ⟨by have h1 : b.n ≤ a.n + i := h.1; have h2 : c.n ≤ b.n + j := g.1; show c.n ≤ a.n + (i + j); omega, g.2.1.trans h.2.1, g.2.2.trans h.2.2⟩
theorem Wo.one {a : Wo} : a + 1 ≤ a + 1 := ⟨Nat.le_refl _, rfl, rfl⟩
theorem Wo.le' {a b : Wo} {i j : Nat} (h : b ≤ a + i) (q : i ≤ j) : b ≤ a + j := ⟨by have h1 : b.n ≤ a.n + i := h.1; show b.n ≤ a.n + j; omega, h.2.1, h.2.2⟩
theorem Wo.oeq {a b : Wo} {i : Nat} (h : b ≤ a + i) (x : Addr) : b.ob x = a.ob x := congrFun h.2.1 x
end DL
namespace DL
open PySem PySem.Spec PyProof.Rows L2
structure SumsOk (feet pairs L sums : List Int) (b : Nat) : Prop where
  top : (feet.length : Int) ∈ sums
  all : ∀ y ∈ sums, ∃ s : Int, y = (cF feet s : Int) + cP pairs s
  has : ∀ s ∈ L, ((cF feet s : Int) + cP pairs s) ∈ sums
  len : sums.length ≤ b
theorem top_sum {feet pairs : List Int} (h1 : In1 (10 ^ 6) feet) (h2 : In1 (10 ^ 6) pairs) : (feet.length : Int) = (cF feet 1000001 : Int) + cP pairs 1000001 := by
  have a : cF feet 1000001 = feet.length := by
    unfold cF
    rw [List.filter_eq_self.mpr fun x hx => by have := h1 x hx; simp; omega]
  have b : cP pairs 1000001 = 0 := by
    unfold cP
    rw [List.filter_eq_nil_iff.mpr fun x hx => by have := h2 x hx; simp; omega]
    rfl
  rw [a, b]; simp
theorem SumsOk.start {feet pairs : List Int} (h1 : In1 (10 ^ 6) feet) (h2 : In1 (10 ^ 6) pairs) : SumsOk feet pairs [] [(feet.length : Int)] 1 :=
  ⟨List.mem_singleton.mpr rfl, fun y hy => ⟨1000001, (List.mem_singleton.mp hy).trans (top_sum h1 h2)⟩, fun s hs => (nomatch hs), Nat.le_refl _⟩
theorem SumsOk.most {feet pairs sums : List Int} {b : Nat} (h1 : In1 (10 ^ 6) feet) (h2 : In1 (10 ^ 6) pairs) (h : SumsOk feet pairs (feet ++ pairs) sums b) {m : Int} (hm : m ∈ sums) (hle : ∀ y ∈ sums, m ≤ y) : IsMost feet pairs m := by
  refine ⟨h.all m hm, fun s' => ?_⟩
  obtain ⟨s0, h0, h3⟩ := most_at (feet := feet) (pairs := pairs) (top := 1000001) (fun x hx => by have := h1 x hx; omega) fun x hx => by have := h2 x hx; omega
  refine Int.le_trans ?_ (h3 s')
  rcases h0 with q | rfl
  · exact hle _ (h.has s0 (List.mem_append_left _ q))
  · rw [← top_sum h1 h2]; exact hle _ h.top
end DL
open PySem PySem.Spec PyProof.Rows L2
namespace DL
def Pt.back (p : Pt) (h : Hl) (m f : Int) : Pt := ⟨p.busy, h, m, f, p.hs.dropLast, p.done.dropLast⟩
theorem Pt.Ok.back {p : Pt} (k : p.Ok) {h : Hl} {m f : Int} (hd : p.done ≠ []) (e : p.hs.dropLast.getLast? = some h) (hh : HlOk h) (mo : IsMost h.1 h.2 m) (fe : IsFew h.1 h.2 f) : (p.back h m f).Ok :=
  ⟨hh, mo, fe, e, fun x hx => k.all x (List.dropLast_subset _ hx), by
    have := List.length_pos_iff.mpr hd
    show p.hs.dropLast.length = p.done.dropLast.length + 1
    rw [List.length_dropLast, List.length_dropLast, k.len]; omega, by
    show p.done.dropLast.length ≤ 60
    rw [List.length_dropLast]; have := k.few; omega⟩
end DL
open PySem PySem.Spec PyProof.Rows L2
namespace DL
def okPL (d : PyData) : Bool := !isRefD d && d.showable && decide (d.depth ≤ 5) && decide (d.shown.length ≤ 1000) && PyData.strOk d.shown
structure PL (d : PyData) : Prop where
  nr : isRefD d = false
  tm : TameE 1000 5 d
  ok : PyData.strOk d.shown = true
theorem PL.of {d : PyData} (h : okPL d = true) : PL d := by
  unfold okPL at h
  simp only [Bool.and_eq_true, Bool.not_eq_true', decide_eq_true_eq] at h
  exact ⟨h.1.1.1.1, ⟨h.1.1.1.2, h.1.1.2, h.1.2⟩, h.2⟩
theorem PL.int {z : Int} (h1 : -1 ≤ z) (h2 : z ≤ 1001) : PL (.int z) := ⟨rfl, (tameE_int (m := 20) (by omega) (by decide) (by decide)).mono (by decide) (by decide), num_ok z⟩
end DL
open PySem PySem.Spec PyProof.Rows L2
namespace DL
abbrev Edt := Str × PyData
def edT' (e : Edt) : PyData := .tuple [.str e.1, e.2]
def BatK : List Edt → Pt → (Pt → Prop) → Prop
  | [], p, k => k p
  | e :: r, p, k => ∃ h, aft e.1 e.2 p.h = .inr h ∧ ∀ m f, IsMost h.1 h.2 m → IsFew h.1 h.2 f → BatK r (p.next h m f (edT' e)) k
theorem BatK.mono {k k' : Pt → Prop} (hk : ∀ q, k q → k' q) : ∀ {es : List Edt} {p : Pt}, BatK es p k → BatK es p k'
  | [], p, h => hk p h
  | e :: r, p, ⟨h, e1, h2⟩ => ⟨h, e1, fun m f hm hf => BatK.mono hk (h2 m f hm hf)⟩
end DL
open PySem PySem.Spec PyProof.Rows L2
namespace DL
/-- a contract made stronger -/
theorem FnGX.imp {P : Program} {w : World} {K : PySem.W.Frag} {mg : Str → Option Value} {base : Heap} {k m : Nat} {f : Addr} {fd : FuncData} {ps : List Str} {c c' : DSpecX} (F : FnGX P w K mg base k f fd ps (spDX K m c)) (h : ∀ as n R E, c' as n R E → c as n R E) : FnGX P w K mg base k f fd ps (spDX K m c') :=
  have g : ∀ vs H Q E, spDX K m c' vs H Q E → spDX K m c vs H Q E := fun vs H Q E ⟨δ, Fz, as, n, R, E', hl, w1, s1, d1, o1, hc, hk, hx⟩ => ⟨δ, Fz, as, n, R, E', hl, w1, s1, d1, o1, h _ _ _ _ hc, hk, hx⟩
  ⟨fun vs H Q E hs => F.len vs H Q E (g _ _ _ _ hs), fun A outer s H args us vs Q E hg hr e0 hb rv hs => F.run A outer s H args us vs Q E hg hr e0 hb rv (g _ _ _ _ hs)⟩
end DL
open PySem PySem.Spec PyProof.Rows L2
namespace DL
def Nr : Nat → PyData → Prop
  | 0, d => isRefD d = false
  | k + 1, d => isRefD d = false ∧ ∀ ds, d = .tuple ds → ∀ x ∈ ds, Nr k x
theorem Nr.one : ∀ {k : Nat} {d : PyData}, Nr k d → isRefD d = false
  | 0, _, h => h
  | _ + 1, _, h => h.1
def NrA (d : PyData) : Prop := ∀ k, Nr k d
theorem NrA.leaf {d : PyData} (h : isRefD d = false) (h2 : ∀ ds, d ≠ .tuple ds) : NrA d := fun k => by
  cases k with
  | zero => exact h
  | succ k => exact ⟨h, fun ds e => absurd e (h2 ds)⟩
theorem NrA.tup {ds : List PyData} (h : ∀ x ∈ ds, NrA x) : NrA (.tuple ds) := fun k => by
  cases k with
  | zero => rfl
  | succ k => exact ⟨rfl, fun es e x hx => by cases e; exact h x hx k⟩
theorem NrA.of_tup {ds : List PyData} (h : NrA (.tuple ds)) : ∀ x ∈ ds, NrA x := fun x hx k => (h (k + 1)).2 ds rfl x hx
theorem NrA.int (z : Int) : NrA (.int z) := .leaf rfl fun _ e => (nomatch e)
theorem NrA.nr {d : PyData} (h : NrA d) : isRefD d = false := h 0
structure GV (m k : Nat) (d : PyData) : Prop where
  tm : TameE m k d
  nr : NrA d
theorem GV.mono {m k m' k' : Nat} {d : PyData} (h : GV m k d) (h1 : m ≤ m') (h2 : k ≤ k') : GV m' k' d := ⟨h.tm.mono h1 h2, h.nr⟩
theorem gv_int {z : Int} (h0 : -1 ≤ z) (h1 : z ≤ 10000000) : GV 500 4 (.int z) := ⟨(tameE_int (m := 24) (by omega) (by decide) (by decide)).mono (by decide) (by decide), .int z⟩
theorem gv_tup {m k l : Nat} {ds : List PyData} (h : ∀ x ∈ ds, GV m k x) (hl : ds.length ≤ l) : GV (l * (m + 2) + 3) (k + 1) (.tuple ds) := ⟨(tameE_tuple (m := m) (k := k) (l := l) (fun d hd => (h d hd).tm) hl).mono (by first | exact Nat.le_refl _ | omega | (rw [Nat.mul_add]; omega)) (Nat.le_refl _), .tup fun x hx => (h x hx).nr⟩
theorem gv_lst {m k l : Nat} {ds : List PyData} (h : ∀ x ∈ ds, GV m k x) (hl : ds.length ≤ l) : GV (l * (m + 2) + 3) (k + 1) (.list ds) := ⟨(tameE_list (m := m) (k := k) (l := l) (fun d hd => (h d hd).tm) hl).mono (by first | exact Nat.le_refl _ | omega | (rw [Nat.mul_add]; omega)) (Nat.le_refl _), .leaf rfl fun _ e => (nomatch e)⟩
def BentJ : Nat → PyData → Prop
  | 0, d => ∃ z : Int, d = .int z ∧ 1 ≤ z ∧ z ≤ 1000000
  | j + 1, d => (∃ z : Int, d = .int z ∧ 1 ≤ z ∧ z ≤ 1000000) ∨ ∃ ds, d = .tuple ds ∧ ds.length ≤ 20 ∧ ∀ x ∈ ds, BentJ j x
def bnd : Nat → Nat | 0 => 500 | 1 => 21000 | _ => 900000
def dep : Nat → Nat | 0 => 4 | 1 => 6 | _ => 7
def GJ (j : Nat) (d : PyData) : Prop := GV (bnd j) (dep j) d
theorem GV.gj {d : PyData} (h : GV 500 4 d) : ∀ {j : Nat}, j ≤ 2 → GJ j d
  | 0, _ => h
  | 1, _ => GV.mono h (by decide) (by decide)
  | 2, _ => GV.mono h (by decide) (by decide)
theorem gj_tup {j : Nat} {ds : List PyData} (h : ∀ x ∈ ds, GJ j x) (hl : ds.length ≤ 41) (hj : j ≤ 1) : GJ (j + 1) (.tuple ds) := by
  match j, hj, h with
  | 0, _, h => exact GV.mono (gv_tup h hl) (by decide) (by decide)
  | 1, _, h => exact GV.mono (gv_tup h hl) (by decide) (by decide)
theorem BentJ.gj : ∀ {j : Nat} {d : PyData}, j ≤ 1 → BentJ j d → GJ j d
  | 0, _, _, ⟨z, e, h0, h1⟩ => by subst e; exact (gv_int (by omega) (by omega)).gj (by decide)
  | 1, _, _, .inl ⟨z, e, h0, h1⟩ => by subst e; exact (gv_int (by omega) (by omega)).gj (by decide)
  | 1, _, _, .inr ⟨ds, e, hl, h⟩ => by subst e; exact gj_tup (fun x hx => (h x hx).gj (by decide)) (by omega) (by decide)
theorem BentJ.nr {j : Nat} {d : PyData} (hj : j ≤ 1) (h : BentJ j d) : isRefD d = false := (BentJ.gj hj h).nr.nr
theorem map_int_inj : ∀ {a b : List Int}, a.map PyData.int = b.map PyData.int → a = b
  | [], [], _ => rfl
  | [], _ :: _, h => (nomatch h)
  | _ :: _, [], h => (nomatch h)
  | x :: a, y :: b, h => by
    simp only [List.map_cons, List.cons.injEq, PyData.int.injEq] at h
    rw [h.1, map_int_inj h.2]
def okT (s : Str) : Prop := PyData.strOk s = true
theorem okT.sh {s : Str} (h : okT s) : Sh (.str s) := (tame_str h).shaped (by decide)
end DL
open PySem PySem.Spec PyProof.Rows L2
namespace DL
theorem we_fldK {X : Cx} {Y : Fx} {Kx : PySem.W.Frag} {e : Expr} {t : DTE} {f : Str} {pos : Pos} (hK : X.K = Kx) (he : WE Y X e t) (hb : attributeBase e f X.env (eval e X.env) = eval e X.env := by rfl) : WE Y X (.Attribute e f pos) (dFld Kx f t) := by
  subst hK
  exact we_fld he hb
def shB (d : PyData) : Bool := match d with | .tuple ds => decide (ds.length ≤ 100) && ds.all szD | _ => false
theorem shB_no {d : PyData} (h : tupB d 0 100 = false) : shB d = false := by
  cases d <;> try rfl
  rename_i ds
  show (decide (ds.length ≤ 100) && ds.all szD) = false
  rw [decide_eq_false (fun q => by rw [tup_true (by omega) (by omega)] at h; cases h), Bool.false_and]
theorem shB_eq {ds : List PyData} (h : (ds.length : Int) ≤ 100) : shB (.tuple ds) = ds.all szD := by
  show (decide (ds.length ≤ 100) && ds.all szD) = ds.all szD
  rw [decide_eq_true (by omega), Bool.true_and]
theorem shB_yes {d : PyData} (h : shB d = true) : ∃ S : List Int, d = .tuple (S.map .int) ∧ In1 (10 ^ 6) S ∧ S.length ≤ 100 := by
  cases d <;> try cases h
  rename_i ds
  have h : (decide (ds.length ≤ 100) && ds.all szD) = true := h
  rw [Bool.and_eq_true, decide_eq_true_eq] at h
  obtain ⟨S, rfl, hS⟩ := ints_of fun y hy => by
    obtain ⟨z, rfl, z1, z2⟩ := szD_true (List.all_eq_true.mp h.2 y hy)
    exact ⟨z, rfl, z1, z2⟩
  exact ⟨S, rfl, hS, by rw [List.length_map] at h; exact h.1⟩
theorem all_map (ds : List PyData) : (ds.map szD).all id = ds.all szD := by
  rw [List.all_map]
  rfl
def odds26 : List PyData := [.none, .bool true, .bool false, .int 0, .int 1, .int (-1), .int ((10 : Int) ^ (29 : Int).toNat), .str "", .str "0 1", .tuple [], .list [], .dict [], .tuple [.int 0], .list [.int 0], .tuple [.bool true], .tuple [.tuple []], .dict [(.str "a", .int 0)]] ++ [.tuple [.tuple [.int 0, .int 1]], .tuple [.tuple [.int 0, .int 1], .tuple [.int 2, .int 3]], .tuple [.str "0", .str "1"], .tuple [.none, .none]]
/-- no object is named, told by looking -/
def noRef : Nat → PyData → Bool
  | 0, _ => false
  | k + 1, .tuple ds => ds.all (noRef k)
  | _ + 1, d => !isRefD d
theorem noRef_ok : ∀ {k : Nat} {d : PyData}, noRef k d = true → NrA d
  | 0, _, h => by cases h
  | k + 1, .tuple ds, h => .tup fun x hx => noRef_ok (List.all_eq_true.mp h x hx)
  | _ + 1, .int _, _ => .leaf rfl fun _ e => PyData.noConfusion e
  | _ + 1, .bool _, _ => .leaf rfl fun _ e => PyData.noConfusion e
  | _ + 1, .none, _ => .leaf rfl fun _ e => PyData.noConfusion e
  | _ + 1, .str _, _ => .leaf rfl fun _ e => PyData.noConfusion e
  | _ + 1, .list _, _ => .leaf rfl fun _ e => PyData.noConfusion e
  | _ + 1, .dict _, h => .leaf (by simpa [noRef] using h) fun _ e => PyData.noConfusion e
theorem gv_look {ds : List PyData} {m k : Nat} (h : (ds.all fun d => d.showable && decide (d.depth ≤ k) && decide (d.shown.length ≤ m) && noRef 9 d) = true) : ∀ d ∈ ds, GV m k d := fun d hd => by
  have k2 := List.all_eq_true.mp h d hd
  rw [Bool.and_eq_true, Bool.and_eq_true, Bool.and_eq_true, decide_eq_true_eq, decide_eq_true_eq] at k2
  exact ⟨⟨k2.1.1.1, k2.1.1.2, k2.1.2⟩, noRef_ok k2.2⟩
theorem odd26_ok {d : PyData} (h : d ∈ odds26) : GV 500 4 d := gv_look (by decide +kernel) d h
theorem shB_ints {T : List Int} (hT : In1 (10 ^ 6) T) (hl : T.length ≤ 100) : shB (.tuple (T.map .int)) = true := by
  rw [shB_eq (by rw [List.length_map]; omega)]
  exact List.all_eq_true.mpr fun y hy => by
    obtain ⟨z, hz, rfl⟩ := List.mem_map.mp hy
    exact numIn_int (hT z hz).1 (hT z hz).2
end DL
set_option maxHeartbeats 4000000
namespace DL
open PySem PySem.Spec PyProof.Rows L2
theorem int_inj : ∀ {a b : List Int}, a.map PyData.int = b.map PyData.int → a = b
  | [], [], _ => rfl
  | [], _ :: _, h => (nomatch h)
  | _ :: _, [], h => (nomatch h)
  | x :: a, y :: b, h => by
    simp only [List.map_cons, List.cons.injEq, PyData.int.injEq] at h
    rw [h.1, int_inj h.2]
theorem clnD_inj {a b : List Int} (h : clnD a = clnD b) : a = b := by
  unfold clnD at h
  injection h with h
  injection h with h
  injection h with _ h
  injection h with h
  injection h with _ h
  exact int_inj h
theorem Rp.cln {K : PySem.W.Frag} {F : Hp} {ns : List Int} {v : V} (h : Rp K F (clnD ns) v) : ∃ (a : Addr) (o : Obj), v = .ref a ∧ F a = some (.frz o (.tup (ns.map V.int))) ∧ o.cls = .type "tuple" ∧ o.dict = none := by
  have h : Rp K F (.dict [(.none, .tuple (.int (((2 : Nat) ^ 2000 : Nat) : Int) :: ns.map .int))]) v := h
  simp only [Rp] at h
  rcases h with ⟨_, _, _, _, ps, _, e⟩ | ⟨b, e, _⟩ | ⟨a, ms, o, e, rfl, h1, h2⟩
  · cases ps with
    | nil => cases e
    | cons q ps =>
      rw [List.map_cons] at e
      injection e with e _
      injection e with e _
      exact absurd e.symm keyD_ne
  · unfold refD at e
    injection e with e
    injection e with e
    injection e with _ e
    cases e
  · obtain rfl : ns = ms := clnD_inj e
    exact ⟨a, o, rfl, h1, h2⟩
theorem rp_cln {K : PySem.W.Frag} {F : Hp} {ns : List Int} {a : Addr} {o : Obj} (h : F a = some (.frz o (.tup (ns.map V.int)))) (hc : o.cls = .type "tuple") (hd : o.dict = none) : Rp K F (clnD ns) (.ref a) := by
  have : Rp K F (.dict [(.none, .tuple (.int (((2 : Nat) ^ 2000 : Nat) : Int) :: ns.map .int))]) (.ref a) := by
    simp only [Rp]
    exact .inr (.inr ⟨a, ns, o, rfl, rfl, h, hc, hd⟩)
  exact this
theorem Rp.unc {K : PySem.W.Frag} {F : Hp} {ns : List Int} {v : V} (h : Rp K F (clnD ns) v) : Rp K F (.tuple (ns.map .int)) v := by
  obtain ⟨a, o, rfl, h1, _⟩ := h.cln
  simp only [Rp]
  exact ⟨a, ns.map V.int, rfl, .inr ⟨o, h1⟩, rps_ints ns⟩
section
variable {X : Cx} {Y : Fx}
/-- a clean tuple where any tuple will do -/
def dUnc (t : DTE) : DTE := fun ρ n R => t ρ n fun x n1 => ∃ ns : List Int, x = .dat (clnD ns) ∧ R (.dat (.tuple (ns.map .int))) n1
theorem we_unc {e : Expr} {t : DTE} (he : WE Y X e t) : WE Y X e (dUnc t) := pe_imp he fun σ H Q ⟨Z, F, ρ, n, R, r, ht, k⟩ =>
  ⟨Z, F, ρ, n, _, r, ht, fun x n1 F1 H1 v ⟨ns, ex, hR⟩ g1 s1 d1 w1 => by
    subst ex
    exact k _ _ _ _ _ hR g1 s1 d1 (Rp.unc w1)⟩
/-- tuple(l), l a list of ints -/
def rTupC (K : PySem.W.Frag) : List V → Hp → VK → Prop := fun xs H Q => ∃ (p : Addr) (ns : List Int), xs = [.ref p] ∧ SqL K H p (ns.map V.int) ∧ ∀ (l : Addr) (o : Obj), H l = none → o.cls = .type "tuple" → o.dict = none → Q (.ref l) (upd H l (.frz o (.tup (ns.map V.int))))
theorem call_tupC : CallR X (.type "tuple") (rTupC X.K) := by
  intro pins s σ H xs us Q I r h
  obtain ⟨p, ns, rfl, hq, q⟩ := h
  obtain ⟨u, rfl, rx⟩ := vals1 r
  cases rx
  obtain ⟨its, r', pl, hz⟩ := I.list hq
  have hlen := r'.length
  refine call_tuple_list pl.isList (fun h' kp => ?_) (by simp only [List.size_toArray] <;> omega)
  have I1 : Inv X pins σ H { s with heap := h' } := I.kept (t' := s.toks) kp
  have I2 : Inv X pins σ (upd H h'.objs.size (.frz { cls := .type "tuple", data := .seq its.toArray } (.tup (ns.map V.int)))) { s with heap := h'.push { cls := .type "tuple", data := .seq its.toArray } } :=
    I1.laid (t' := s.toks) (fun b o e => Heap.get?_push_of_some _ e) (Nat.le_refl _) (show ObjOk X.prog X.w _ _ _ (.frz _ (.tup (ns.map V.int))) from ⟨Heap.get?_push_size _ rfl, hz, its, r', IsTup.new _ _⟩)
  exact ⟨.ref h'.objs.size, _, I2, rfl, q _ _ (I1.hok.fresh (Nat.le_refl _)) rfl rfl⟩
def oTupC : DC := fun xs R => ∃ x, ∃ ns : List Int, xs = [x] ∧ x.toD = .list (ns.map .int) ∧ R (clnD ns)
theorem ck_tupC {K : PySem.W.Frag} : CallOk K (rTupC K) oTupC := fun δ F H xs vs R Q hs hv ⟨x, ns, e, e2, hr⟩ b => by
  subst e
  obtain ⟨v, rfl, h1⟩ := vr1 hv
  obtain ⟨a, l, rfl, h2, h3⟩ := h1.lst hs e2
  obtain rfl := Rps.ints h3
  refine ⟨a, ns, rfl, SqL.of h2, fun p o hp hc hd => ?_⟩
  obtain ⟨g, s⟩ := Gp.new (o := .frz o (.tup (ns.map V.int))) hp hs
  exact b _ _ _ _ hr g s (rp_cln upd_same hc hd)
def rCntC (K : PySem.W.Frag) : V → List V → Hp → VK → Prop := fun x xs H Q => ∃ (p : Addr) (ns : List Int) (k : Int), x = .ref p ∧ xs = [.int k] ∧ SqT K H p (ns.map V.int) ∧ Q (.int (ns.count k : Nat)) H
theorem mt_tcount : MtR X "tuple.count" (rCntC X.K) := by
  intro pins s σ H x xs v us Q I rx rxs h
  obtain ⟨p, ns, k, rfl, rfl, hs, q⟩ := h
  cases rx
  obtain ⟨u, rfl, ru⟩ := rxs.one
  obtain ⟨t, rfl⟩ := ru
  obtain ⟨its, rv, ⟨⟨cls, dd, data, sl⟩, ho, hc, n, hd⟩, hlen⟩ := I.tuple hs
  simp only at hc hd
  subst hc hd
  have hi := ints_of_vals rv
  refine call_meets PySem.F.slot_tuple_count ⟨_, ho, rfl⟩ PySem.F.entry_tuple_count (PySem.F.args_tuple_count_2 _ _)
    (SeqAt.tuple_countAt p its.toArray n dd sl (.int k t) (eqk k)) ⟨ho, fun y hy => (eqk_gives hi y (by simpa using hy)).at _ _, ?_⟩
  have ec : its.toArray.toList.countP (eqk k) = ns.count k := eqk_count hi
  refine ⟨.int (ns.count k : Nat), H, I.tok _, ⟨s.toks, ?_⟩, q⟩
  show Value.int ((its.toArray.toList.countP (eqk k) : Nat) : Int) s.toks = Value.int ((ns.count k : Nat) : Int) s.toks
  rw [ec]
def clnV (x : V) (H : Hp) : Prop := ∃ (a : Addr) (o : Obj) (xs : List V), x = .ref a ∧ H a = some (.frz o (.tup xs)) ∧ o.cls = .type "tuple" ∧ o.dict = none
theorem pe_bmC {o e : Expr} {es : List Expr} {to : TE} {t : TA} {name : Str} {apos cpos : Pos} {id : String} {r : V → List V → Hp → VK → Prop} (slot : Slot "tuple" name id) (hty : typeOf (.builtin id) = pure (.type "method_descriptor")) (hm : MtR X id r) (ho : PE X o to) (ha : PA X (e :: es) t)
    (hbase : attributeBase o name X.env (eval o X.env) = eval o X.env)
    (hfew : ((backTo cpos (starEach (e :: es) X.env)).all (fun x => !x.1) && (backToKw cpos (keywordEach [] X.env)).all (fun x => x.1.isSome)
      && decide ((e :: es).length + ([] : List Keyword).length + (if ([] : List Keyword).isEmpty then 0 else 1) < 30)) = true)
    (hline : (apos.endLine == cpos.line) = true) (hs : starEach (e :: es) X.env = (false, eval e X.env) :: starEach es X.env) (hplain : (backTo cpos (starEach es X.env)).any (·.1) = false) :
    PE X (.Call (.Attribute o name apos) (e :: es) [] cpos) (fun σ H Q => to σ H fun x H1 => clnV x H1 ∧ t σ H1 fun xs H2 => r x xs H2 Q) := by
  refine ⟨fun pins s σ H Q I h => ?_⟩
  refine wpAny_Call_method_late hbase hfew hline rfl (thn (ho.run pins s σ H _ I h) fun v s1 ⟨x, H1, I1, r1, ty, q1⟩ => ?_)
  obtain ⟨a, ob, ys, rfl, hH, hc, hd⟩ := ty
  cases r1
  have hg : s1.heap.get? a = some ob := (I1.hok a _ hH).1
  refine ⟨"tuple", id, PySem.F.plainAttrs_tuple, slot, hty, ⟨ob, hg, hc⟩, fun b e => ?_, ?_⟩
  · cases e
    exact ⟨ob, hg, hd⟩
  have hA := ha.run cpos pins s1 σ H1 _ I1 q1
  rw [hs] at hA ⊢
  refine Calls.callWith_builtin (by show (false || (backTo cpos (starEach es X.env)).any (·.1)) = false; rw [hplain] <;> rfl) (Calls.evalArgs_plain ?_)
  exact thn hA fun us s2 ⟨vs, H2, I2, r2, q2⟩ => hm pins s2 σ H2 (.ref a) vs (.ref a) us Q I2 rfl r2 q2
def dMetC (f : List Int → Int → Prop) (g : List Int → Int → Nat) (t u : DTE) : DTE := fun ρ n R => t ρ n fun x n1 => ∃ ns : List Int, x = .dat (clnD ns) ∧ u ρ n1 fun y n2 => ∃ k : Int, y = .dat (.int k) ∧ f ns k ∧ R (.dat (.int (g ns k : Nat))) n2
theorem we_countC {o e : Expr} {t u : DTE} {apos cpos : Pos} (ho : WE Y X o t) (he : WE Y X e u)
    (hbase : attributeBase o "count" X.env (eval o X.env) = eval o X.env := by rfl)
    (hfew : ((backTo cpos (starEach [e] X.env)).all (fun x => !x.1) && (backToKw cpos (keywordEach [] X.env)).all (fun x => x.1.isSome)
      && decide (([e] : List Expr).length + ([] : List Keyword).length + (if ([] : List Keyword).isEmpty then 0 else 1) < 30)) = true := by rfl)
    (hline : (apos.endLine == cpos.line) = true := by rfl) (hst : starEach [e] X.env = (false, eval e X.env) :: starEach [] X.env := by rfl) (hplain : (backTo cpos (starEach [] X.env)).any (·.1) = false := by rfl) :
    WE Y X (.Call (.Attribute o "count" apos) [e] [] cpos) (dMetC (fun _ _ => True) (fun ns k => ns.count k) t u) :=
  pe_imp (pe_bmC PySem.F.slot_tuple_count PySem.F.type_tuple_count mt_tcount ho (pa_cons he pa_nil hst) hbase hfew hline hst hplain) fun σ H Q ⟨Z, F, ρ, n, R, r, ht, k⟩ =>
    ⟨Z, F, ρ, n, _, r, ht, fun x n1 F1 H1 v ⟨ns, e1, hx⟩ g1 s1 d1 w1 => by
      subst e1
      obtain ⟨a, ob, rfl, p1, p2, p3⟩ := Rp.cln (K := X.K) w1
      refine ⟨⟨a, ob, _, rfl, s1 _ _ p1, p2, p3⟩, Z, F1, ρ, n1, _, r.step g1 s1 d1, hx, fun y n2 F2 H2 u2 ⟨b, e2, _, hy⟩ g2 s2 d2 w2 => ?_⟩
      subst e2
      simp only [VR, Rp] at w2
      subst w2
      exact ⟨a, ns, b, rfl, rfl, sqtR (.inr ⟨ob, s2 _ _ (g2.sF _ _ p1)⟩), k _ _ _ _ _ hy (g1.trans g2) s2 d2 (by simp [VR, Rp])⟩⟩
end
end DL
set_option maxHeartbeats 4000000
namespace DL
open PySem PySem.Spec PyProof.Rows L2
theorem IsClean.sq {K : PySem.W.Frag} {H : Hp} {a : Addr} {o : Obj} {xs : List V} (h : H a = some (.frz o (.tup xs))) : SqT K H a xs := sqtR (.inr ⟨o, h⟩)
/-- what is wanted of a new tuple whose dict is none -/
def NewC (H : Hp) (xs : List V) (Q : VK) : Prop := ∀ (l : Addr) (o : Obj), H l = none → o.cls = .type "tuple" → o.dict = none → Q (.ref l) (upd H l (.frz o (.tup xs)))
theorem Back.cln {K : PySem.W.Frag} {F H : Hp} {R : PyData → Prop} {Q : VK} (b : Back K F H R Q) (hs : Same F H) {ns : List Int} (h : R (clnD ns)) : NewC H (ns.map V.int) Q := fun p o hp hc hd => by
  obtain ⟨g, s⟩ := Gp.new (o := .frz o (.tup (ns.map V.int))) hp hs
  exact b _ _ _ _ h g s (rp_cln upd_same hc hd)
section
variable {X : Cx} {Y : Fx}
theorem laidC {pins : List (Addr × Obj)} {σ : L2.St} {H : Hp} {s : Shared} {Q : VK} {xs : List V} {its : List Value} (I : Inv X pins σ H s) (hz : xs.length ≤ sizeLine) (r : Vals xs its) (q : NewC H xs Q) :
    EP X pins σ Q (.ref s.heap.objs.size) { s with heap := s.heap.push { cls := .type "tuple", data := .seq its.toArray } } :=
  ⟨.ref s.heap.objs.size, _, I.laid (t' := s.toks) (o := .frz { cls := .type "tuple", data := .seq its.toArray } (.tup xs)) (fun b ob q => Heap.get?_push_of_some _ q) (Nat.le_refl _) ⟨Heap.get?_push_size _ rfl, hz, its, r, IsTup.new _ _⟩, rfl, q _ _ (I.hok.fresh (Nat.le_refl _)) rfl rfl⟩
def rCatC (K : PySem.W.Frag) : R2 := fun x y H Q => ∃ a b xs ys, x = .ref a ∧ y = .ref b ∧ SqT K H a xs ∧ SqT K H b ys ∧ xs.length + ys.length ≤ sizeLine ∧
  (xs = [] → Q (.ref b) H) ∧ (xs ≠ [] → ys = [] → Q (.ref a) H) ∧ (xs ≠ [] → ys ≠ [] → NewC H (xs ++ ys) Q)
theorem op_catC : OpR X (binaryOp .Add) (rCatC X.K) := by
  intro pins s σ H x y v u Q I rx ry h
  obtain ⟨a, b, xs, ys, rfl, rfl, ha, hb, hz, q0, q1, q2⟩ := h
  cases rx
  cases ry
  obtain ⟨its, r1, p1, _⟩ := I.tuple ha
  obtain ⟨its2, r2, p2, _⟩ := I.tuple hb
  by_cases hx : xs = []
  · subst hx
    cases r1
    exact cat_tup0 p1 p2 ⟨.ref b, H, I, rfl, q0 rfl⟩
  · refine HT.cat_tup p1 p2 (fun z => hx (r1.nil_iff.mp z)) (fun z => ⟨.ref a, H, I, rfl, q1 hx (r2.nil_iff.mp z)⟩) (fun z => ?_) (by rw [← r1.length, ← r2.length]; exact hz)
    exact laidC I (by rw [List.length_append]; exact hz) (r1.append r2) (q2 hx (fun w => z (r2.nil_iff.mpr w)))
def oCatC : D2 := fun x y R => ∃ ns ms : List Int, x = .dat (clnD ns) ∧ y = .dat (clnD ms) ∧ ns.length + ms.length ≤ sizeLine ∧ R (clnD (ns ++ ms))
theorem bi_catC {K : PySem.W.Frag} : BinOk K (rCatC K) oCatC := fun δ F H x y v u R Q hs hx hy ⟨ns, ms, e1, e2, hz, hr⟩ b => by
  subst e1 e2
  obtain ⟨a, o, rfl, h1, c1, d1⟩ := Rp.cln (K := K) hx
  obtain ⟨a2, o2, rfl, h2, c2, d2⟩ := Rp.cln (K := K) hy
  refine ⟨a, a2, _, _, rfl, rfl, IsClean.sq (hs _ _ h1), IsClean.sq (hs _ _ h2), by rw [List.length_map, List.length_map]; exact hz, fun e => ?_, fun _ e => ?_, fun _ _ => ?_⟩
  · have : ns = [] := List.map_eq_nil_iff.mp e
    subst this
    exact b.here hs hr (rp_cln h2 c2 d2)
  · have : ms = [] := List.map_eq_nil_iff.mp e
    subst this
    rw [List.append_nil] at hr
    exact b.here hs hr (rp_cln h1 c1 d1)
  · rw [← List.map_append]
    exact b.cln hs hr
def rSlC (K : PySem.W.Frag) : V → Option Int → Option Int → Hp → VK → Prop := fun x lo hi H Q => ∃ a xs, x = .ref a ∧ SqT K H a xs ∧
  (HT.sIx xs.length 0 lo = 0 ∧ HT.sIx xs.length xs.length hi = xs.length → Q (.ref a) H) ∧ (¬ (HT.sIx xs.length 0 lo = 0 ∧ HT.sIx xs.length xs.length hi = xs.length) → NewC H (cutV xs lo hi) Q)
theorem sl_tupC : SlR X (rSlC X.K) := by
  intro pins s σ H x v vl vu lo hi sl Q I rx hs pl pu h
  obtain ⟨a, xs, rfl, hx, q1, q2⟩ := h
  cases rx
  obtain ⟨its, r, ht, hz⟩ := I.tuple hx
  have hlen : its.toArray.size = xs.length := by rw [List.size_toArray]; exact r.length.symm
  refine ⟨"tuple", _, PyProof.Rows.slot_tuple_getitem.lookup, ht.typeIs, ?_⟩
  by_cases hw : HT.sIx xs.length 0 lo = 0 ∧ HT.sIx xs.length xs.length hi = xs.length
  · exact getItem_tuple_whole ht hs pl pu (by rw [hlen]; exact hw) ⟨.ref a, H, I, rfl, q1 hw⟩
  · refine HT.getItem_tuple_cut ht hs pl pu (by rw [hlen]; exact hw) ?_ (by rw [hlen]; exact hz)
    rw [hlen]
    exact laidC I (Nat.le_trans (cutV_length xs lo hi) hz) ((r.drop (HT.sIx xs.length 0 lo)).take (HT.sIx xs.length xs.length hi - HT.sIx xs.length 0 lo)) (q2 hw)
def dSlC (t : DTE) (l h : DTO) : DTE := fun ρ n R => t ρ n fun x n1 => l ρ n1 fun lo n2 => h ρ n2 fun hi n3 => ∃ ns : List Int, x = .dat (clnD ns) ∧ R (.dat (clnD (cutG ns lo hi))) n3
theorem cut_map (ns : List Int) (lo hi : Option Int) : cutV (ns.map V.int) lo hi = (cutG ns lo hi).map V.int := by
  unfold cutV cutG
  rw [List.length_map, ← List.map_drop, ← List.map_take]
theorem we_sliceC {e : Expr} {lo hi : Option Expr} {t : DTE} {l h : DTO} {pos p2 : Pos} (he : WE Y X e t) (hl : WO Y X lo l) (hh : WO Y X hi h) : WE Y X (.Subscript e (.Slice lo hi none p2) pos) (dSlC t l h) :=
  pe_imp (pe_slice sl_tupC he hl hh) fun σ H Q ⟨Z, F, ρ, n, R, r, ht, k⟩ =>
    ⟨Z, F, ρ, n, _, r, ht, fun x n1 F1 H1 v hx g1 s1 d1 w1 => ⟨Z, F1, ρ, n1, _, r.step g1 s1 d1, hx, fun lo n2 F2 H2 hlo g2 s2 d2 => ⟨Z, F2, ρ, n2, _, (r.step g1 s1 d1).step g2 s2 d2, hlo, fun hi n3 F3 H3 ⟨ns, ex, hhi⟩ g3 s3 d3 => by
      subst ex
      have w3 : VR X.K Z.δ F3 H3 (.dat (clnD ns)) v := (w1.step g2).step g3
      have b : Back X.K F3 H3 (fun d => R (.dat d) n3) Q := fun d F4 H4 v4 h4 g4 s4 w4 =>
        k _ _ _ _ _ h4 (((g1.trans g2).trans g3).trans g4.gr) s4 (g4.dk ((((r.step g1 s1 d1).step g2 s2 d2).step g3 s3 d3).b)) w4
      obtain ⟨a, o, rfl, h1, c1, d1'⟩ := Rp.cln (K := X.K) w3
      refine ⟨a, _, rfl, IsClean.sq (s3 _ _ h1), fun q => ?_, fun _ => ?_⟩
      · rw [cut_whole (by rw [List.length_map] at q; exact q)] at hhi
        exact b.here s3 hhi (rp_cln h1 c1 d1')
      · rw [cut_map]
        exact b.cln s3 hhi⟩⟩⟩
def tTupC (t : TA) : TE := fun σ H Q => t σ H fun xs H1 => xs.length ≤ sizeLine ∧ NewC H1 xs Q
theorem pe_tupC {es : List Expr} {t : TA} {pos : Pos} {x1} (h : PA X es t) : PE X (.Tuple es x1 pos) (tTupC t) := by
  refine ⟨fun pins s σ H Q I hq => ?_⟩
  refine wpAny_Tuple_spliced (thn (h.run pos pins s σ H _ I hq) fun us s1 ⟨xs, H1, I1, r, z, q⟩ => ⟨by rw [← r.length]; exact z, ?_⟩)
  exact laidC I1 z r q
def dTupC (t : DTA) : DTE := fun ρ n R => t ρ n fun xs n' => needDs xs fun ds => ∃ ns : List Int, ds = ns.map .int ∧ ns.length ≤ sizeLine ∧ R (.dat (clnD ns)) n'
theorem we_tupD {es : List Expr} {t : DTA} {x1} {pos : Pos} (h : WA Y X es t) : WE Y X (.Tuple es x1 pos) (dTupC t) :=
  pe_imp (pe_tupC h) fun σ H Q ⟨Z, F, ρ, n, R, r, ht, k⟩ => ⟨Z, F, ρ, n, _, r, ht, fun xs n1 F1 H1 vs hx g1 s1 d1 w1 => by
    obtain ⟨ds, ⟨ns, e, hl, hR⟩, hr⟩ := needDs_is w1 hx
    subst e
    obtain rfl := Rps.ints hr
    refine ⟨by rw [List.length_map]; exact hl, fun p o hp hc hd => ?_⟩
    obtain ⟨g2, s2⟩ := Gp.new (o := .frz o (.tup (ns.map V.int))) hp s1
    exact k _ _ _ _ _ hR (g1.trans g2.gr) s2 (g2.dk ((r.step g1 s1 d1).b)) (rp_cln (K := X.K) upd_same hc hd)⟩
end
end DL
set_option maxHeartbeats 4000000
namespace DL
open PySem PySem.Spec PyProof.Rows L2
section
variable {X : Cx} {Y : Fx} {W : WX} {dw : DW} {PC : Addr → Prop} {k : Nat} {ps : List Str} {c : Addr → DSpecX}
theorem nf_same {K : PySem.W.Frag} {C : Addr} : PySem.W.notFirst K C (.ref C) = true := by
  unfold PySem.W.notFirst
  simp
def dEqO (K : PySem.W.Frag) (PC : Addr → Prop) (c : Addr → DSpecX) (dw : DW) (ta tb : DTE) : DTE := fun ρ n R => ta ρ n fun x n1 => tb ρ n1 fun y n2 => ∃ a o b o', x = .dat (refD a) ∧ y = .dat (refD b) ∧ n2.ob a = some o ∧ n2.ob b = some o' ∧ PC o.C ∧ PySem.W.notFirst K o.C (.ref o'.C) = true ∧
  c o.C [.dat (refD a), .dat (refD b)] n2 (fun d n3 => ∃ q : Bool, d = .bool q ∧ R (.dat (.bool q)) n3) fun ex n3 => dw ex ρ n3
theorem eqO_core {a b : Expr} {ta tb : DTE} {pos : Pos} (tk : Takes X W) (ok : WOk Y X.K dw W) (HM : HasM X.prog X.w X.K X.mg X.base PC "__eq__" k ps c) (hgd : X.A.guards = some []) (hr : Room k X.A) (hl : ps.length = 2) (hu : X.A.units < cLine)
    (ha : WE Y X a ta) (hb : WE Y X b tb)
    {pins : List (Addr × Obj)} {s : Shared} {σ : L2.St} {H : Hp} {Q : VK} (I : Inv X pins σ H s) (h : up Y X.K (dEqO X.K PC c dw ta tb) σ H Q) :
    wpAny (model X.prog X.w) X.A (eval a X.env) (fun v s₁ => wpAny (model X.prog X.w) X.A (eval b X.env) (fun u s₂ => wpAny (model X.prog X.w) X.A (compareOp .Eq v u) (EP X pins σ Q) X.xe s₂) X.xe s₁) X.xe s := by
  obtain ⟨Z, F, ρ, n, R, r, h, kk⟩ := h
  exact two_run ha hb I r h fun v u s2 x y xv yv n2 F2 H2 I2 rx ry ⟨a, o, b, o', ex, ey, ho, ho', hPC, hnf, hx⟩ g2 s2' d2 w2 w3 => by
    subst ex ey
    obtain rfl := VR.ref w2
    obtain rfl := VR.ref w3
    obtain rfl : v = Value.ref a := rx
    obtain rfl : u = Value.ref b := ry
    have r2 := r.step g2 s2' d2
    obtain ⟨_, dxb, vsb, hb2, _⟩ := d2.2.1 b o' ho'
    obtain ⟨mB, OB, _⟩ := ins_get I2.hok hb2
    obtain ⟨odb, JB, _⟩ := OB.look
    obtain ⟨g, dx, od, J, hcl, hM, run⟩ := dun (A := X.A) (Q := fun z H' => ∃ q : Bool, z = .bl q ∧ Q (.bl q) H') (us := [.ref b]) tk ok HM I2 r2 ho hPC (.cons w3 .nil) (.cons rfl .nil) hl.symm hx fun d n3 F3 H3 v ⟨q, ed, h4⟩ g3 s3 d3 w4 => by
      subst ed
      simp only [Rp] at w4
      exact ⟨q, w4, kk _ _ _ _ _ h4 (g2.trans g3) s3 d3 (by simp [VR, Rp])⟩
    obtain ⟨mm, hF⟩ := I2.fr
    refine PySem.W.cmp_K (op := .Eq) hu hF I2.ok.mod.kin J JB.type hnf hM.at_ hM.fn ?_
    refine wpAny_mono (run hgd hr I2.env0) (fun w s' ⟨z, H', I', rz, q, eq, hq⟩ => ?_) fun _ _ q => q
    subst eq
    obtain rfl : w = Value.bool q := rz
    exact ⟨.bl q, H', I', rfl, hq⟩
theorem we_eqO {a b : Expr} {ta tb : DTE} {pos : Pos} (tk : Takes X W) (ok : WOk Y X.K dw W) (HM : HasM X.prog X.w X.K X.mg X.base PC "__eq__" k ps c) (hgd : X.A.guards = some []) (hr : Room k X.A) (hl : ps.length = 2) (hu : X.A.units < cLine)
    (ha : WE Y X a ta) (hb : WE Y X b tb) (hm : behindInMarks .Eq b = false := by with_unfolding_all rfl) : WE Y X (.Compare a [.Eq] [b] pos) (dEqO X.K PC c dw ta tb) :=
  ⟨fun pins s σ H Q I h => wpAny_Compare1 (eqO_core (pos := pos) tk ok HM hgd hr hl hu ha hb I h) hm⟩
end
section
variable {M : Model} {prog : Program} {w : World} {A : Around} {E : Value → Shared → Prop} {s : Shared} {K : PySem.W.Frag} {x y C g L : Addr} {ox : Obj} {od : Option Obj} {h₀ : Heap} {m : Str → Option Value} {tb : Value}
theorem ifBound_objNe {args : List Value} {Q : Option Value → Shared → Prop} (X : K.In s.heap) (I : PySem.W.InstAt s.heap x ox C od) (hs : PySem.W.findIn K (.ref C) "__ne__" = some (some (.builtin "object.__ne__")))
    (h : wpAny M A (call (.builtin "object.__ne__") (.ref x :: args)) (fun v => Q (some v)) E s) : wpAny M A (callSpecialIfBound? (.ref x) "__ne__" args) Q E s := by
  simp only [callSpecialIfBound?, bindSpecialIfBound?]
  refine wpAny_holding (wpAny_bind (wpAny_bind (wpAny_bind (I.type.here ((PySem.W.looks_findIn X hs).here ?_)))))
  refine wpAny_bind (wpAny_askSetting (wpAny_ite ?_))
  have fin : wpAny M A (call (.builtin "object.__ne__") ([.ref x] ++ args) >>= fun v => pure (some v)) Q E s := wpAny_bind (wpAny_mono h (fun v s' h' => wpAny_pure h') fun _ _ h' => h')
  split
  · exact wpAny_bind (wpAny_of_eq (F.cmp_object.ne.bind _) (wpAny_pure (by exact fin)))
  · exact wpAny_tryCatch (wpAny_bind (wpAny_of_eq (F.cmp_object.ne.bind _) (wpAny_pure (by exact fin))))
theorem entry_neK (X : K.In s.heap) (I : PySem.W.InstAt s.heap x ox C od) (hs : PySem.W.findIn K (.ref C) "__eq__" = some (some (.ref g))) (hf : PySem.W.isFn K (.ref g) = true) (hu : A.units < cLine) {Q : Fin → Shared → Prop}
    (hcall : wpAny (model prog w) A (call (.ref g) [.ref x, .ref y]) (fun v s' => ∃ q, v = .bool q ∧ Q (.done (.ret (.bool (!q)))) s') E s) :
    wpAny (model prog w) A (Builtin.«object.__ne__» ⟨[.ref x, .ref y], []⟩) Q E s := by
  unfold Builtin.«object.__ne__»
  repeat (first
    | with_reducible refine wpAny_cRoomFor hu ?_
    | (refine wpAny_bind (m := callSpecialIfBound? (.ref x) (Str.ofString "__eq__") [.ref y])
        (PySem.W.ifBound_K X I hs hf (wpAny_mono hcall (fun r s' hr => by
          obtain ⟨b, rfl, hq⟩ := hr
          repeat (first | exact hq | exact wpAny_pure hq | exact wpAny_truthy_bool hq | (refine wpAny_bind (m := truthy (.bool _)) (wpAny_truthy_bool ?_)) | wp_step)) fun _ _ e => e)))
    | wp_step)
theorem try_neK (X : K.In s.heap) (I : PySem.W.InstAt s.heap x ox C od) (hs : PySem.W.findIn K (.ref C) "__eq__" = some (some (.ref g))) (hf : PySem.W.isFn K (.ref g) = true) (hn : PySem.W.findIn K (.ref C) "__ne__" = some (some (.builtin "object.__ne__"))) (hm : PySem.W.mroIn K C (.type "object") = some true) (hu : A.units + 1 < cLine) {Q : Option Value → Shared → Prop}
    (hcall : wpAny (model prog w) A.in1 (call (.ref g) [.ref x, .ref y]) (fun v s' => ∃ b, v = .bool b ∧ Q (some (.bool (!b))) s') E s) :
    wpAny (model prog w) A (tryCompare (.ref x) "__ne__" (.ref y)) Q E s := by
  simp only [tryCompare]
  refine wpAny_bind (ifBound_objNe X I hn (wpAny_call (codeAny_call_builtin F.cmp_object.ne.plain F.cmpEntry_ne
    (PySem.W.check_slot F.cmpKind_ne F.cmpSplit_ne (I.type.andThen (PySem.W.looks_mroIn X hm)) (F.cmpArgs_ne _ _)
      (entry_neK (A := A.in1) X I hs hf hu (wpAny_mono hcall (fun v s' hv => ?_) fun _ _ e => e))))))
  obtain ⟨b, rfl, hq⟩ := hv
  first | exact ⟨b, rfl, wpAny_pure hq⟩ | exact ⟨b, rfl, wpAny_pure (wpAny_pure hq)⟩ | exact ⟨b, rfl, hq⟩
theorem ne_K {Q : Value → Shared → Prop} (hu : A.units + 1 < cLine) (F : Fr h₀ L s.heap m) (X₀ : K.In h₀) (I : PySem.W.InstAt s.heap x ox C od) (hb : PySem.W.Looks (model prog w) s.heap (typeOf (.ref y)) tb) (hn : PySem.W.notFirst K C tb = true)
    (hs : PySem.W.findIn K (.ref C) "__eq__" = some (some (.ref g))) (hf : PySem.W.isFn K (.ref g) = true) (hne : PySem.W.findIn K (.ref C) "__ne__" = some (some (.builtin "object.__ne__"))) (hm : PySem.W.mroIn K C (.type "object") = some true)
    (h : wpAny (model prog w) A.in1 (call (.ref g) [.ref x, .ref y]) (fun v s' => ∃ b, v = .bool b ∧ Q (.bool (!b)) s') E s) : wpAny (model prog w) A (compareOp .NotEq (.ref x) (.ref y)) Q E s := by
  have X := X₀.keeps F.keep
  have one : wpAny (model prog w) A (tryCompare (.ref x) "__ne__" (.ref y)) (fun r s' => ∃ v, r = some v ∧ Q v s') E s :=
    try_neK X I hs hf hne hm hu (wpAny_mono h (fun v s' ⟨b, e, hq⟩ => ⟨b, e, _, rfl, hq⟩) fun _ _ e => e)
  unfold compareOp
  show wpAny (model prog w) A (richCompare .NotEq (.ref x) (.ref y)) Q E s
  unfold richCompare
  simp only [oneThing_ref]
  refine wpAny_holding (wpAny_bind (wpAny_cRoomFor (Nat.lt_of_succ_lt hu) ?_))
  rw [cmpInfo_NotEq]
  dsimp only
  refine wpAny_bind (I.type.here (wpAny_bind (hb.here ?_)))
  split
  · rename_i q
    have e : PySem.W.subIn K tb (.ref C) = some false := by
      rcases Bool.or_eq_true_iff.mp hn with e | e
      · rw [beq_iff_eq.mp e] at q; simp at q
      · exact beq_iff_eq.mp e
    refine wpAny_bind ((PySem.W.looks_subIn X e).here ?_)
    simp only [Bool.false_eq_true, if_false]
    refine wpAny_bind (wpAny_mono one (fun r s' z => ?_) fun _ _ e => e)
    obtain ⟨v, rfl, hq⟩ := z
    exact wpAny_pure hq
  · refine wpAny_bind (wpAny_pure ?_)
    simp only [Bool.false_eq_true, if_false]
    refine wpAny_bind (wpAny_mono one (fun r s' z => ?_) fun _ _ e => e)
    obtain ⟨v, rfl, hq⟩ := z
    exact wpAny_pure hq
end
section
variable {X : Cx} {Y : Fx} {W : WX} {dw : DW} {PC : Addr → Prop} {k : Nat} {ps : List Str} {c : Addr → DSpecX}
def dNeO (K : PySem.W.Frag) (PC : Addr → Prop) (c : Addr → DSpecX) (dw : DW) (ta tb : DTE) : DTE := fun ρ n R => ta ρ n fun x n1 => tb ρ n1 fun y n2 => ∃ a o b o', x = .dat (refD a) ∧ y = .dat (refD b) ∧ n2.ob a = some o ∧ n2.ob b = some o' ∧ PC o.C ∧ PySem.W.notFirst K o.C (.ref o'.C) = true ∧
  PySem.W.findIn K (.ref o.C) "__ne__" = some (some (.builtin "object.__ne__")) ∧ PySem.W.mroIn K o.C (.type "object") = some true ∧
  c o.C [.dat (refD a), .dat (refD b)] n2 (fun d n3 => ∃ q : Bool, d = .bool q ∧ R (.dat (.bool (!q))) n3) fun ex n3 => dw ex ρ n3
theorem neO_core {a b : Expr} {ta tb : DTE} {pos : Pos} (tk : Takes X W) (ok : WOk Y X.K dw W) (HM : HasM X.prog X.w X.K X.mg X.base PC "__eq__" k ps c) (hgd : X.A.guards = some []) (hr : Room (k + 1) X.A) (hl : ps.length = 2) (hu : X.A.units + 1 < cLine)
    (ha : WE Y X a ta) (hb : WE Y X b tb)
    {pins : List (Addr × Obj)} {s : Shared} {σ : L2.St} {H : Hp} {Q : VK} (I : Inv X pins σ H s) (h : up Y X.K (dNeO X.K PC c dw ta tb) σ H Q) :
    wpAny (model X.prog X.w) X.A (eval a X.env) (fun v s₁ => wpAny (model X.prog X.w) X.A (eval b X.env) (fun u s₂ => wpAny (model X.prog X.w) X.A (compareOp .NotEq v u) (EP X pins σ Q) X.xe s₂) X.xe s₁) X.xe s := by
  obtain ⟨Z, F, ρ, n, R, r, h, kk⟩ := h
  exact two_run ha hb I r h fun v u s2 x y xv yv n2 F2 H2 I2 rx ry ⟨a, o, b, o', ex, ey, ho, ho', hPC, hnf, hne, hmo, hx⟩ g2 s2' d2 w2 w3 => by
    subst ex ey
    obtain rfl := VR.ref w2
    obtain rfl := VR.ref w3
    obtain rfl : v = Value.ref a := rx
    obtain rfl : u = Value.ref b := ry
    have r2 := r.step g2 s2' d2
    obtain ⟨_, dxb, vsb, hb2, _⟩ := d2.2.1 b o' ho'
    obtain ⟨mB, OB, _⟩ := ins_get I2.hok hb2
    obtain ⟨odb, JB, _⟩ := OB.look
    obtain ⟨g, dx, od, J, hcl, hM, run⟩ := dun (A := X.A.in1) (Q := fun z H' => ∃ q : Bool, z = .bl q ∧ Q (.bl (!q)) H') (us := [.ref b]) tk ok HM I2 r2 ho hPC (.cons w3 .nil) (.cons rfl .nil) hl.symm hx fun d n3 F3 H3 v ⟨q, ed, h4⟩ g3 s3 d3 w4 => by
      subst ed
      simp only [Rp] at w4
      exact ⟨q, w4, kk _ _ _ _ _ h4 (g2.trans g3) s3 d3 (by simp [VR, Rp])⟩
    obtain ⟨mm, hF⟩ := I2.fr
    refine ne_K hu hF I2.ok.mod.kin J JB.type hnf hM.at_ hM.fn hne hmo ?_
    refine wpAny_mono (run hgd hr.in1 I2.env0.in1) (fun w s' ⟨z, H', I', rz, q, eq, hq⟩ => ?_) fun _ _ q => q
    subst eq
    obtain rfl : w = Value.bool q := rz
    exact ⟨q, rfl, .bl (!q), H', I', rfl, hq⟩
theorem we_neO {a b : Expr} {ta tb : DTE} {pos : Pos} (tk : Takes X W) (ok : WOk Y X.K dw W) (HM : HasM X.prog X.w X.K X.mg X.base PC "__eq__" k ps c) (hgd : X.A.guards = some []) (hr : Room (k + 1) X.A) (hl : ps.length = 2) (hu : X.A.units + 1 < cLine)
    (ha : WE Y X a ta) (hb : WE Y X b tb) (hm : behindInMarks .NotEq b = false := by with_unfolding_all rfl) : WE Y X (.Compare a [.NotEq] [b] pos) (dNeO X.K PC c dw ta tb) :=
  ⟨fun pins s σ H Q I h => wpAny_Compare1 (neO_core (pos := pos) tk ok HM hgd hr hl hu ha hb I h) hm⟩
end
end DL
set_option maxHeartbeats 4000000
open PySem PySem.Spec PyProof.Rows L2
namespace DL
def shC (S : List Int) : List (Str × PyData) := [("sizes", clnD S)]
/-- the first of T that T has more often than S -/
def missZ (S T : List Int) : Option Int := T.find? fun z => decide (S.count z < T.count z)
def missD (S T : List Int) : PyData := match missZ S T with | some z => .int z | none => .none
theorem find_first {p : Int → Bool} : ∀ {l : List Int} {k : Nat} {z : Int}, l[k]? = some z → p z = true → (∀ i y, l[i]? = some y → i < k → p y = false) → l.find? p = some z
  | [], k, z, h, _, _ => by cases h
  | x :: l, 0, z, h, hp, _ => by
    cases h
    exact List.find?_cons_of_pos hp
  | x :: l, k + 1, z, h, hp, hn => by
    rw [List.find?_cons_of_neg (by rw [hn 0 x rfl (Nat.succ_pos _)]; decide)]
    exact find_first (l := l) h hp fun i y hy hi => hn (i + 1) y hy (Nat.succ_lt_succ hi)
theorem missD_some {S T : List Int} {z : Int} (h : missZ S T = some z) : missD S T = .int z := by unfold missD; rw [h]
theorem missD_none {S T : List Int} (h : missZ S T = none) : missD S T = .none := by unfold missD; rw [h]
theorem srt_one (y : Int) : srt [y] = [y] := (srt_uniq (List.Perm.refl [y]) (List.pairwise_singleton ..)).symm
theorem mem_srt {L : List Int} {x : Int} : x ∈ srt L ↔ x ∈ L := (srt_perm L).mem_iff
theorem keepO {n : Wo} {a x : Addr} {o v : Ob} (h : n.ob a = some o) (hx : n.ob x = none) : (n.put x v).ob a = some o := by
  refine (Wo.put_ne ?_).trans h
  rintro rfl
  rw [h] at hx
  cases hx
theorem nr_ints (S : List Int) : NrA (.tuple (S.map .int)) := .tup fun y hy => by obtain ⟨z, _, rfl⟩ := List.mem_map.mp hy; exact .int z
theorem sh_no {S : List Int} {Q : Prop} (hS : In1 (10 ^ 6) S) (hl : S.length ≤ 100) (h : shB (.tuple (S.map .int)) = false) : Q := Bool.noConfusion (h.symm.trans (shB_ints hS hl))
end DL
set_option maxHeartbeats 4000000
namespace DL
open PySem PySem.Spec PyProof.Rows L2
section
variable {X : Cx} {Y : Fx}
structure FnNG (P : Program) (w : World) (K : PySem.W.Frag) (mg : Str → Option Value) (base : Heap) (k : Nat) (f : Addr) (fd : FuncData) (ps : List Str) (sp : Sp) : Prop where
  len : ∀ vs H Q E, sp vs H Q E → vs.length = ps.length
  run : ∀ (A : Around) (outer : List Env) (s : Shared) (H : Hp) (args : Args) (us : List Value) (vs : List V) (Q : VK), Room k A → Env0 P w K mg base A outer s H →
    BindsTo s fd args (ps.zip us) → Vals vs us → sp vs H Q E0 → codeAny (model P w) A (.call (.ref f) args) (CR CX0 outer P w H s Q E0) s
end
section
variable {X : Cx} {Y : Fx}
theorem FnNG.mono {P : Program} {w : World} {K : PySem.W.Frag} {mg : Str → Option Value} {base : Heap} {j k : Nat} {f : Addr} {fd : FuncData} {ps : List Str} {sp : Sp} (F : FnNG P w K mg base j f fd ps sp) (h : j ≤ k) : FnNG P w K mg base k f fd ps sp :=
  ⟨F.len, fun A outer s H args us vs Q hr => F.run A outer s H args us vs Q (hr.mono h)⟩
end
section
variable {X : Cx} {Y : Fx}
def HasNG (P : Program) (w : World) (K : PySem.W.Frag) (mg : Str → Option Value) (base : Heap) (x : Str) (k : Nat) (ps : List Str) (c : DSpec) : Prop :=
  ∃ f fd, mg x = some (.ref f) ∧ PySem.W.keepIn K (.ref f) = true ∧ Binds K fd ps [] ∧ FnNG P w K mg base k f fd ps (spD K ps.length c)
end
section
structure FnNX (P : Program) (w : World) (K : PySem.W.Frag) (mg : Str → Option Value) (base : Heap) (k : Nat) (f : Addr) (fd : FuncData) (ps : List Str) (sp : Sp) : Prop where
  len : ∀ vs H Q E, sp vs H Q E → vs.length = ps.length
  run : ∀ (A : Around) (outer : List Env) (s : Shared) (H : Hp) (args : Args) (us : List Value) (vs : List V) (Q : VK) (E : XK), Room k A → Env0 P w K mg base A outer s H →
    BindsTo s fd args (ps.zip us) → Vals vs us → sp vs H Q E → codeAny (model P w) A (.call (.ref f) args) (CR (L2.CX P w) outer P w H s Q E) s
end
section
variable {P : Program} {w : World} {K : PySem.W.Frag} {mg : Str → Option Value} {base : Heap} {j k : Nat} {f : Addr} {fd : FuncData} {ps : List Str} {sp : Sp}
theorem FnNG.x (F : FnNG P w K mg base k f fd ps sp) : FnNX P w K mg base k f fd ps (fun vs H Q _ => sp vs H Q E0) :=
  ⟨fun vs H Q _ h => F.len vs H Q E0 h, fun A outer s H args us vs Q E hr e0 hb rv h => codeAny_mono (F.run A outer s H args us vs Q hr e0 hb rv h) fun q s' hq => by
    cases q with
    | error e => exact hq.elim
    | ok fl =>
      cases fl with
      | ret u => exact hq
      | next => exact hq
      | brk => exact hq
      | cont => exact hq⟩
end
section
variable {X : Cx} {Y : Fx}
def HasMN (P : Program) (w : World) (K : PySem.W.Frag) (mg : Str → Option Value) (base : Heap) (PC : Addr → Prop) (m : Str) (k : Nat) (ps : List Str) (c : Addr → DSpecX) : Prop :=
  ∀ C, PC C → Cls K C ∧ ∃ g fd, Meth K C m g ∧ Binds K fd ps [] ∧ FnNX P w K mg base k g fd ps (spDX K ps.length (c C))
end
section
def HasXN (P : Program) (w : World) (K : PySem.W.Frag) (mg : Str → Option Value) (base : Heap) (x : Str) (k : Nat) (ps : List Str) (c : DSpecX) : Prop :=
  ∃ f fd, mg x = some (.ref f) ∧ PySem.W.keepIn K (.ref f) = true ∧ Binds K fd ps [] ∧ FnNX P w K mg base k f fd ps (spDX K ps.length c)
end
section
variable {X : Cx} {Y : Fx} {k : Nat} {f : Addr} {fd : FuncData} {ps : List Str} {sp : Sp} {W : WX} {dw : DW} {PC : Addr → Prop} {m : Str} {c : Addr → DSpecX}
def HasMDN (P : Program) (w : World) (K : PySem.W.Frag) (mg : Str → Option Value) (base : Heap) (PC : Addr → Prop) (m : Str) (k : Nat) (ps : List Str) (c : Addr → DSpecX) : Prop :=
  ∀ C, PC C → Cls K C ∧ ∃ g fd ds, Meth K C m g ∧ Vals [V.non] ds ∧ Binds K fd ps ds ∧ FnNX P w K mg base k g fd ps (spDX K ps.length (c C))
end
section
variable {X : Cx} {Y : Fx} {k : Nat} {f : Addr} {fd : FuncData} {ps : List Str} {sp : Sp} {W : WX} {dw : DW} {PC : Addr → Prop} {m : Str} {c : Addr → DSpecX}
def HasMKN (P : Program) (w : World) (K : PySem.W.Frag) (mg : Str → Option Value) (base : Heap) (PC : Addr → Prop) (m kw : Str) (k : Nat) (ps : List Str) (c : Addr → DSpecX) : Prop :=
  ∀ C, PC C → Cls K C ∧ ∃ g fd, Meth K C m g ∧ KBn K fd ps (ps.length - 1) [kw] (fun us ws => us ++ ws) (fun us ws => us ++ ws) ∧ FnNX P w K mg base k g fd ps (spDX K ps.length (c C))
end
section
variable {P : Program} {w : World} {K : PySem.W.Frag} {mg : Str → Option Value} {base : Heap} {k : Nat} {f : Addr} {fd : FuncData} {ps : List Str} {sp : Sp}
theorem FnNG.g (F : FnNG P w K mg base k f fd ps sp) : FnG P w K mg base k f fd ps sp := ⟨F.len, fun A outer s H args us vs Q _ hr => F.run A outer s H args us vs Q hr⟩
theorem FnNX.x (F : FnNX P w K mg base k f fd ps sp) : FnGX P w K mg base k f fd ps sp := ⟨F.len, fun A outer s H args us vs Q E _ hr => F.run A outer s H args us vs Q E hr⟩
theorem FnNX.mono {j : Nat} (F : FnNX P w K mg base j f fd ps sp) (h : j ≤ k) : FnNX P w K mg base k f fd ps sp := ⟨F.len, fun A outer s H args us vs Q E hr => F.run A outer s H args us vs Q E (hr.mono h)⟩
end
end DL
set_option maxHeartbeats 4000000
namespace DL
open PySem PySem.Spec PyProof.Rows L2
/-- a generator def's contract: R, of all that is handed out -/
abbrev DSpecG := List Dv → Wo → (List PyData → Wo → Prop) → (Ex → Wo → Prop) → Prop
end DL
set_option maxHeartbeats 4000000
set_option maxHeartbeats 4000000
namespace DL
open PySem PySem.Spec PyProof.Rows L2
variable {X : Cx} {Y : Fx} {k : Nat} {f : Addr} {fd : FuncData} {ps : List Str} {PC : Addr → Prop} {m : Str} {c : Addr → DSpecG} {sp : SpG}
section
variable {P : Program} {w : World} {K : PySem.W.Frag} {mg : Str → Option Value} {base : Heap} {PC : Addr → Prop} {C : Addr} {nm m kw : Str} {k : Nat} {ps : List Str}
theorem HasNG.g {c : DSpec} (h : HasNG P w K mg base nm k ps c) : Has P w K mg base nm k ps c := let ⟨f, fd, h1, h2, h3, h4⟩ := h; ⟨f, fd, h1, h2, h3, h4.g⟩
theorem HasXN.x {c : DSpecX} (h : HasXN P w K mg base nm k ps c) : HasX P w K mg base nm k ps c := let ⟨f, fd, h1, h2, h3, h4⟩ := h; ⟨f, fd, h1, h2, h3, h4.x⟩
theorem HasMN.x {c : Addr → DSpecX} (h : HasMN P w K mg base PC m k ps c) : HasM P w K mg base PC m k ps c := fun C hC => let ⟨h0, g, fd, h1, h2, h3⟩ := h C hC; ⟨h0, g, fd, h1, h2, h3.x⟩
theorem HasMDN.x {c : Addr → DSpecX} (h : HasMDN P w K mg base PC m k ps c) : HasMD P w K mg base PC m k ps c := fun C hC => let ⟨h0, g, fd, ds, h1, h2, h3, h4⟩ := h C hC; ⟨h0, g, fd, ds, h1, h2, h3, h4.x⟩
theorem HasMKN.x {c : Addr → DSpecX} (h : HasMKN P w K mg base PC m kw k ps c) : HasMK P w K mg base PC m kw k ps c := fun C hC => let ⟨h0, g, fd, h1, h2, h3⟩ := h C hC; ⟨h0, g, fd, h1, h2, h3.x⟩
end
end DL
set_option maxHeartbeats 4000000
set_option maxHeartbeats 4000000
set_option maxHeartbeats 4000000
namespace DL
open PySem PySem.Spec PyProof.Rows L2
section
variable {X : Cx} {Y : Fx}
/-- len(s), int(s) -/
def oLenS : DC := fun xs R => ∃ a : Str, xs = [.dat (.str a)] ∧ a.length ≤ sizeLine ∧ R (.int (a.length : Nat))
theorem ck_lenS {K : PySem.W.Frag} : CallOk K (fun xs H Q => ∃ z : Str, xs = [.str z] ∧ z.length ≤ sizeLine ∧ Q (.int z.length) H) oLenS := fun δ F H xs vs R Q hs hv ⟨a, e, hl, hr⟩ bk => by
  subst e
  obtain ⟨v, rfl, h⟩ := vr1 hv
  simp only [VR, Rp] at h
  subst h
  exact ⟨a, rfl, hl, bk.here hs hr (by simp [Rp])⟩
/-- s * n -/
def repS (z : Str) (n : Int) : Str := ⟨(List.replicate n.toNat z.cps.toList).flatten.toArray⟩
theorem foldl_cat : ∀ (m : Nat) (a acc : Array Nat), ((List.replicate m a).foldl (· ++ ·) acc).toList = acc.toList ++ (List.replicate m a.toList).flatten
  | 0, a, acc => by simp
  | m + 1, a, acc => by
    rw [List.replicate_succ, List.foldl_cons, foldl_cat m a (acc ++ a), List.replicate_succ, List.flatten_cons, Array.toList_append, List.append_assoc]
theorem repS_eq (z : Str) (m : Nat) : (⟨(List.replicate m z.cps).foldl (· ++ ·) #[]⟩ : Str) = repS z m := by
  unfold repS
  congr 1
  apply Array.ext'
  rw [foldl_cat]
  simp
def rMulS : R2 := fun x y H Q => ∃ (z : Str) (m : Nat), x = .str z ∧ y = .int (m : Nat) ∧ z.length * m ≤ 100000 ∧ m ≤ 100000 ∧ Q (.str (repS z m)) H
theorem op_mulS : OpR X (binaryOp .Mult) rMulS := by
  intro pins s σ H x y v u Q I rx ry h
  obtain ⟨z, m, rfl, rfl, hl, hm, q⟩ := h
  obtain ⟨t, rfl⟩ := rx
  obtain ⟨t', rfl⟩ := ry
  have hz : 100000 < sizeLine := by decide
  refine P.mul_str ?_ ?_ ?_ ?_
  · have e1 : decide ((m : Int) < -(2 ^ 63 : Int)) = false := decide_eq_false (by omega)
    have e2 : decide ((m : Int) ≥ 2 ^ 63) = false := decide_eq_false (by omega)
    rw [e1, e2, Bool.or_false]
  · intro h1 h2
    have hm1 : 1 ≤ m := by omega
    have h3 : z.length ≤ 100000 := Nat.le_trans (Nat.le_mul_of_pos_right _ hm1) hl
    have h4 : (100000 : Int) ≤ (2 ^ 63 - 1) / (m : Int) := Int.le_ediv_of_mul_le (by omega) (by omega)
    omega
  · intro h1 h2
    unfold Builtin.Str.tooLong
    exact decide_eq_false (by rw [Int.toNat_natCast]; omega)
  · by_cases h1 : (m : Int) < 1
    · rw [if_pos h1]
      have : m = 0 := by omega
      subst this
      exact ⟨by decide, ⟨.str (repS z (0 : Nat)), H, I.tok _, ⟨s.toks, rfl⟩, q⟩⟩
    · rw [if_neg h1]
      by_cases h2 : ((m : Int) == 1 || z.length == 0) = true
      · rw [if_pos h2]
        refine ⟨.str (repS z m), H, I, ⟨t, ?_⟩, q⟩
        congr 1
        rw [Bool.or_eq_true, beq_iff_eq, beq_iff_eq] at h2
        rcases h2 with h2 | h2
        · have : m = 1 := by omega
          subst this
          unfold repS
          cases z
          simp
        · have : z.cps = #[] := Array.eq_empty_of_size_eq_zero h2
          cases z
          simp only at this
          subst this
          unfold repS
          simp
      · rw [if_neg h2, Int.toNat_natCast, repS_eq]
        refine ⟨?_, ⟨.str (repS z m), H, I.tok _, ⟨_, rfl⟩, q⟩⟩
        have : (repS z m).length = z.length * m := by
          unfold repS Str.length
          simp [List.length_flatten, Nat.mul_comm]
        rw [this]; omega
def oMulS : D2 := fun x y R => ∃ (z : Str) (m : Nat), x = .dat (.str z) ∧ y = .dat (.int (m : Nat)) ∧ z.length * m ≤ 100000 ∧ m ≤ 100000 ∧ R (.str (repS z m))
theorem bi_mulS {K : PySem.W.Frag} : BinOk K rMulS oMulS := fun δ F H x y v u R Q hs hx hy ⟨a, m, e1, e2, hl, hm, hr⟩ bk => by
  subst e1 e2
  simp only [VR, Rp] at hx hy
  exact ⟨a, m, hx, hy, hl, hm, bk.here hs hr (by simp [Rp])⟩
/-- for c in s -/
def sgnD (a : Str) : List PyData := (chs a).map fun c => .str ⟨#[c]⟩
end
end DL
set_option maxHeartbeats 4000000
set_option maxHeartbeats 4000000
namespace DL
open PySem PySem.Spec PyProof.Rows L2
theorem _root_.L2H.RoomH.units {k : Nat} {A : Around} (r : L2H.RoomH k A) : A.units + 64 < cLine := by have := r.un; omega
section
variable {X : Cx} {Y : Fx}
theorem we_isK {Kx : PySem.W.Frag} {c : V} {cv : Value} {e ec : Expr} {t : DTE} {p pos : Pos} (hK : X.K = Kx) (hg : Gl X "isinstance") (hm : X.mg "isinstance" = none) (he : WE Y X e t) (hec : PE X ec (tC c)) (hcv : ClsV c cv)
    (h1 : starEach [e, ec] X.env = (false, eval e X.env) :: starEach [ec] X.env := by rfl) (h2 : starEach [ec] X.env = (false, eval ec X.env) :: starEach [] X.env := by rfl) (hpl : (backTo pos (starEach [ec] X.env)).any (·.1) = false := by rfl) :
    WE Y X (.Call (.Name "isinstance" p) [e, ec] [] pos) (dIs Kx cv t) := by
  subst hK
  exact we_is hg hm he hec hcv h1 h2 hpl
end
end DL
set_option maxHeartbeats 4000000
namespace DL
open PySem PySem.Spec PyProof.Rows L2
/-- worlds later: objects stay as they are -/
def Grw (n m : Wo) : Prop := m.n = n.n ∧ ∀ x o, n.ob x = some o → m.ob x = some o
theorem Grw.rfl' {n : Wo} : Grw n n := ⟨rfl, fun _ _ h => h⟩
theorem Grw.tr {a b c : Wo} (h : Grw a b) (g : Grw b c) : Grw a c := ⟨g.1.trans h.1, fun x o e => g.2 x o (h.2 x o e)⟩
theorem grw_put {n : Wo} {x : Addr} {v : Ob} (hx : n.ob x = none) : Grw n (n.put x v) := ⟨rfl, fun _ _ h => keepO h hx⟩
theorem grw_le {n m : Wo} {k : Nat} (h : m ≤ n + k) (x : Addr) (o : Ob) (e : n.ob x = some o) : m.ob x = some o := (Wo.oeq h x).trans e
theorem miss_srt (A B : List Int) : missZ (srt A) (srt B) = (srt B).find? (fun z => decide (A.count z < B.count z)) := by
  unfold missZ
  congr 1
  funext z
  rw [(srt_perm A).count_eq, (srt_perm B).count_eq]
end DL
set_option maxHeartbeats 4000000
namespace DL
open PySem PySem.Spec PyProof PyProof.Rows L2 Builtin Float
def sp8 : Str := ">8,"
def f8 : FormatSpec := { fill := 32, align := 62, width := some 8, grouping := some ',' }
def dg8 (a : Int) : List Nat := (Nat.toDigits 10 a.natAbs).map Char.toNat
def t8 (a : Int) : Str := intField' f8 (decide (a < 0)) [] (dg8 a) [] 3
theorem parse8 : parseFormatSpec sp8.cps.toList "int" 62 = .ok f8 := by kernel_rfl
theorem gives_cut {a : Int} {t : Tok} {k : String → Sem Fin} {m : PySem.Made} (g : Gives (k "int") m) : Gives (do let n ← typeNameOfCut 200 (.int a t); k n) m :=
  fun prog w A R s hq => wpAny_bind (wpAny_typeNameOfCut_int (g prog w A R s hq))
theorem gives_fmt8 (a : Int) (t u : Tok) (h : a.natAbs.log2 < 1920) : Gives («int.__format__» ⟨[.int a t, .str sp8 u], []⟩) (.str (t8 a)) := by
  unfold «int.__format__»
  simp only [selfAndOne, noKeywords, Int.intOfSelf, asInt?, asStr?]
  simp only [List.isEmpty_nil, if_true, pure_bind, bind_pure, bind_assoc]
  simp only [show (Value.str sp8 u == Value.none) = false from rfl, show (sp8.length == 0) = false by decide +kernel, Bool.false_eq_true, if_false]
  refine gives_after_typeNameOf (T := "str") (fun s => typeIs_str s _ _) (by decide) fun _ => ?_
  rw [if_neg (by decide +kernel)]
  refine gives_cut ?_
  rw [parse8]
  simp only [show f8.type.getD (if (sp8.cps.back? == some 0) = true then 0 else 100) = 100 by decide +kernel]
  rw [if_pos (by decide)]
  show Gives (do let r ← overDigitLimit? a; _) _
  rw [PySem.overDigitLimit_small h]
  refine Gives.of_eq ?_
  show retStr _ = retStr (t8 a)
  refine congrArg _ ?_
  kernel_rfl
/-- formatField of an int with that spec -/
theorem field8 {prog : Program} {w : World} {A : Around} {E : Value → Shared → Prop} {s : Shared} {a : Int} {t : Tok} {Q : Value → Shared → Prop} (h : a.natAbs.log2 < 1920) (hz : (t8 a).length ≤ sizeLine)
    (hq : ∀ t' k, Q (.str (t8 a) t') { s with toks := k }) : wpAny (model prog w) A (formatField (.int a t) sp8) Q E s :=
  PySem.W.KXf.field_int (y := t8 a) rfl (by decide +kernel) (by decide) (fun u => fun prog w A R s hs => (gives_fmt8 a t u h) prog w A R s ⟨hz, hs _ _⟩) hq
section
variable {X : Cx} {Y : Fx}
def tFmt8 (te : TE) : TE := fun σ H Q => te σ H fun x H1 => ∃ i : Int, x = .int i ∧ i.natAbs.log2 < 1920 ∧ (t8 i).length ≤ sizeLine ∧ Q (.str (t8 i)) H1
theorem pe_fmt8 {e : Expr} {te : TE} {j p1 p2 pos : Pos} (he : PE X e te) {q} : PE X (.FormattedValue e (-1) (some (.JoinedStr [.Constant (.str sp8) q p1] p2)) pos) (tFmt8 te) := by
  refine ⟨fun pins s σ H Q I h => ?_⟩
  refine wpAny_FormattedValue_spec (thn (he.run pins s σ H _ I h) fun v s1 ⟨x, H1, I1, r1, i, ex, hl, hz, hq⟩ => ?_)
  subst ex
  obtain ⟨t, rfl⟩ := r1
  refine wpAny_mono ((pe_joined1 (pe_str (x := sp8) (j := q) (pos := p1)) (pos := p2)).run pins s1 σ H1 (fun y H2 => y = .str sp8 ∧ H2 = H1) I1 ⟨rfl, rfl⟩) (fun r s2 hr => ?_) fun _ _ h => h
  obtain ⟨y, H2, I2, r2, rfl, rfl⟩ := hr
  obtain ⟨t2, rfl⟩ := r2
  exact ⟨sp8, t2, rfl, field8 hl hz fun t' k => ⟨.str (t8 i), _, I2.tok k, ⟨_, rfl⟩, hq⟩⟩
def dFmt8 (t : DTE) : DTE := fun ρ n R => t ρ n fun x n1 => ∃ i : Int, x = .dat (.int i) ∧ i.natAbs.log2 < 1920 ∧ (t8 i).length ≤ sizeLine ∧ R (.dat (.str (t8 i))) n1
theorem we_fmt8 {e : Expr} {t : DTE} {p1 p2 pos : Pos} {q} (h : WE Y X e t) : WE Y X (.FormattedValue e (-1) (some (.JoinedStr [.Constant (.str sp8) q p1] p2)) pos) (dFmt8 t) :=
  pe_imp (pe_fmt8 (j := pos) h) fun σ H Q ⟨Z, F, ρ, n, R, r, ht, k⟩ => ⟨Z, F, ρ, n, _, r, ht, fun x n1 F1 H1 v ⟨i, e1, hl, hz, hx⟩ g1 s1 d1 w1 => by
    subst e1
    simp only [VR, Rp] at w1
    subst w1
    exact ⟨i, rfl, hl, hz, k _ _ _ _ _ hx g1 s1 d1 (by simp [VR, Rp])⟩⟩
end
end DL
set_option maxHeartbeats 0
namespace DL
open PySem PySem.Spec PyProof.Rows L2
def Ch3 (s : Str) : Prop := ∀ c ∈ chs s, c < 1000
theorem joinL_mem {S : List Nat} {c : Nat} : ∀ {ws : List (List Nat)}, c ∈ TL.joinL S ws → c ∈ S ∨ ∃ w ∈ ws, c ∈ w
  | [], h => nomatch h
  | [p], h => .inr ⟨p, by simp, h⟩
  | p :: q :: r, h => by
    rcases List.mem_append.mp (show c ∈ p ++ (S ++ TL.joinL S (q :: r)) from h) with h | h
    · exact .inr ⟨p, by simp, h⟩
    rcases List.mem_append.mp h with h | h
    · exact .inl h
    rcases joinL_mem h with h | ⟨w, hw, hc⟩
    · exact .inl h
    · exact .inr ⟨w, List.mem_cons_of_mem _ hw, hc⟩
theorem Ch3.join {y : Str} {ws : List Str} (hy : Ch3 y) (h : ∀ w ∈ ws, Ch3 w) : Ch3 (Txt.join y ws) := fun c hc => by
  rw [show Txt.join y ws = Str.join y ws from StrLaws.glued_eq_join y ws] at hc
  have hc : c ∈ TL.joinL (chs y) (ws.map TL.tl) := (TL.tl_join y ws) ▸ hc
  rcases joinL_mem hc with h1 | ⟨l, hl, hcl⟩
  · exact hy c h1
  · obtain ⟨w, hw, rfl⟩ := List.mem_map.mp hl
    exact h w hw c hcl
theorem Ch3.ok {s : Str} (h : Ch3 s) : PyData.strOk s = true := by
  unfold PyData.strOk
  rw [Array.all_eq_true']
  intro c hc
  have := h c (by simpa [chs] using hc)
  simp; omega
structure Tx (k : Nat) (s : Str) : Prop where
  ch : Ch3 s
  l : s.length ≤ k
theorem Tx.mono {a b : Nat} {s : Str} (h : Tx a s) (hl : a ≤ b) : Tx b s := ⟨h.ch, Nat.le_trans h.l hl⟩
end DL
set_option maxHeartbeats 4000000
namespace DL
open PySem PySem.Spec PyProof.Rows L2
section
variable {X : Cx} {Y : Fx} {k : Nat} {PC : Addr → Prop} {ps : List Str} {c : Addr → DSpecX} {dw : DW} {W : WX}
theorem we_fstr1 {e : Expr} {t : DTE} {pos : Pos} (h : WE Y X e t) : WE Y X (.JoinedStr [e] pos) t := pe_joined1 h
end
def txt8 (S : List Int) : Str := Txt.join "" (S.map t8)
theorem groups_len : ∀ (turns : Nat) (ds : List Nat) (room : Int) (out : List Nat), (groupsFromRight' 3 44 turns ds room out).length ≤ out.length + 4 * turns
  | 0, _, _, out => by unfold groupsFromRight'; omega
  | turns + 1, ds, room, out => by
    unfold groupsFromRight'
    simp only
    have hn : min 3 (max (max (ds.length : Int) room) 1).toNat ≤ 3 := Nat.min_le_left _ _
    generalize min 3 (max (max (ds.length : Int) room) 1).toNat = k at hn ⊢
    have hl : (List.replicate (k - ds.length) 48 ++ (ds.take k).reverse ++ out).length ≤ out.length + 3 := by
      simp only [List.length_append, List.length_replicate, List.length_reverse, List.length_take]
      omega
    split
    · omega
    · have := groups_len turns (ds.drop k) (room - k - 1) (44 :: (List.replicate (k - ds.length) 48 ++ (ds.take k).reverse ++ out))
      simp only [List.length_cons] at this
      omega
theorem dg8_len {z : Int} (h0 : 1 ≤ z) (h1 : z ≤ 10 ^ 6) : (dg8 z).length ≤ 7 := by
  unfold dg8
  rw [List.length_map]
  exact digits10_le (by decide) (by omega)
theorem t8_eq {z : Int} (h0 : 1 ≤ z) : t8 z = ⟨(List.replicate (8 - (groupsFromRight' 3 44 ((dg8 z).length + 1) (dg8 z).reverse 0 []).length) 32 ++ groupsFromRight' 3 44 ((dg8 z).length + 1) (dg8 z).reverse 0 []).toArray⟩ := by
  have hd : (dg8 z).isEmpty = false := by
    unfold dg8
    have := tDigits_len_ge 10 z.natAbs
    cases h : Nat.toDigits 10 z.natAbs with
    | nil => rw [h] at this; simp at this
    | cons _ _ => rfl
  unfold t8 intField'
  simp only [f8, hd, decide_eq_false (show ¬ z < 0 by omega), Bool.false_eq_true, if_false, show ((32 : Nat) == 48) = false by decide, Bool.false_and, show ((62 : Nat) == 60) = false by decide, show ((62 : Nat) == 94) = false by decide, show ((62 : Nat) == 61) = false by decide, List.length_nil, List.replicate_zero, List.append_nil, List.nil_append, show (','.toNat) = 44 by decide]
  refine PySem.Str.ext' ?_
  simp only [Int.toNat_zero, Nat.add_zero]
  congr 3
  omega
theorem t8_len {z : Int} (h0 : 1 ≤ z) (h1 : z ≤ 10 ^ 6) : (t8 z).length ≤ 60 := by
  rw [t8_eq h0]
  have h2 := groups_len ((dg8 z).length + 1) (dg8 z).reverse 0 []
  have h3 := dg8_len h0 h1
  simp only [List.length_nil] at h2
  show ((List.replicate _ 32 ++ groupsFromRight' 3 44 ((dg8 z).length + 1) (dg8 z).reverse 0 []).toArray).size ≤ 60
  rw [List.size_toArray, List.length_append, List.length_replicate]
  omega
theorem lg8 {z : Int} (h0 : 1 ≤ z) (h1 : z ≤ 10 ^ 6) : z.natAbs.log2 < 1920 := by
  have : z.natAbs.log2 < 24 := Nat.log2_lt (by omega) |>.mpr (by omega)
  omega
theorem joinL_nil : ∀ l : List (List Nat), TL.joinL [] l = l.flatten
  | [] => rfl
  | [x] => (List.append_nil x).symm
  | x :: z :: r => by
    show x ++ ([] ++ TL.joinL [] (z :: r)) = x ++ (z :: r).flatten
    rw [List.nil_append, joinL_nil (z :: r)]
theorem txt8_tl (A : List Int) : TL.tl (txt8 A) = (A.map fun z => TL.tl (t8 z)).flatten := by
  unfold txt8
  rw [show Txt.join "" (A.map t8) = Str.join "" (A.map t8) from StrLaws.glued_eq_join _ _, TL.tl_join, show TL.tl ("" : Str) = [] by decide +kernel, joinL_nil, List.map_map]
  rfl
theorem txt8_app (A B : List Int) : txt8 (A ++ B) = txt8 A ++ txt8 B := TL.ext_tl (by
  rw [TL.tl_append, txt8_tl, txt8_tl, txt8_tl, List.map_append, List.flatten_append])
theorem sum8 : ∀ {S : List Int}, In1 (10 ^ 6) S → ((S.map t8).map (·.length)).sum ≤ 60 * S.length
  | [], _ => Nat.zero_le _
  | z :: S, h => by
    have h1 := t8_len (h z (by simp)).1 (h z (by simp)).2
    have h2 := sum8 (S := S) fun x hx => h x (by simp [hx])
    simp only [List.map_cons, List.sum_cons, List.length_cons]
    omega
end DL
set_option maxHeartbeats 4000000
set_option maxHeartbeats 4000000
namespace DL
open PySem PySem.Spec PyProof.Rows L2
section
variable {prog : Program} {w : World} {A : Around} {E : Value → Shared → Prop} {s : Shared} {K : PySem.W.Frag} {x C g : Addr} {ox : Obj} {od : Option Obj} {T : String}
theorem isInst_no {M : Model} {Q : Bool → Shared → Prop} (X : K.In s.heap) (I : PySem.W.InstAt s.heap x ox C od) (e : PySem.W.subIn K (.ref C) (.type T) = some false) (h : Q false s) : wpAny M A (isInstance (.ref x) (.type T)) Q E s := by
  unfold isInstance
  exact wpAny_bind (I.type.here ((PySem.W.looks_subIn X e).here h))
abbrev Decl (prog : Program) (w : World) (A : Around) (E : Value → Shared → Prop) (s : Shared) (id : String) (u v : Value) (Q : Shared → Prop) : Prop := wpAny (model prog w) A (call (.builtin id) [u, v]) (fun r s' => r = .notImplemented ∧ Q s') E s
theorem decl_tuple {u : Value} {Q : Shared → Prop} (hT : s.TypeIs u "tuple") (X : K.In s.heap) (I : PySem.W.InstAt s.heap x ox C od) (e : PySem.W.subIn K (.ref C) (.type "tuple") = some false) (h : Q s) : Decl prog w A E s "tuple.__eq__" u (.ref x) Q := by
  refine wpAny_call (codeAny_call_builtin F.slot_tuple_eq.plain F.entry_tuple_eq (F.slot_tuple_eq.check _ _ _ _ _ _ _ _ hT (F.args_tuple_eq_2 _ _) ?_))
  refine wpAny_bind (m := isInstance (.ref x) (.type "tuple")) (isInst_no X I e ?_)
  exact wpAny_pure ⟨rfl, h⟩
theorem decl_list {u : Value} {Q : Shared → Prop} (hT : s.TypeIs u "list") (X : K.In s.heap) (I : PySem.W.InstAt s.heap x ox C od) (e : PySem.W.subIn K (.ref C) (.type "list") = some false) (h : Q s) : Decl prog w A E s "list.__eq__" u (.ref x) Q := by
  refine wpAny_call (codeAny_call_builtin F.slot_list_eq.plain F.entry_list_eq (F.slot_list_eq.check _ _ _ _ _ _ _ _ hT (F.args_list_eq_2 _ _) ?_))
  refine wpAny_bind (m := isInstance (.ref x) (.type "list")) (isInst_no X I e ?_)
  exact wpAny_pure ⟨rfl, h⟩
theorem decl_none {Q : Shared → Prop} (h : Q s) : Decl prog w A E s "NoneType.__eq__" .none (.ref x) Q := by
  refine wpAny_call (codeAny_call_builtin F.slot_NoneType_eq.plain F.entry_NoneType_eq (F.slot_NoneType_eq.check _ _ _ _ _ _ _ _ (typeIs_none _) (F.args_NoneType_eq_2 _ _) ?_))
  exact wpAny_pure ⟨rfl, h⟩
theorem decl_int {i : Int} {t : Tok} {dx : Addr} {Q : Shared → Prop} (hx : s.heap.get? x = some (PySem.W.instObj C dx)) (h : Q s) : Decl prog w A E s "int.__eq__" (.int i t) (.ref x) Q := by
  refine wpAny_call (codeAny_call_builtin F.slot_int_eq.plain F.entry_int_eq (F.slot_int_eq.check _ _ _ _ _ _ _ _ (typeIs_int _ _ _) (F.args_int_eq_2 _ _) ?_))
  refine wpAny_bind (m := load x) (wpAny_load hx ?_)
  exact wpAny_bind (m := rule "int.binary.not-an-int") (wpAny_rule (wpAny_pure ⟨rfl, h⟩))
theorem decl_bool {b : Bool} {dx : Addr} {Q : Shared → Prop} (hx : s.heap.get? x = some (PySem.W.instObj C dx)) (h : Q s) : Decl prog w A E s "int.__eq__" (.bool b) (.ref x) Q := by
  refine wpAny_call (codeAny_call_builtin F.slot_bool_eq.plain F.entry_int_eq (F.slot_bool_eq.check _ _ _ _ _ _ _ _ (PySem.typeIs_bool _ _) (F.args_int_eq_2 _ _) ?_))
  refine wpAny_bind (m := load x) (wpAny_load hx ?_)
  exact wpAny_bind (m := rule "int.binary.not-an-int") (wpAny_rule (wpAny_pure ⟨rfl, h⟩))
theorem decl_str {a : Str} {t : Tok} {dx : Addr} {Q : Shared → Prop} (hx : s.heap.get? x = some (PySem.W.instObj C dx)) (h : Q s) : Decl prog w A E s "str.__eq__" (.str a t) (.ref x) Q := by
  refine wpAny_call (codeAny_call_builtin F.slot_str_eq.plain F.entry_str_eq (F.slot_str_eq.check _ _ _ _ _ _ _ _ (typeIs_str _ _ _) (F.args_str_eq_2 _ _) ?_))
  refine wpAny_bind (m := load x) (wpAny_load hx ?_)
  exact wpAny_bind (m := rule "str.__eq__.not-a-str") (wpAny_rule (wpAny_pure ⟨rfl, h⟩))
theorem decl_dict {u : Value} {Q : Shared → Prop} (hT : s.TypeIs u "dict") (X : K.In s.heap) (I : PySem.W.InstAt s.heap x ox C od) (e : PySem.W.subIn K (.ref C) (.type "dict") = some false) (h : Q s) : Decl prog w A E s "dict.__eq__" u (.ref x) Q := by
  refine wpAny_call (codeAny_call_builtin F.slot_dict_eq.plain F.entry_dict_eq (F.slot_dict_eq.check _ _ _ _ _ _ _ _ hT (F.args_dict_eq_2 _ _) ?_))
  refine wpAny_bind (m := isInstance (.ref x) (.type "dict")) (isInst_no X I e ?_)
  exact wpAny_bind (m := rule "dict.__eq__.not-a-dict") (wpAny_rule (wpAny_pure ⟨rfl, h⟩))
/-- .. so o's own method is asked -/
theorem eq_KB {u : Value} {h₀ : Heap} {L : Addr} {m : Str → Option Value} {id : String} {Q : Value → Shared → Prop} (hu : A.units < cLine) (F : Fr h₀ L s.heap m) (X₀ : K.In h₀) (I : PySem.W.InstAt s.heap x ox C od) (hT : s.TypeIs u T) (ho : oneThing? .Eq u (.ref x) = none)
    (hn : PySem.W.subIn K (.ref C) (.type T) = some false) (hS : Slot T "__eq__" id) (hs : PySem.W.findIn K (.ref C) "__eq__" = some (some (.ref g))) (hf : PySem.W.isFn K (.ref g) = true)
    (hd : ∀ Q : Shared → Prop, Q s → Decl prog w A E s id u (.ref x) Q)
    (h : wpAny (model prog w) A (call (.ref g) [.ref x, u]) (PySem.W.CmpBack Q) E s) : wpAny (model prog w) A (richCompare .Eq u (.ref x)) Q E s := by
  have X := X₀.keeps F.keep
  have one : wpAny (model prog w) A (tryCompare (.ref x) "__eq__" u) (fun r s' => ∃ v, r = some v ∧ Q v s') E s := by
    unfold tryCompare
    refine wpAny_bind (PySem.W.ifBound_K X I hs hf (wpAny_mono h (fun v s' hv => ?_) fun _ _ e => e))
    cases v <;> first | exact hv.elim | exact wpAny_pure ⟨_, rfl, hv⟩
  have two : wpAny (model prog w) A (tryCompare u "__eq__" (.ref x)) (fun r s' => r = none ∧ s' = s) E s :=
    wpAny_tryCompare_declines hT hS (wpAny_mono (hd (fun s' => s' = s) rfl) (fun v s' q => ⟨q.1, rfl, q.2⟩) fun _ _ e => e)
  unfold richCompare
  simp only [ho]
  refine wpAny_holding (wpAny_bind (wpAny_cRoomFor hu ?_))
  refine wpAny_bind (wpAny_typeOf hT (wpAny_bind (I.type.here ?_)))
  split
  · refine wpAny_bind ((PySem.W.looks_subIn X hn).here ?_)
    simp only [Bool.false_eq_true, if_false]
    refine wpAny_bind (m := tryCompare u "__eq__" (.ref x)) (wpAny_mono two (fun r s' z => ?_) fun _ _ e => e)
    obtain ⟨rfl, rfl⟩ := z
    refine wpAny_bind (m := tryCompare (.ref x) "__eq__" u) (wpAny_mono one (fun r s' z => ?_) fun _ _ e => e)
    obtain ⟨v, rfl, hq⟩ := z
    exact wpAny_pure hq
  · refine wpAny_bind (wpAny_pure ?_)
    simp only [Bool.false_eq_true, if_false]
    refine wpAny_bind (m := tryCompare u "__eq__" (.ref x)) (wpAny_mono two (fun r s' z => ?_) fun _ _ e => e)
    obtain ⟨rfl, rfl⟩ := z
    refine wpAny_bind (m := tryCompare (.ref x) "__eq__" u) (wpAny_mono one (fun r s' z => ?_) fun _ _ e => e)
    obtain ⟨v, rfl, hq⟩ := z
    exact wpAny_pure hq
end
section
variable {M : Model} {prog : Program} {w : World} {A : Around} {E : Value → Shared → Prop} {s : Shared} {K : PySem.W.Frag} {x C g L : Addr} {ox : Obj} {od : Option Obj} {h₀ : Heap} {m : Str → Option Value} {tb u : Value}
theorem entry_neV (X : K.In s.heap) (I : PySem.W.InstAt s.heap x ox C od) (hs : PySem.W.findIn K (.ref C) "__eq__" = some (some (.ref g))) (hf : PySem.W.isFn K (.ref g) = true) (hu : A.units < cLine) {Q : Fin → Shared → Prop}
    (hcall : wpAny (model prog w) A (call (.ref g) [.ref x, u]) (fun v s' => ∃ q, v = .bool q ∧ Q (.done (.ret (.bool (!q)))) s') E s) :
    wpAny (model prog w) A (Builtin.«object.__ne__» ⟨[.ref x, u], []⟩) Q E s := by
  unfold Builtin.«object.__ne__»
  repeat (first
    | with_reducible refine wpAny_cRoomFor hu ?_
    | (refine wpAny_bind (m := callSpecialIfBound? (.ref x) (Str.ofString "__eq__") [u])
        (PySem.W.ifBound_K X I hs hf (wpAny_mono hcall (fun r s' hr => by
          obtain ⟨b, rfl, hq⟩ := hr
          repeat (first | exact hq | exact wpAny_pure hq | exact wpAny_truthy_bool hq | (refine wpAny_bind (m := truthy (.bool _)) (wpAny_truthy_bool ?_)) | wp_step)) fun _ _ e => e)))
    | wp_step)
theorem try_neV (X : K.In s.heap) (I : PySem.W.InstAt s.heap x ox C od) (hs : PySem.W.findIn K (.ref C) "__eq__" = some (some (.ref g))) (hf : PySem.W.isFn K (.ref g) = true) (hn : PySem.W.findIn K (.ref C) "__ne__" = some (some (.builtin "object.__ne__"))) (hm : PySem.W.mroIn K C (.type "object") = some true) (hu : A.units + 1 < cLine) {Q : Option Value → Shared → Prop}
    (hcall : wpAny (model prog w) A.in1 (call (.ref g) [.ref x, u]) (fun v s' => ∃ b, v = .bool b ∧ Q (some (.bool (!b))) s') E s) :
    wpAny (model prog w) A (tryCompare (.ref x) "__ne__" u) Q E s := by
  simp only [tryCompare]
  refine wpAny_bind (ifBound_objNe X I hn (wpAny_call (codeAny_call_builtin F.cmp_object.ne.plain F.cmpEntry_ne
    (PySem.W.check_slot F.cmpKind_ne F.cmpSplit_ne (I.type.andThen (PySem.W.looks_mroIn X hm)) (F.cmpArgs_ne _ _)
      (entry_neV (A := A.in1) X I hs hf hu (wpAny_mono hcall (fun v s' hv => ?_) fun _ _ e => e))))))
  obtain ⟨b, rfl, hq⟩ := hv
  first | exact ⟨b, rfl, wpAny_pure hq⟩ | exact ⟨b, rfl, wpAny_pure (wpAny_pure hq)⟩ | exact ⟨b, rfl, hq⟩
theorem ne_V {Q : Value → Shared → Prop} (hu : A.units + 1 < cLine) (F : Fr h₀ L s.heap m) (X₀ : K.In h₀) (I : PySem.W.InstAt s.heap x ox C od) (hb : PySem.W.Looks (model prog w) s.heap (typeOf u) tb) (hn : PySem.W.notFirst K C tb = true)
    (hs : PySem.W.findIn K (.ref C) "__eq__" = some (some (.ref g))) (hf : PySem.W.isFn K (.ref g) = true) (hne : PySem.W.findIn K (.ref C) "__ne__" = some (some (.builtin "object.__ne__"))) (hm : PySem.W.mroIn K C (.type "object") = some true)
    (h : wpAny (model prog w) A.in1 (call (.ref g) [.ref x, u]) (fun v s' => ∃ b, v = .bool b ∧ Q (.bool (!b)) s') E s) : wpAny (model prog w) A (compareOp .NotEq (.ref x) u) Q E s := by
  have X := X₀.keeps F.keep
  have one : wpAny (model prog w) A (tryCompare (.ref x) "__ne__" u) (fun r s' => ∃ v, r = some v ∧ Q v s') E s :=
    try_neV X I hs hf hne hm hu (wpAny_mono h (fun v s' ⟨b, e, hq⟩ => ⟨b, e, _, rfl, hq⟩) fun _ _ e => e)
  unfold compareOp
  show wpAny (model prog w) A (richCompare .NotEq (.ref x) u) Q E s
  unfold richCompare
  simp only [oneThing_ref]
  refine wpAny_holding (wpAny_bind (wpAny_cRoomFor (Nat.lt_of_succ_lt hu) ?_))
  rw [cmpInfo_NotEq]
  dsimp only
  refine wpAny_bind (I.type.here (wpAny_bind (hb.here ?_)))
  split
  · rename_i q
    have e : PySem.W.subIn K tb (.ref C) = some false := by
      rcases Bool.or_eq_true_iff.mp hn with e | e
      · rw [beq_iff_eq.mp e] at q; simp at q
      · exact beq_iff_eq.mp e
    refine wpAny_bind ((PySem.W.looks_subIn X e).here ?_)
    simp only [Bool.false_eq_true, if_false]
    refine wpAny_bind (wpAny_mono one (fun r s' z => ?_) fun _ _ e => e)
    obtain ⟨v, rfl, hq⟩ := z
    exact wpAny_pure hq
  · refine wpAny_bind (wpAny_pure ?_)
    simp only [Bool.false_eq_true, if_false]
    refine wpAny_bind (wpAny_mono one (fun r s' z => ?_) fun _ _ e => e)
    obtain ⟨v, rfl, hq⟩ := z
    exact wpAny_pure hq
end
section
variable {X : Cx} {Y : Fx} {W : WX} {dw : DW} {PC : Addr → Prop} {k : Nat} {ps : List Str} {c : Addr → DSpecX}
theorem nf_ty {K : PySem.W.Frag} {C : Addr} {T : String} (h : PySem.W.subIn K (.type T) (.ref C) = some false) : PySem.W.notFirst K C (.type T) = true := by
  unfold PySem.W.notFirst
  rw [h]
  simp
def dEqA (K : PySem.W.Frag) (PC : Addr → Prop) (c : Addr → DSpecX) (dw : DW) (ta tb : DTE) : DTE := fun ρ n R => ta ρ n fun x n1 => tb ρ n1 fun y n2 => ∃ a o ty, x = .dat (refD a) ∧ n2.ob a = some o ∧ TyDv K n2 y ty ∧ PC o.C ∧ PySem.W.notFirst K o.C ty = true ∧
  c o.C [.dat (refD a), y] n2 (fun d n3 => ∃ q : Bool, d = .bool q ∧ R (.dat (.bool q)) n3) fun ex n3 => dw ex ρ n3
def dNeA (K : PySem.W.Frag) (PC : Addr → Prop) (c : Addr → DSpecX) (dw : DW) (ta tb : DTE) : DTE := fun ρ n R => ta ρ n fun x n1 => tb ρ n1 fun y n2 => ∃ a o ty, x = .dat (refD a) ∧ n2.ob a = some o ∧ TyDv K n2 y ty ∧ PC o.C ∧ PySem.W.notFirst K o.C ty = true ∧
  PySem.W.findIn K (.ref o.C) "__ne__" = some (some (.builtin "object.__ne__")) ∧ PySem.W.mroIn K o.C (.type "object") = some true ∧
  c o.C [.dat (refD a), y] n2 (fun d n3 => ∃ q : Bool, d = .bool q ∧ R (.dat (.bool (!q))) n3) fun ex n3 => dw ex ρ n3
theorem eqA_core {a b : Expr} {ta tb : DTE} {pos : Pos} (tk : Takes X W) (ok : WOk Y X.K dw W) (HM : HasM X.prog X.w X.K X.mg X.base PC "__eq__" k ps c) (hgd : X.A.guards = some []) (hr : Room k X.A) (hl : ps.length = 2) (hu : X.A.units < cLine)
    (ha : WE Y X a ta) (hb : WE Y X b tb)
    {pins : List (Addr × Obj)} {s : Shared} {σ : L2.St} {H : Hp} {Q : VK} (I : Inv X pins σ H s) (h : up Y X.K (dEqA X.K PC c dw ta tb) σ H Q) :
    wpAny (model X.prog X.w) X.A (eval a X.env) (fun v s₁ => wpAny (model X.prog X.w) X.A (eval b X.env) (fun u s₂ => wpAny (model X.prog X.w) X.A (compareOp .Eq v u) (EP X pins σ Q) X.xe s₂) X.xe s₁) X.xe s := by
  obtain ⟨Z, F, ρ, n, R, r, h, kk⟩ := h
  exact two_run ha hb I r h fun v u s2 x y xv yv n2 F2 H2 I2 rx ry ⟨a, o, ty, ex, ho, hty, hPC, hnf, hx⟩ g2 s2' d2 w2 w3 => by
    subst ex
    obtain rfl := VR.ref w2
    obtain rfl : v = Value.ref a := rx
    have r2 := r.step g2 s2' d2
    obtain ⟨P0, Z0, hP0, _⟩ := kit_of I2 ry (hty.x w3 s2' d2)
    obtain ⟨g, dx, od, J, hcl, hM, run⟩ := dun (A := X.A) (Q := fun z H' => ∃ q : Bool, z = .bl q ∧ Q (.bl q) H') (us := [u]) tk ok HM I2 r2 ho hPC (.cons w3 .nil) (.cons ry .nil) hl.symm hx fun d n3 F3 H3 v ⟨q, ed, h4⟩ g3 s3 d3 w4 => by
      subst ed
      simp only [Rp] at w4
      exact ⟨q, w4, kk _ _ _ _ _ h4 (g2.trans g3) s3 d3 (by simp [VR, Rp])⟩
    obtain ⟨mm, hF⟩ := I2.fr
    refine PySem.W.cmp_K (op := .Eq) hu hF I2.ok.mod.kin J (Z0.ty (model X.prog X.w) _ I2.kIn hP0) hnf hM.at_ hM.fn ?_
    refine wpAny_mono (run hgd hr I2.env0) (fun w s' ⟨z, H', I', rz, q, eq, hq⟩ => ?_) fun _ _ q => q
    subst eq
    obtain rfl : w = Value.bool q := rz
    exact ⟨.bl q, H', I', rfl, hq⟩
theorem neA_core {a b : Expr} {ta tb : DTE} {pos : Pos} (tk : Takes X W) (ok : WOk Y X.K dw W) (HM : HasM X.prog X.w X.K X.mg X.base PC "__eq__" k ps c) (hgd : X.A.guards = some []) (hr : Room (k + 1) X.A) (hl : ps.length = 2) (hu : X.A.units + 1 < cLine)
    (ha : WE Y X a ta) (hb : WE Y X b tb)
    {pins : List (Addr × Obj)} {s : Shared} {σ : L2.St} {H : Hp} {Q : VK} (I : Inv X pins σ H s) (h : up Y X.K (dNeA X.K PC c dw ta tb) σ H Q) :
    wpAny (model X.prog X.w) X.A (eval a X.env) (fun v s₁ => wpAny (model X.prog X.w) X.A (eval b X.env) (fun u s₂ => wpAny (model X.prog X.w) X.A (compareOp .NotEq v u) (EP X pins σ Q) X.xe s₂) X.xe s₁) X.xe s := by
  obtain ⟨Z, F, ρ, n, R, r, h, kk⟩ := h
  exact two_run ha hb I r h fun v u s2 x y xv yv n2 F2 H2 I2 rx ry ⟨a, o, ty, ex, ho, hty, hPC, hnf, hne, hmo, hx⟩ g2 s2' d2 w2 w3 => by
    subst ex
    obtain rfl := VR.ref w2
    obtain rfl : v = Value.ref a := rx
    have r2 := r.step g2 s2' d2
    obtain ⟨P0, Z0, hP0, _⟩ := kit_of I2 ry (hty.x w3 s2' d2)
    obtain ⟨g, dx, od, J, hcl, hM, run⟩ := dun (A := X.A.in1) (Q := fun z H' => ∃ q : Bool, z = .bl q ∧ Q (.bl (!q)) H') (us := [u]) tk ok HM I2 r2 ho hPC (.cons w3 .nil) (.cons ry .nil) hl.symm hx fun d n3 F3 H3 v ⟨q, ed, h4⟩ g3 s3 d3 w4 => by
      subst ed
      simp only [Rp] at w4
      exact ⟨q, w4, kk _ _ _ _ _ h4 (g2.trans g3) s3 d3 (by simp [VR, Rp])⟩
    obtain ⟨mm, hF⟩ := I2.fr
    refine ne_V hu hF I2.ok.mod.kin J (Z0.ty (model X.prog X.w) _ I2.kIn hP0) hnf hM.at_ hM.fn hne hmo ?_
    refine wpAny_mono (run hgd hr.in1 I2.env0.in1) (fun w s' ⟨z, H', I', rz, q, eq, hq⟩ => ?_) fun _ _ q => q
    subst eq
    obtain rfl : w = Value.bool q := rz
    exact ⟨q, rfl, .bl (!q), H', I', rfl, hq⟩
theorem we_eqA {a b : Expr} {ta tb : DTE} {pos : Pos} (tk : Takes X W) (ok : WOk Y X.K dw W) (HM : HasM X.prog X.w X.K X.mg X.base PC "__eq__" k ps c) (hgd : X.A.guards = some []) (hr : Room k X.A) (hl : ps.length = 2) (hu : X.A.units < cLine)
    (ha : WE Y X a ta) (hb : WE Y X b tb) (hm : behindInMarks .Eq b = false := by with_unfolding_all rfl) : WE Y X (.Compare a [.Eq] [b] pos) (dEqA X.K PC c dw ta tb) :=
  ⟨fun pins s σ H Q I h => wpAny_Compare1 (eqA_core (pos := pos) tk ok HM hgd hr hl hu ha hb I h) hm⟩
theorem we_neA {a b : Expr} {ta tb : DTE} {pos : Pos} (tk : Takes X W) (ok : WOk Y X.K dw W) (HM : HasM X.prog X.w X.K X.mg X.base PC "__eq__" k ps c) (hgd : X.A.guards = some []) (hr : Room (k + 1) X.A) (hl : ps.length = 2) (hu : X.A.units + 1 < cLine)
    (ha : WE Y X a ta) (hb : WE Y X b tb) (hm : behindInMarks .NotEq b = false := by with_unfolding_all rfl) : WE Y X (.Compare a [.NotEq] [b] pos) (dNeA X.K PC c dw ta tb) :=
  ⟨fun pins s σ H Q I h => wpAny_Compare1 (neA_core (pos := pos) tk ok HM hgd hr hl hu ha hb I h) hm⟩
end
section
variable {X : Cx} {Y : Fx} {pins : List (Addr × Obj)} {σ : L2.St} {H : Hp} {s : Shared}
/-- a value's built-in type -/
theorem typeIs_of {x : V} {u : Value} {T : String} (I : Inv X pins σ H s) (rx : RelV x u) (ty : TyX X.K H x (.type T)) : s.TypeIs u T := by
  cases ty with
  | base b =>
    cases b with
    | non => cases (show u = Value.none from rx); rfl
    | bl y => cases (show u = Value.bool y from rx); rfl
    | int i => obtain ⟨_, q⟩ := (show ∃ t, u = Value.int i t from rx); cases q; rfl
    | str y => obtain ⟨_, q⟩ := (show ∃ t, u = Value.str y t from rx); cases q; rfl
    | flt y => obtain ⟨_, q⟩ := (show ∃ t, u = Value.float y t from rx); cases q; rfl
    | @lst a xs ea => cases (show u = Value.ref a from rx); obtain ⟨_, _, n, _, h1⟩ := (show ObjOk X.prog X.w H s.heap a (.lst xs) from I.hok a _ ea); exact ⟨_, h1, rfl⟩
    | @frz a ob xs ea => cases (show u = Value.ref a from rx); obtain ⟨_, _, _, n, _, h1⟩ := (show ObjOk X.prog X.w H s.heap a (.frz ob (.lst xs)) from I.hok a _ ea); exact ⟨_, h1, rfl⟩
    | @tup a xs ea => cases (show u = Value.ref a from rx); obtain ⟨_, _, _, o, h1, h2, _⟩ := (show ObjOk X.prog X.w H s.heap a (.tup xs) from I.hok a _ ea); exact ⟨o, h1, h2⟩
    | @dK a kvs ea => cases (show u = Value.ref a from rx); obtain ⟨_, _, vs, _, o, es, ep, h1, h2, _⟩ := (show ObjOk X.prog X.w H s.heap a (.dK kvs) from I.hok a _ ea); exact ⟨o, h1, h2.1⟩
    | @dT a kvs ea => cases (show u = Value.ref a from rx); obtain ⟨_, _, xs, _, o, es, ep, h1, h2, _⟩ := (show ObjOk X.prog X.w H s.heap a (.dT kvs) from I.hok a _ ea); exact ⟨o, h1, h2.1⟩
  | byt y => obtain ⟨_, q⟩ := (show ∃ t, u = Value.bytes y t from rx); cases q; rfl
  | @set a S n ea => cases (show u = Value.ref a from rx); obtain ⟨o, _, _, _, e, ex, _⟩ := I.hok a _ ea; exact ⟨o, e, ex.1⟩
  | @kList a o e c => cases (show u = Value.ref a from rx); exact ⟨o, I.kIn a o e, c⟩
  | @kTuple a o e c => cases (show u = Value.ref a from rx); exact ⟨o, I.kIn a o e, c⟩
  | @kDict a o e c => cases (show u = Value.ref a from rx); exact ⟨o, I.kIn a o e, c⟩
  | @fTuple a ob xs ea => cases (show u = Value.ref a from rx); obtain ⟨_, _, _, _, o, h1, h2, _⟩ := (show ObjOk X.prog X.w H s.heap a (.frz ob (.tup xs)) from I.hok a _ ea); exact ⟨o, h1, h2⟩
  | @fDict a ob kvs ea => cases (show u = Value.ref a from rx); obtain ⟨_, _, _, vs, _, o, es, ep, h1, h2, _⟩ := (show ObjOk X.prog X.w H s.heap a (.frz ob (.dK kvs)) from I.hok a _ ea); exact ⟨o, h1, h2.1⟩
end
section
variable {X : Cx} {Y : Fx} {W : WX} {dw : DW} {PC : Addr → Prop} {k : Nat} {ps : List Str} {c : Addr → DSpecX}
def dEqB (K : PySem.W.Frag) (PC : Addr → Prop) (c : Addr → DSpecX) (dw : DW) (ta tb : DTE) : DTE := fun ρ n R => ta ρ n fun x n1 => tb ρ n1 fun y n2 => ∃ d b o, x = .dat d ∧ isRefD d = false ∧ y = .dat (refD b) ∧ n2.ob b = some o ∧ PC o.C ∧ PySem.W.subIn K (.ref o.C) (.type (tyD d)) = some false ∧
  c o.C [.dat (refD b), .dat d] n2 (fun d n3 => ∃ q : Bool, d = .bool q ∧ R (.dat (.bool q)) n3) fun ex n3 => dw ex ρ n3
theorem eqB_core {a b : Expr} {ta tb : DTE} {pos : Pos} (tk : Takes X W) (ok : WOk Y X.K dw W) (HM : HasM X.prog X.w X.K X.mg X.base PC "__eq__" k ps c) (hgd : X.A.guards = some []) (hr : Room k X.A) (hl : ps.length = 2) (hu : X.A.units < cLine)
    (ha : WE Y X a ta) (hb : WE Y X b tb)
    {pins : List (Addr × Obj)} {s : Shared} {σ : L2.St} {H : Hp} {Q : VK} (I : Inv X pins σ H s) (h : up Y X.K (dEqB X.K PC c dw ta tb) σ H Q) :
    wpAny (model X.prog X.w) X.A (eval a X.env) (fun v s₁ => wpAny (model X.prog X.w) X.A (eval b X.env) (fun u s₂ => wpAny (model X.prog X.w) X.A (compareOp .Eq v u) (EP X pins σ Q) X.xe s₂) X.xe s₁) X.xe s := by
  obtain ⟨Z, F, ρ, n, R, r, h, kk⟩ := h
  exact two_run ha hb I r h fun v u s2 x y xv yv n2 F2 H2 I2 rx ry ⟨d0, b, o, ex, hnr, ey, ho, hPC, hsub, hx⟩ g2 s2' d2 w2 w3 => by
    subst ex ey
    obtain rfl := VR.ref w3
    obtain rfl : u = Value.ref b := ry
    have r2 := r.step g2 s2' d2
    have tyx : TyX X.K H2 xv (.type (tyD d0)) := tyD_of (w2.rp s2' (isDR_dk (x := .dat d0) hnr)) (isDR_rf (x := .dat d0) hnr)
    have hT := typeIs_of I2 rx tyx
    obtain ⟨_, dxb, vsb, hb2, _⟩ := d2.2.1 b o ho
    obtain ⟨mB, OB, _⟩ := ins_get I2.hok hb2
    obtain ⟨odb, JB, _⟩ := OB.look
    obtain ⟨g, dx, od, J, hcl, hM, run⟩ := dun (A := X.A) (Q := fun z H' => ∃ q : Bool, z = .bl q ∧ Q (.bl q) H') (us := [v]) tk ok HM I2 r2 ho hPC (.cons w2 .nil) (.cons rx .nil) hl.symm hx fun d n3 F3 H3 v ⟨q, ed, h4⟩ g3 s3 d3 w4 => by
      subst ed
      simp only [Rp] at w4
      exact ⟨q, w4, kk _ _ _ _ _ h4 (g2.trans g3) s3 d3 (by simp [VR, Rp])⟩
    obtain ⟨mm, hF⟩ := I2.fr
    have fin : wpAny (model X.prog X.w) X.A (call (.ref g) [.ref b, v]) (PySem.W.CmpBack (EP X pins σ Q)) X.xe s2 := by
      refine wpAny_mono (run hgd hr I2.env0) (fun w s' ⟨z, H', I', rz, q, eq, hq⟩ => ?_) fun _ _ q => q
      subst eq
      obtain rfl : w = Value.bool q := rz
      exact ⟨.bl q, H', I', rfl, hq⟩
    have go : ∀ {T id : String}, tyD d0 = T → Slot T "__eq__" id → oneThing? .Eq v (.ref b) = none → (∀ Q : Shared → Prop, Q s2 → Decl X.prog X.w X.A X.xe s2 id v (.ref b) Q) → wpAny (model X.prog X.w) X.A (compareOp .Eq v (.ref b)) (EP X pins σ Q) X.xe s2 := fun {T id} eT hS ho1 hd =>
      eq_KB hu hF I2.ok.mod.kin J (eT ▸ hT) ho1 (eT ▸ hsub) hS hM.at_ hM.fn hd fin
    cases d0 with
    | none =>
      simp only [VR, Rp] at w2
      subst w2
      cases (show v = Value.none from rx)
      exact go rfl PySem.F.slot_NoneType_eq rfl fun Q hq => decl_none hq
    | bool y =>
      simp only [VR, Rp] at w2
      subst w2
      cases (show v = Value.bool y from rx)
      exact go rfl PySem.F.slot_bool_eq rfl fun Q hq => decl_bool JB.at_ hq
    | int i =>
      simp only [VR, Rp] at w2
      subst w2
      obtain ⟨_, q⟩ := (show ∃ t, v = Value.int i t from rx)
      cases q
      exact go rfl PySem.F.slot_int_eq rfl fun Q hq => decl_int JB.at_ hq
    | str y =>
      simp only [VR, Rp] at w2
      subst w2
      obtain ⟨_, q⟩ := (show ∃ t, v = Value.str y t from rx)
      cases q
      exact go rfl PySem.F.slot_str_eq rfl fun Q hq => decl_str JB.at_ hq
    | list xs => exact go rfl PySem.F.slot_list_eq (hT.oneThing_none _ _) fun Q hq => decl_list hT I2.kIn J hsub hq
    | tuple xs => exact go rfl PySem.F.slot_tuple_eq (hT.oneThing_none _ _) fun Q hq => decl_tuple hT I2.kIn J hsub hq
    | dict kvs => exact go rfl PySem.F.slot_dict_eq (hT.oneThing_none _ _) fun Q hq => decl_dict hT I2.kIn J hsub hq
theorem we_eqB {a b : Expr} {ta tb : DTE} {pos : Pos} (tk : Takes X W) (ok : WOk Y X.K dw W) (HM : HasM X.prog X.w X.K X.mg X.base PC "__eq__" k ps c) (hgd : X.A.guards = some []) (hr : Room k X.A) (hl : ps.length = 2) (hu : X.A.units < cLine)
    (ha : WE Y X a ta) (hb : WE Y X b tb) (hm : behindInMarks .Eq b = false := by with_unfolding_all rfl) : WE Y X (.Compare a [.Eq] [b] pos) (dEqB X.K PC c dw ta tb) :=
  ⟨fun pins s σ H Q I h => wpAny_Compare1 (eqB_core (pos := pos) tk ok HM hgd hr hl hu ha hb I h) hm⟩
end
end DL
set_option maxHeartbeats 4000000
namespace DL
open PySem PySem.Spec PyProof.Rows L2
theorem meets_enumB {v : Value} {o : Obj} {H : Heap → Prop} (B : Begins v o H) :
    Meets (Builtin.«enumerate.__new__» ⟨[.type "enumerate", v], []⟩) (fun _ R s => H s.heap ∧
      R (.ok (.ret (.ref (s.heap.push o).objs.size))) { s with heap := (s.heap.push o).push { cls := .type "enumerate", data := .fields #[.none, .bool false, .ref s.heap.objs.size, rawInt 0, .none, .none] } }) :=
  .of_wp fun prog w A R s h => by
    obtain ⟨hp, g, d, tk, os⟩ := s
    obtain ⟨h1, h⟩ := h
    have hsub := sub_enumerate
    have q1 : ∀ {A' : Around} {E Q : Value → Shared → Prop}, Q (.ref hp.objs.size) ⟨hp.push o, g, d, tk, os⟩ → wpAny (model prog w) A' (pyIter v) Q E ⟨hp, g, d, tk, os⟩ := fun q => B.iter prog w _ _ ⟨hp, g, d, tk, os⟩ _ h1 q
    wp_walk using q1
    refine wpAny_stack_any fun st => wpAny_pure ?_
    split
    · rename_i c _ _ _ _ _
      cases (c == Value.type "enumerate")
      · wp_walk using q1
        exact ⟨_, rfl, h⟩
      · wp_walk using q1
        exact ⟨_, rfl, h⟩
    · wp_walk using q1
      exact ⟨_, rfl, h⟩
section
variable {prog : Program} {w : World} {A : Around} {E : Value → Shared → Prop} {s : Shared}
theorem call_enumB {v : Value} {o : Obj} {H : Heap → Prop} {Q : Value → Shared → Prop} (B : Begins v o H) (h1 : H s.heap)
    (h : ∀ h', IsEnum h' (s.heap.objs.size + 1) s.heap.objs.size 0 .none → h'.get? s.heap.objs.size = some o → (∀ b o, s.heap.get? b = some o → h'.get? b = some o) → Q (.ref (s.heap.objs.size + 1)) { s with heap := h' }) :
    wpAny (model prog w) A (call (.type "enumerate") [v]) Q E s := by
  refine callType_new F.called_enumerate (by decide) (F.typeCall_enumerate_1 _) (F.newCall_enumerate_1 _) (fun obj => F.args_object_init_2 obj _) F.entry_enumerate_new (meets_enumB B) ⟨h1, ?_⟩
  have hz : (s.heap.push o).objs.size = s.heap.objs.size + 1 := Heap.size_push ..
  show _ ∧ _
  rw [hz]
  have he : IsEnum ((s.heap.push o).push { cls := .type "enumerate", data := .fields #[.none, .bool false, .ref s.heap.objs.size, rawInt 0, .none, .none] }) (s.heap.objs.size + 1) s.heap.objs.size 0 .none := by
    have z := Heap.get?_push_size (s.heap.push o) (o := { cls := .type "enumerate", data := .fields #[.none, .bool false, .ref s.heap.objs.size, rawInt 0, .none, .none] }) rfl
    rw [hz] at z
    exact z
  exact ⟨⟨_, he, rfl⟩, h _ he (Heap.get?_push_of_some _ (Heap.get?_push_size _ B.free)) fun b o x => Heap.get?_push_of_some _ (Heap.get?_push_of_some _ x)⟩
theorem enumS_end {e it : Addr} {x : Str} {t : Tok} {i : Nat} {c : Int} {old : Value} {Q : Option Value → Shared → Prop} (hh : A.handled = none) (he : IsEnum s.heap e it c old) (hit : s.heap.IsStrIter it (strIterType x) x t i) (hx : x.cps[i]? = none)
    (hQ : ∀ h', Heap.ExtBut it s.heap h' → Q none { s with heap := h' }) : wpAny (model prog w) A (pyNext (.ref e)) Q E s := by
  have hT : s.TypeIs (.ref e) "enumerate" := ⟨_, he, rfl⟩
  unfold pyNext
  refine wpAny_bind (wpAny_attempt (wpAny_callSpecial?_slot (name := Str.ofString "__next__") hT F.slot_enumerate_next (wpAny_call_entry F.slot_enumerate_next hT F.entry_enumerate_next ?_ (F.args_enumerate_next_1 _))))
  show wpAny _ _ (field (.ref e) 2 >>= _) _ _ _
  cases ha : x.cps.all (· < 128)
  · simp only [strIterType, ha, Bool.false_eq_true, if_false] at hit
    refine wpAny_bind (wpAny_field he rfl (x := .ref it) rfl (wpAny_bind (wpAny_nextOf_wide_end hh hit hx fun h' x he' ⟨o, ho, hc⟩ => ?_)))
    exact wpAny_bind (wpAny_isInstance (T := "StopIteration") (b := true) ⟨o, ho, hc⟩ isSubtype_stop (wpAny_pure (hQ _ he')))
  · simp only [strIterType, ha, if_true] at hit
    refine wpAny_bind (wpAny_field he rfl (x := .ref it) rfl (wpAny_bind (wpAny_nextOf_ascii_end hh hit hx fun h' x he' ⟨o, ho, hc⟩ => ?_)))
    exact wpAny_bind (wpAny_isInstance (T := "StopIteration") (b := true) ⟨o, ho, hc⟩ isSubtype_stop (wpAny_pure (hQ _ he')))
end
/-- the text, each sign in a new pair -/
def ItES (x : Str) : It :=
  ⟨fun i _ => i < x.cps.size, fun i H v H' => ∃ T c, v = .ref T ∧ H T = none ∧ H' = upd H T (.tup [.int (i : Nat), .str ⟨#[c]⟩]) ∧ x.cps[i]? = some c, fun i _ => x.cps.size ≤ i⟩
theorem turn_enumS {P : Program} {w : World} {K : PySem.W.Frag} {elts : List Expr} {kk : Nat} {tpos : Pos} (x : Str) (t : Tok) (e it : Addr) :
    Turn P w K (.Tuple elts kk tpos) (ItES x) [e, it] e (fun i h => (∃ old, IsEnum h e it ((i : Nat) : Int) old) ∧ h.IsStrIter it (strIterType x) x t i ∧ e ≠ it) where
  mem := by simp
  obj := fun i h st b hb => by
    obtain ⟨⟨old, he⟩, ⟨o, ho, hc, hd⟩, _⟩ := st
    rcases (show b = e ∨ b = it by simpa using hb) with z | z
    · rw [z]; exact ⟨_, he, fun v q => nomatch q⟩
    · rw [z]; exact ⟨o, ho, fun v q => by rw [hd] at q; cases q⟩
  keep := fun i h h' st k => let ⟨⟨old, he⟩, ⟨o, ho, r⟩, hne⟩ := st; ⟨⟨old, k e (by simp) _ he⟩, ⟨o, k it (by simp) o ho, r⟩, hne⟩
  item := by
    intro X hP hw hK hc i pins s σ H E I hf st hg
    subst hP hw hK
    obtain ⟨⟨old, he⟩, hit, hne⟩ := st
    have hel : e < s.heap.objs.size := Heap.lt_size he
    have hil : it < s.heap.objs.size := by obtain ⟨_, q, _⟩ := hit; exact Heap.lt_size q
    refine wpAny_pyNext_enum_itemC (fp := [it]) (Draws.text (A := X.A.in1) (I.ok.hd hc) it x t) he (i := i) hit hg hne (by simp; exact hne) fun y h' tk hy ho hst hT hsz hk => ?_
    obtain ⟨c, u, hcx, rfl⟩ := hy
    refine ⟨_, rfl, wpAny_letOwnedTupleGo_enum (s := { s with heap := h', toks := tk + 1 }) ho fun h'' he' sb => ?_⟩
    have hT2 : h''.get? s.heap.objs.size = some { cls := .type "tuple", data := .seq #[.int i tk, .str ⟨#[c]⟩ u] } := (sb.2 _ (Nat.ne_of_gt hel)).trans hT
    have new : ObjOk X.prog X.w (upd H s.heap.objs.size (.tup [.int (i : Nat), .str ⟨#[c]⟩])) h'' s.heap.objs.size (.tup [.int (i : Nat), .str ⟨#[c]⟩]) := ⟨by show 2 ≤ sizeLine; decide, [.int i tk, .str ⟨#[c]⟩ u], .cons ⟨_, rfl⟩ (.cons ⟨_, rfl⟩ .nil), ⟨_, hT2, rfl, _, rfl⟩⟩
    have I1 : Inv X pins σ (upd H s.heap.objs.size (.tup [.int (i : Nat), .str ⟨#[c]⟩])) { s with heap := h'', toks := tk + 1 } :=
      I.turnedNew (ch := [e, it]) (fun b ob hb q => (sb.2 b (fun z => hb (by simp [z]))).trans (hk b ob (fun z => hb (by simp [z])) (fun z => hb (by simp [z])) q)) hf (Nat.le_refl _) new
    have hst2 : h''.IsStrIter it (strIterType x) x t (i + 1) := by
      obtain ⟨o, h1, h2, h3⟩ := hst
      exact ⟨o, (sb.2 it (Ne.symm hne)).trans h1, h2, h3⟩
    refine ⟨.ref s.heap.objs.size, _, I1, rfl, ⟨_, c, rfl, I.hok.fresh (Nat.le_refl _), rfl, hcx⟩, ⟨⟨.str ⟨#[c]⟩ u, ?_⟩, hst2, hne⟩, fun b hb => ?_⟩
    · rw [show ((i + 1 : Nat) : Int) = (i : Int) + 1 by omega]
      exact he'
    · have hb' : b < s.heap.objs.size := by
        rcases (show b = e ∨ b = it by simpa using hb) with z | z
        · rw [z]; exact hel
        · rw [z]; exact hil
      rw [upd_ne (Nat.ne_of_lt hb')]
      exact (hf b hb).1
  done := by
    intro X hP hw hK hc i pins s σ H E I hf st hg
    subst hP hw hK
    obtain ⟨⟨old, he⟩, hit, hne⟩ := st
    obtain ⟨f0, f1, f2, f3, f4, f5⟩ := hf it (by simp)
    exact enumS_end (A := X.A) (I.ok.hd hc) he hit (Array.getElem?_eq_none hg) fun h' eb => ⟨rfl, I.turned (t' := s.toks) (fun b o hb q => eb b o hb q) f0 f1 f3 f4 f5⟩
  self := fun A i s Q E st h => let ⟨⟨_, he⟩, _⟩ := st; wpAny_pyIter_enum he h
variable {X : Cx} {Y : Fx}
def iEnS (te : TE) : TI := fun σ H R => te σ H fun v H1 => ∃ x, v = .str x ∧ R (ItES x) H1
theorem pi_enS {e : Expr} {te : TE} {p pos tpos : Pos} {elts : List Expr} {kk : Nat} (hg : Gl X "enumerate") (hm : X.mg "enumerate" = none) (he : PE X e te) (hs : starEach [e] X.env = [(false, eval e X.env)] := by rfl) :
    PI X (.Tuple elts kk tpos) (.Call (.Name "enumerate" p) [e] [] pos) (iEnS te) := ⟨fun pins s σ H R I h => by
  refine Call_ (ld_blt I hg hm boot_enumerate (PyProof.Rows.callWith_type1 (thn ((pa_cons he pa_nil hs).run pos pins s σ H (fun vs H1 => match vs with | [v] => ∃ x, v = .str x ∧ R (ItES x) H1 | _ => False) I h) fun us s1 ⟨vs, H1, I1, r1, q0⟩ => ?_) hs rfl))
  match vs, q0 with
  | [v], ⟨x, ev, q⟩ =>
  subst ev
  cases r1 with
  | cons r rr =>
    cases rr
    obtain ⟨t, rfl⟩ := r
    have fresh : ∀ b ∈ [s1.heap.objs.size + 1, s1.heap.objs.size], FpOk X pins H1 b := fun b hb => by
      have hle : s1.heap.objs.size ≤ b := by
        rcases (show b = s1.heap.objs.size + 1 ∨ b = s1.heap.objs.size by simpa using hb) with z | z <;> omega
      exact I1.fpOk hle (I1.hok.fresh hle)
    refine call_enumB (begins_text x t) trivial fun h' he hit hk => wpAny_pyIter_enum he ?_
    exact ⟨s1.heap.objs.size + 1, [s1.heap.objs.size + 1, s1.heap.objs.size], _, _, H1, rfl, I1.kept (t' := s1.toks) hk, turn_enumS x t (s1.heap.objs.size + 1) s1.heap.objs.size, ⟨⟨.none, he⟩, ⟨_, hit, rfl, rfl⟩, Nat.succ_ne_self _⟩, fresh, q⟩⟩
theorem itOk_enS {K : PySem.W.Frag} {F : Hp} {a : Str} : ItOk K (ItES a) F (enumD (sgnD a)) where
  go := fun i H s hi => by
    rw [enumD_length] at hi
    have : (sgnD a).length = a.cps.size := by simp [sgnD, chs]
    rw [this] at hi
    exact hi
  stop := fun i H s hi => by
    rw [enumD_length] at hi
    have : (sgnD a).length = a.cps.size := by simp [sgnD, chs]
    rw [this] at hi
    exact hi
  yld := fun i H v H' x ⟨T, c, e1, e2, e3, hc⟩ s hx => by
    obtain ⟨d, q1, q2⟩ := enumD_get hx
    unfold sgnD chs at q1
    rw [List.getElem?_map, Array.getElem?_toList, hc] at q1
    cases q1
    exact .inr ⟨T, _, _, e1, e2, e3, q2, rps_cons (by simp [Rp]) (rps_cons (by simp [Rp]) rps_nil)⟩
def dEnS (t : DTE) : DSrc := fun ρ n R => t ρ n fun x n' => ∃ a : Str, x = .dat (.str a) ∧ R (enumD (sgnD a)) n'
theorem di_enumS {e : Expr} {t : DTE} {p pos tpos : Pos} {elts : List Expr} {kk : Nat} (hg : Gl X "enumerate") (hm : X.mg "enumerate" = none) (ha : WE Y X e t) (hs : starEach [e] X.env = [(false, eval e X.env)] := by rfl) :
    DI Y X (.Tuple elts kk tpos) (.Call (.Name "enumerate" p) [e] [] pos) (dEnS t) :=
  pi_imp (pi_enS hg hm ha hs) fun σ H R ⟨Z, F, ρ, n, Q, r, ht, k⟩ => ⟨Z, F, ρ, n, _, r, ht, fun x n1 F1 H1 v ⟨a, e1, hx⟩ g1 s1 d1 w1 => by
    subst e1
    simp only [VR, Rp] at w1
    exact ⟨a, w1, k _ _ _ _ _ hx g1 s1 d1 itOk_enS⟩⟩
end DL
set_option maxHeartbeats 4000000
namespace DL
open PySem PySem.Spec PyProof.Rows L2
def sepC (L i : Nat) : List Nat := if (((L : Int) - (i : Int)) % 3 = 1 ∧ (i : Int) + 1 < L) then [44] else []
/-- what the law has after so many signs -/
def lawG (ds : List Nat) (k : Nat) : List Nat := ((ds.zipIdx.take k).map fun p => p.1 :: sepC ds.length p.2).flatten
theorem lawG_succ {ds : List Nat} {k c : Nat} (h : ds[k]? = some c) : lawG ds (k + 1) = lawG ds k ++ (c :: sepC ds.length k) := by
  unfold lawG
  have e : ds.zipIdx[k]? = some (c, k) := by rw [List.getElem?_zipIdx, h]; simp
  rw [List.take_add_one, e, List.map_append, List.flatten_append]
  simp
theorem lawG_len (ds : List Nat) (k : Nat) : (lawG ds k).length ≤ 2 * k := by
  induction k with
  | zero => exact Nat.le_refl 0
  | succ k ih =>
    cases h : ds[k]? with
    | none =>
      have e : ds.zipIdx[k]? = none := by rw [List.getElem?_zipIdx, h]; rfl
      unfold lawG at ih ⊢
      rw [List.take_add_one, e]
      simp only [Option.toList_none, List.append_nil]
      omega
    | some c =>
      rw [lawG_succ h, List.length_append, List.length_cons]
      have : (sepC ds.length k).length ≤ 1 := by unfold sepC; split <;> simp
      omega
theorem lawG_groups {ds : List Nat} (h0 : 1 ≤ ds.length) (h1 : ds.length ≤ 7) : lawG ds ds.length = groupsFromRight' 3 44 (ds.length + 1) ds.reverse 0 [] := by
  match ds, h0, h1 with
  | [a], _, _ => kernel_rfl
  | [a, b], _, _ => kernel_rfl
  | [a, b, c], _, _ => kernel_rfl
  | [a, b, c, d], _, _ => kernel_rfl
  | [a, b, c, d, e], _, _ => kernel_rfl
  | [a, b, c, d, e, f], _, _ => kernel_rfl
  | [a, b, c, d, e, f, g], _, _ => kernel_rfl
theorem chs_dg8 {z : Int} (h : 0 ≤ z) : chs (numT z) = dg8 z := by
  obtain ⟨m, rfl⟩ := Int.eq_ofNat_of_zero_le h
  show chs (Str.ofString (toString (Int.ofNat m))) = _
  rw [text_ofNat]
  simp [chs, dg8]
theorem dg8_pos {z : Int} : 1 ≤ (dg8 z).length := by
  unfold dg8
  rw [List.length_map]
  exact tDigits_len_ge 10 z.natAbs
theorem txt8_snoc (A : List Int) (z : Int) : txt8 (A ++ [z]) = txt8 A ++ t8 z := by
  rw [txt8_app]
  congr 1
/-- the law's row of one size -/
theorem law_t8 {z : Int} (h0 : 1 ≤ z) (h1 : z ≤ 10 ^ 6) : (⟨(List.replicate (8 - (lawG (dg8 z) (dg8 z).length).length) 32 ++ lawG (dg8 z) (dg8 z).length).toArray⟩ : Str) = t8 z := by
  rw [t8_eq h0, lawG_groups dg8_pos (dg8_len h0 h1)]
theorem txt8_len {S : List Int} (h : In1 (10 ^ 6) S) : (txt8 S).length ≤ 60 * S.length := by
  have h1 := sum8 h
  have h2 : (txt8 S).length = (TL.tl (txt8 S)).length := (Array.length_toList ..).symm
  rw [h2, txt8_tl, List.length_flatten, List.map_map]
  have h3 : (S.map (List.length ∘ fun z => TL.tl (t8 z))) = (S.map t8).map (·.length) := by
    rw [List.map_map]
    exact List.map_congr_left fun z _ => Array.length_toList ..
  rw [h3]
  exact h1
theorem rep_tl (z : Str) (m : Nat) : TL.tl (repS z m) = (List.replicate m (TL.tl z)).flatten := by
  unfold repS
  simp
theorem rep_oneN (c m : Nat) : (List.replicate m [c]).flatten = List.replicate m c := by
  induction m with
  | zero => rfl
  | succ m ih => rw [List.replicate_succ, List.flatten_cons, ih, List.replicate_succ]; rfl
theorem slen_app (a b : Str) : (a ++ b).length = a.length + b.length := by
  have h : ∀ z : Str, z.length = (TL.tl z).length := fun z => (Array.length_toList ..).symm
  rw [h, h a, h b, TL.tl_append, List.length_append]
theorem rep_lenC (m : Nat) : (repS "," m).length = m := by
  have h : ∀ z : Str, z.length = (TL.tl z).length := fun z => (Array.length_toList ..).symm
  rw [h, rep_tl, show TL.tl ("," : Str) = [44] by decide +kernel, rep_oneN, List.length_replicate]
theorem rep_lenB (m : Nat) : (repS " " m).length = m := by
  have h : ∀ z : Str, z.length = (TL.tl z).length := fun z => (Array.length_toList ..).symm
  rw [h, rep_tl, show TL.tl (" " : Str) = [32] by decide +kernel, rep_oneN, List.length_replicate]
theorem law_step {ds : List Nat} {j c : Nat} (h : ds[j]? = some c) {m : Nat} (hm : m = if (((ds.length : Int) - (j : Int)) % 3 = 1 ∧ (j : Int) + 1 < ds.length) then 1 else 0) :
    ((⟨(lawG ds j).toArray⟩ : Str) ++ ⟨#[c]⟩) ++ repS "," m = ⟨(lawG ds (j + 1)).toArray⟩ := TL.ext_tl (by
  rw [TL.tl_append, TL.tl_append, rep_tl, show TL.tl ("," : Str) = [44] by decide +kernel, rep_oneN]
  show (lawG ds j).toArray.toList ++ [c] ++ List.replicate m 44 = (lawG ds (j + 1)).toArray.toList
  rw [List.toList_toArray, List.toList_toArray, lawG_succ h, hm, List.append_assoc]
  congr 1
  unfold sepC
  split <;> rfl)
theorem law_end {z : Int} (h0 : 1 ≤ z) (h1 : z ≤ 10 ^ 6) (X : Str) : (X ++ repS " " ((8 - (lawG (dg8 z) (dg8 z).length).length : Nat) : Int)) ++ (⟨(lawG (dg8 z) (dg8 z).length).toArray⟩ : Str) = X ++ t8 z := TL.ext_tl (by
  rw [TL.tl_append, TL.tl_append, TL.tl_append, rep_tl, show TL.tl (" " : Str) = [32] by decide +kernel, rep_oneN, ← law_t8 h0 h1, List.append_assoc])
theorem gv_bool (b : Bool) : GV 500 4 (.bool b) := gv_look (ds := [.bool true, .bool false]) (by decide +kernel) _ (by cases b <;> simp)
theorem tame_bs (L : List Bool) (h : L.length ≤ 8) : TameE 1000000 60 (.list (L.map .bool)) := (gv_lst (l := 8) (fun x hx => by obtain ⟨b, _, rfl⟩ := List.mem_map.mp hx; exact gv_bool b) (by rw [List.length_map]; exact h)).tm.mono (by decide) (by decide)
theorem isN_miss (A B : List Int) : isN (missD A B) = (missZ A B).isNone := by unfold missD; cases missZ A B <;> rfl
end DL
set_option maxHeartbeats 0
namespace DL
open PySem PySem.Spec PyProof.Rows L2
def topS (i : Nat) : Stmt := PySem.Challenge.pw_shoeparty_k28_shelves_in_equal_and_text.main.body.getD i (.Pass ⟨0, 0, 0, 0⟩)
structure CA where
  PartyError : Addr
  BadShelf : Addr
  TooManyPairs : Addr
  Missing : Addr
  NoPlace : Addr
  Shelf : Addr
structure Bn (K : PySem.W.Frag) (mg : Str → Option Value) (C : CA) : Prop where
  LookupError : mg "LookupError" = none
  ValueError : mg "ValueError" = none
  abs : mg "abs" = none
  all : mg "all" = none
  bool : mg "bool" = none
  enumerate : mg "enumerate" = none
  int : mg "int" = none
  isinstance : mg "isinstance" = none
  len : mg "len" = none
  list : mg "list" = none
  max : mg "max" = none
  range : mg "range" = none
  repr : mg "repr" = none
  sorted : mg "sorted" = none
  str : mg "str" = none
  tuple : mg "tuple" = none
  MAX_SIZE : ∃ t, mg "MAX_SIZE" = some (.int (1000000) t)
  MAX_SHELF : ∃ t, mg "MAX_SHELF" = some (.int (100) t)
  g_PartyError : mg "PartyError" = some (.ref C.PartyError)
  g_BadShelf : mg "BadShelf" = some (.ref C.BadShelf)
  g_TooManyPairs : mg "TooManyPairs" = some (.ref C.TooManyPairs)
  g_Missing : mg "Missing" = some (.ref C.Missing)
  g_NoPlace : mg "NoPlace" = some (.ref C.NoPlace)
  g_Shelf : mg "Shelf" = some (.ref C.Shelf)
  cg : PySem.W.specialIn K (.builtin "object.__class__") "__get__" = some (some (.builtin "getset_descriptor.__get__"))
  ct : PySem.W.takesIn K (.builtin "object.__class__") = some true
  ty_BadShelf : PySem.W.typeIn K (.ref C.BadShelf) = some (.type "type")
  k_BadShelf : PySem.W.keepIn K (.ref C.BadShelf) = true
  sa_BadShelf : PySem.W.findIn K (.ref C.BadShelf) "__setattr__" = some (some (.builtin "object.__setattr__"))
  cl_Shelf : PySem.W.isClsIn K C.Shelf = true
  ty_Shelf : PySem.W.typeIn K (.ref C.Shelf) = some (.type "type")
  k_Shelf : PySem.W.keepIn K (.ref C.Shelf) = true
  hd_Shelf : PySem.W.hasDictIn K C.Shelf = true
  ca_Shelf : PySem.W.findIn K (.ref C.Shelf) "__class__" = some (some (.builtin "object.__class__"))
  mo_Shelf : PySem.W.mroIn K C.Shelf (.type "object") = some true
  sa_Shelf : PySem.W.findIn K (.ref C.Shelf) "__setattr__" = some (some (.builtin "object.__setattr__"))
  s_Shelf_Shelf : PySem.W.subIn K (.ref C.Shelf) (.ref C.Shelf) = some true
  s_Shelf_list : PySem.W.subIn K (.ref C.Shelf) (.type "list") = some false
  s_Shelf_tuple : PySem.W.subIn K (.ref C.Shelf) (.type "tuple") = some false
  s_Shelf_int : PySem.W.subIn K (.ref C.Shelf) (.type "int") = some false
  s_Shelf_str : PySem.W.subIn K (.ref C.Shelf) (.type "str") = some false
  s_Shelf_bool : PySem.W.subIn K (.ref C.Shelf) (.type "bool") = some false
  s_Shelf_NoneType : PySem.W.subIn K (.ref C.Shelf) (.type "NoneType") = some false
  s_Shelf_dict : PySem.W.subIn K (.ref C.Shelf) (.type "dict") = some false
  q_NoneType_Shelf : PySem.W.subIn K (.type "NoneType") (.ref C.Shelf) = some false
  q_bool_Shelf : PySem.W.subIn K (.type "bool") (.ref C.Shelf) = some false
  q_int_Shelf : PySem.W.subIn K (.type "int") (.ref C.Shelf) = some false
  q_str_Shelf : PySem.W.subIn K (.type "str") (.ref C.Shelf) = some false
  q_list_Shelf : PySem.W.subIn K (.type "list") (.ref C.Shelf) = some false
  q_tuple_Shelf : PySem.W.subIn K (.type "tuple") (.ref C.Shelf) = some false
  q_dict_Shelf : PySem.W.subIn K (.type "dict") (.ref C.Shelf) = some false
  sb_BadShelf : PySem.W.subIn K (.ref C.BadShelf) (.type "BaseException") = some true
  n_BadShelf : PySem.W.findIn K (.ref C.BadShelf) "value" = some none
  pg_Shelf : PySem.W.plainGet K C.Shelf Str.empty = true
  po_Shelf : PySem.W.plainOver K C.Shelf = true
  mk_Shelf : PySem.W.makesIn K C.Shelf = true
  ne_Shelf : PySem.W.findIn K (.ref C.Shelf) "__ne__" = some (some (.builtin "object.__ne__"))
  f_Shelf_sizes : PySem.W.findIn K (.ref C.Shelf) "sizes" = some none
  e0_PartyError : PySem.W.excIn K C.PartyError [.type "ValueError", .type "Exception", .type "BaseException", .type "object"] "ValueError.__new__" = true
  e0_TooManyPairs : PySem.W.excIn K C.TooManyPairs [.type "ValueError", .type "Exception", .type "BaseException", .type "object"] "ValueError.__new__" = true
section
variable {K : PySem.W.Frag} {mg : Str → Option Value} {C : CA}
theorem Bn.c_Shelf (B : Bn K mg C) : Cls K C.Shelf := ⟨B.pg_Shelf, B.hd_Shelf, B.po_Shelf, B.sa_Shelf⟩
theorem Bn.i_Shelf (B : Bn K mg C) : InsC K C.Shelf := ⟨B.c_Shelf, B.ca_Shelf, B.cg, B.ct, B.mo_Shelf⟩
theorem Bn.fl_Shelf_sizes (B : Bn K mg C) : FldC K C.Shelf "sizes" := ⟨B.c_Shelf, B.f_Shelf_sizes⟩
theorem Bn.t_NoneType_Shelf (B : Bn K mg C) : PySem.W.kitOne K (.type "NoneType") (.ref C.Shelf) = some false := kit_tyr B.cl_Shelf B.ty_Shelf B.q_NoneType_Shelf
theorem Bn.t_bool_Shelf (B : Bn K mg C) : PySem.W.kitOne K (.type "bool") (.ref C.Shelf) = some false := kit_tyr B.cl_Shelf B.ty_Shelf B.q_bool_Shelf
theorem Bn.t_int_Shelf (B : Bn K mg C) : PySem.W.kitOne K (.type "int") (.ref C.Shelf) = some false := kit_tyr B.cl_Shelf B.ty_Shelf B.q_int_Shelf
theorem Bn.t_str_Shelf (B : Bn K mg C) : PySem.W.kitOne K (.type "str") (.ref C.Shelf) = some false := kit_tyr B.cl_Shelf B.ty_Shelf B.q_str_Shelf
theorem Bn.t_list_Shelf (B : Bn K mg C) : PySem.W.kitOne K (.type "list") (.ref C.Shelf) = some false := kit_tyr B.cl_Shelf B.ty_Shelf B.q_list_Shelf
theorem Bn.t_tuple_Shelf (B : Bn K mg C) : PySem.W.kitOne K (.type "tuple") (.ref C.Shelf) = some false := kit_tyr B.cl_Shelf B.ty_Shelf B.q_tuple_Shelf
theorem Bn.t_dict_Shelf (B : Bn K mg C) : PySem.W.kitOne K (.type "dict") (.ref C.Shelf) = some false := kit_tyr B.cl_Shelf B.ty_Shelf B.q_dict_Shelf
theorem Bn.k_Shelf_Shelf (B : Bn K mg C) : PySem.W.kitOne K (.ref C.Shelf) (.ref C.Shelf) = some true := kit_own B.cl_Shelf B.ty_Shelf B.s_Shelf_Shelf B.s_Shelf_Shelf
end
section
variable {P : Program} {w : World} {K : PySem.W.Frag} {mg : Str → Option Value} {base : Heap} {C : CA}
abbrev s__law_deck : Stmt := topS 18
abbrev s__law_draw : Stmt := topS 19
def spDeckA (K : PySem.W.Frag) : Sp := fun vs H Q _ => ∃ (a : Addr) (ns : List Int), vs = [.ref a] ∧ SqL K H a (ns.map V.int) ∧ ns.length ≤ 63 ∧
  ∀ (H' : Hp) (p q : Addr), Same H H' → H p = none → H q = none → (dkA p q).at0 H' 0 → Q (.ref p) H'
theorem scDeck : FnScope ["script", "cell"] ["script"] (defScope s__law_deck) := ⟨rfl, rfl, rfl, by decide +kernel, rfl, by decide +kernel, by decide +kernel⟩
theorem ok_deck {f : Addr} {fd : FuncData} (F : Fun K "_law_deck" "_law_deck" s__law_deck f fd) (mabs : mg "abs" = none) : FnG P w K mg base 1 f fd ["script"] (spDeckA K) := by
  refine fng_of F scDeck (fun vs H Q E ⟨a, ns, e, _⟩ => by rw [e]; rfl) fun cdv A outer s H vs Q hgd hr ⟨a, ns, e, hS, hlen, k⟩ => ?_
  subst e
  refine ⟨_, pss_one (ps_ret (pe_lst (pa_cons (pe_lc (own := [("cell", 1)]) (g := gName 1) (tt := tYes) rfl scDeck.nd (pi_list (pe_slice sl_list (pv 0) po_none (po_some pe_int)))
    (blkOk_by (N := ["script", "cell"]) (sc := defScope s__law_deck) (by decide +kernel)) (fun _ _ _ _ _ => pg_name (i := 1) scDeck.nd rfl (Or.inl rfl)) (fun _ _ _ _ _ => pts_nil)
    (fun _ _ _ _ _ => pe_callB call_abs (by rfl) mabs PyProof.Rows.boot_abs (pa_cons (pv 1) pa_nil))) (pa_cons pe_int pa_nil)))), ?_⟩
  refine ⟨_, rfl, 60, rfl, a, _, rfl, hS, fun l hl => ?_⟩
  have cut : ∃ ms : List Int, cutV (ns.map V.int) none (some 60) = ms.map V.int ∧ ms.length ≤ 63 := by
    refine ⟨cutG ns none (some 60), by unfold cutG cutV; simp, ?_⟩
    unfold cutG
    rw [List.length_take, List.length_drop]
    omega
  obtain ⟨ms, e1, e2⟩ := cut
  rw [e1]
  have s1 : Same H (upd H l (.lst (ms.map V.int))) := fun b o e => by rw [upd_ne (ne_of_none e hl)]; exact e
  refine ⟨l, rfl, ⟨_, SqL.of upd_same⟩, fun D hD => ?_⟩
  have nlD : l ≠ D := fun q => by rw [← q, upd_same] at hD; cases hD
  have hD0 : H D = none := s1.free hD
  refine lc_list (K := K) (a := l) (xs := ms.map V.int) (fun i H' => ∃ cs : List Int, cs.length ≤ i ∧ (∀ c ∈ cs, 0 ≤ c) ∧ H' = upd (upd H l (.lst (ms.map V.int))) D (.lst (cs.map V.int)))
    ⟨[], Nat.le_refl _, fun _ h => (by cases h), rfl⟩ (fun i H' _ ⟨cs, _, _, e⟩ => by rw [e]; exact SqL.of (by rw [upd_ne nlD]; exact upd_same)) (fun i x H' hx ⟨cs, hc1, hc2, e⟩ => ?_) (fun H' ⟨cs, hc1, hc2, e⟩ => ?_)
  · subst e
    rw [List.getElem?_map] at hx
    obtain ⟨z, hz, rfl⟩ := Option.map_eq_some_iff.mp hx
    have hi : i < ms.length := (List.getElem?_eq_some_iff.mp hz).1
    refine ⟨rfl, V.int z, rfl, z, rfl, cs.map V.int, upd_same, small1000 (by rw [List.length_map]; omega), cs ++ [if z < 0 then -z else z], by rw [List.length_append]; show cs.length + 1 ≤ i + 1; omega, fun c hc => ?_, ?_⟩
    · rcases List.mem_append.mp hc with q | q
      · exact hc2 c q
      · rw [List.mem_singleton.mp q]; split <;> omega
    · rw [upd_upd, List.map_append] <;> rfl
  · subst e
    refine ⟨by show 2 ≤ sizeLine; decide, fun p hp => ?_⟩
    have hp2 : upd H l (.lst (ms.map V.int)) p = none := by
      by_cases q : p = D
      · rw [q, upd_same] at hp; cases hp
      · rw [upd_ne q] at hp; exact hp
    have npD : D ≠ p := fun q => by rw [← q, upd_same] at hp; cases hp
    rw [List.length_map] at hc1
    refine k _ p D (fun b o e => ?_) (s1.free hp2) hD0 ⟨cs, upd_same, by rw [upd_ne npD]; exact upd_same, by omega, hc2⟩
    have eb := s1 b o e
    rw [upd_ne (ne_of_none eb hp2), upd_ne (ne_of_none eb hD)]
    exact eb
def drawA : DSpec := fun as n R => ∃ lim : Int, as = [.deck false, .dat (.int lim)] ∧ 1 ≤ lim ∧ lim ≤ 10 ^ 7 ∧ n.n ≤ 10 ^ 6 ∧ ∀ r : Int, 0 ≤ r → r < lim → R (.int r) (n + 1)
theorem scDraw : FnScope ["deck", "bound", "at", "cell", "mixed"] ["deck", "bound"] (defScope s__law_draw) := ⟨rfl, rfl, rfl, by decide +kernel, rfl, by decide +kernel, by decide +kernel⟩
theorem ok_draw {f : Addr} {fd : FuncData} (F : Fun K "_law_draw" "_law_draw" s__law_draw f fd) (mlen : mg "len" = none) (mmax : mg "max" = none) : FnG P w K mg base 1 f fd ["deck", "bound"] (spD K 2 drawA) := by
  refine fng_of F scDraw (fun vs H Q E ⟨δ, Fz, as, n, R, hl, w1, _⟩ => by rw [← Paired.length w1]; exact hl) fun cdv A outer s H vs Q hgd hr ⟨δ, Fz, as, n, R, hl, w1, s1, d1, o1, ⟨lim, ea, hl1, hl2, hn, hR⟩, hk⟩ => ?_
  subst ea
  obtain ⟨va, vb, rfl, h1, h2⟩ := vr2 w1
  obtain ⟨a, rfl, b, rfl⟩ := h1
  simp only [VR, Rp] at h2
  subst h2
  obtain ⟨⟨cells, hA, hB, hc1, hc2⟩, hob⟩ := d1
  have nba : b ≠ a := fun q => by
    rw [q, hA] at hB
    have q2 := HO.lst.inj (Option.some.inj hB)
    cases cells with
    | nil => cases q2
    | cons x r => simp at q2
  -- what is wanted behind the body
  have fin : ∀ (H' : Hp) (cs : List Int) (r : Int), H' a = some (.lst [.ref b, .int ((n.n : Int) + 1)]) → H' b = some (.lst (cs.map V.int)) → cs.length ≤ 63 → (∀ c ∈ cs, 0 ≤ c) → (∀ c o, c ≠ a → c ≠ b → H c = some o → H' c = some o) → 0 ≤ r → r < lim → Q (.int r) H' := fun H' cs r q1 q2 q3 q4 q5 q6 q7 => by
    have out : ∀ c o, c ∉ (dkA a b).own → H c = some o → H' c = some o := fun c o hc => q5 c o (fun e => hc (by rw [e]; simp [dkA])) fun e => hc (by rw [e]; simp [dkA])
    have keepI : ∀ c C dx fs, H c = some (.ins C dx fs) → H' c = some (.ins C dx fs) := fun c C dx fs e => q5 c _ (fun z => by rw [z, hA] at e; cases e) (fun z => by rw [z, hB] at e; cases e) e
    have inn : ∀ c, c ∈ (dkA a b).own → H' c ≠ none := fun c hc => by
      simp only [dkA, List.mem_cons, List.not_mem_nil, or_false] at hc
      rcases hc with e | e <;> rw [e]
      · rw [q1]; nofun
      · rw [q2]; nofun
    refine hk (.int r) (n + 1) Fz H' _ (hR r q6 q7) ⟨Same.refl _, fun _ _ h => h, fun c o hc e _ => out c o hc e, fun c C dx fs e => ⟨fs, keepI c C dx fs e⟩, fun c hc => ?_⟩ (fun c o e => ?_) ⟨⟨cs, q1, q2, q3, q4⟩, fun c ob e => (by
      obtain ⟨h1, dx, vs, h2, h3⟩ := hob.1 c ob e
      exact ⟨h1, dx, vs, keepI _ _ _ _ h2, h3⟩), hob.2⟩ (by simp [Rp])
    · by_cases z : c ∈ (dkA a b).own
      · exact inn c z
      · obtain ⟨o, e⟩ := some_of_ne hc
        rw [out c o z e]; nofun
    · exact out c o (fun z => by rw [(o1 c z).1] at e; cases e) (s1 _ _ e)
  refine ⟨_, pss_cons (ps_asg (pe_op op_add (pe_ix ix_list (pv 0) pe_int (fun _ _ => rfl)) pe_int) (pg_sub (pv 0) pe_int set_list))
    (pss_cons (ps_set (i := 2) scDraw.nd rfl (Or.inl rfl) (pe_op op_mod (pe_ix ix_list (pv 0) pe_int (fun _ _ => rfl)) (pe_callB (call_max2 rfl) (by rfl) mmax PyProof.Rows.boot_max (pa_cons pe_int (pa_cons (pe_callB call_len_seq (by rfl) mlen PySem.boot_len (pa_cons (pe_ix ix_list (pv 0) pe_int (fun _ _ => rfl)) pa_nil)) pa_nil)))))
    (pss_cons (ps_set (i := 3) scDraw.nd rfl (Or.inl rfl) (pe_ix ix_list (pe_op op_cat (pe_ix ix_list (pv 0) pe_int (fun _ _ => rfl)) (pe_lst (pa_cons pe_int pa_nil))) (pv 2) (fun _ _ => rfl)))
    (pss_cons (ps_if (pt_cmpR op_ge (pv 3) (pe_op op_pow pe_int pe_int) (nomark _))
        (pss_cons (ps_asg (pe_op op_fdivW (pv 3) (pv 1)) (pg_sub (pe_ix ix_list (pv 0) pe_int (fun _ _ => rfl)) (pv 2) set_list)) (pss_one (ps_ret (pe_op op_mod (pv 3) (pv 1))))) pss_nil)
    (pss_cons (ps_set (i := 4) scDraw.nd rfl (Or.inl rfl) (pe_op op_mod (pe_op op_pow (pe_op op_add (pe_op op_add (pe_op op_mod (pv 3) pe_int) (pe_op op_mul pe_int (pe_ix ix_list (pv 0) pe_int (fun _ _ => rfl)))) pe_int) pe_int) pe_int))
    (pss_one (ps_ret (pe_op op_mod (pe_op op_add (pe_op op_fdivW (pv 4) pe_int) (pe_op op_mul pe_int (pe_ix ix_list (pv 0) pe_int (fun _ _ => rfl)))) (pv 1)))))))), ?_⟩
  refine ⟨_, rfl, a, _, 1, .int n.n, rfl, rfl, SqL.of hA, rfl, n.n, 1, rfl, rfl, _, rfl, a, _, 1, 1, rfl, rfl, hA, rfl, ?_⟩
  -- behind the first row
  have hA1 : upd H a (.lst ([V.ref b, V.int n.n].set 1 (.int ((n.n : Int) + 1)))) a = some (.lst [.ref b, .int ((n.n : Int) + 1)]) := upd_same
  have hB1 : upd H a (.lst ([V.ref b, V.int n.n].set 1 (.int ((n.n : Int) + 1)))) b = some (.lst (cells.map V.int)) := by rw [upd_ne nba]; exact hB
  have hO1 : ∀ c, c ≠ a → upd H a (.lst ([V.ref b, V.int n.n].set 1 (.int ((n.n : Int) + 1)))) c = H c := fun c hc => upd_ne hc
  generalize upd H a (.lst ([V.ref b, V.int n.n].set 1 (.int ((n.n : Int) + 1)))) = H1 at hA1 hB1 hO1
  have hO2 : ∀ c o, c ≠ a → H c = some o → H1 c = some o := fun c o hc e => (hO1 c hc).trans e
  have hA2 := hA1
  have hB2 := hB1
  have cdiv : ∀ c : Int, CDivW c lim := fun c => wide_div (b := 64) (by omega) (by omega) (by decide) (by decide)
  refine ⟨_, rfl, a, _, 1, .int ((n.n : Int) + 1), rfl, rfl, SqL.of hA2, rfl, _, rfl, a, _, 0, .ref b, rfl, rfl, SqL.of hA2, rfl, b, _, rfl, .inl (SqL.of hB2), ?_⟩
  refine ⟨_, _, rfl, _, _, rfl, rfl, ?_⟩
  rw [List.length_map]
  have hpos : (0 : Int) < lim := by omega
  have ends : ∀ z : Int, 0 ≤ z % lim ∧ z % lim < lim := fun z => ⟨Int.emod_nonneg _ (by omega), Int.emod_lt_of_pos _ hpos⟩
  obtain ⟨m, hm⟩ : ∃ m, ((n.n : Int) + 1) % (if (cells.length : Int) > 1 then (cells.length : Int) else 1) = m := ⟨_, rfl⟩
  obtain ⟨c, hc0, hcat, hcw⟩ : ∃ c : Int, 0 ≤ c ∧ atI ((cells ++ [0]).map V.int) m = some (.int c) ∧ (10 ^ 18 ≤ c → ∃ j : Nat, j < cells.length ∧ m = j) := by
    by_cases hne : cells = []
    · subst hne
      have : m = 0 := by rw [← hm]; show ((n.n : Int) + 1) % 1 = 0; omega
      subst this
      exact ⟨0, Int.le_refl 0, rfl, fun q => absurd q (by decide)⟩
    · have hlen : 0 < cells.length := List.length_pos_iff.mpr hne
      have m0 : 0 ≤ m := by rw [← hm]; exact Int.emod_nonneg _ (by split <;> omega)
      have m1 : m < cells.length := by
        rw [← hm]
        by_cases q : (cells.length : Int) > 1
        · rw [if_pos q]; exact Int.emod_lt_of_pos _ (by omega)
        · rw [if_neg q]; have := Int.emod_lt_of_pos ((n.n : Int) + 1) (show (0 : Int) < 1 by decide); omega
      obtain ⟨j, rfl⟩ : ∃ j : Nat, m = (j : Int) := ⟨m.toNat, by omega⟩
      have hjl : j < cells.length := by omega
      refine ⟨cells[j], hc2 _ (List.getElem_mem _), atI_nat ?_, fun _ => ⟨j, hjl, rfl⟩⟩
      rw [List.getElem?_map, List.getElem?_append_left hjl, List.getElem?_eq_getElem hjl]
      rfl
  refine ⟨by split <;> omega, ?_⟩
  subst hm
  refine ⟨_, rfl, a, _, 0, .ref b, rfl, rfl, SqL.of hA2, rfl, by show 1 ≤ sizeLine; decide, fun p hp => ?_⟩
  have pb : b ≠ p := fun q => by rw [← q, hB2] at hp; cases hp
  have pa' : a ≠ p := fun q => by rw [← q, hA2] at hp; cases hp
  refine ⟨b, p, _, [V.int 0], rfl, rfl, by rw [upd_ne pb]; exact hB2, upd_same, by rw [List.length_map]; exact Nat.le_trans (show cells.length + 1 ≤ 1000 by omega) (by decide), fun q hq => ?_⟩
  have qp : p ≠ q := fun e => by rw [← e, upd_same] at hq; cases hq
  have hq1 : H1 q = none := by rw [upd_ne (Ne.symm qp)] at hq; exact hq
  have qb : b ≠ q := fun e => by rw [← e, hB2] at hq1; cases hq1
  have qa : a ≠ q := fun e => by rw [← e, hA2] at hq1; cases hq1
  have hQ3 : upd (upd H1 p (.lst [V.int 0])) q (.lst (cells.map V.int ++ [V.int 0])) q = some (.lst ((cells ++ [0]).map V.int)) := by rw [upd_same, List.map_append]; rfl
  have hA3 : upd (upd H1 p (.lst [V.int 0])) q (.lst (cells.map V.int ++ [V.int 0])) a = some (.lst [.ref b, .int ((n.n : Int) + 1)]) := by rw [upd_ne qa, upd_ne pa']; exact hA2
  have hB3 : upd (upd H1 p (.lst [V.int 0])) q (.lst (cells.map V.int ++ [V.int 0])) b = some (.lst (cells.map V.int)) := by rw [upd_ne qb, upd_ne pb]; exact hB2
  have hO3 : ∀ c o, c ≠ a → c ≠ b → H c = some o → upd (upd H1 p (.lst [V.int 0])) q (.lst (cells.map V.int ++ [V.int 0])) c = some o := fun c o ca cb e => by
    have e1 := hO2 c o ca e
    rw [upd_ne (fun z => by rw [← z, e1] at hq1; cases hq1), upd_ne (fun z => by rw [← z, e1] at hp; cases hp)]
    exact e1
  generalize upd (upd H1 p (.lst [V.int 0])) q (.lst (cells.map V.int ++ [V.int 0])) = H3 at hQ3 hA3 hB3 hO3
  refine ⟨_, rfl, q, _, _, .int c, rfl, rfl, SqL.of hQ3, hcat, ?_⟩
  have last : (c % 2147483563 + 104729 * ((n.n : Int) + 1) + 7).natAbs < 2 ^ 64 := by
    have h1 : 0 ≤ c % 2147483563 := Int.emod_nonneg _ (by decide)
    have h2 : c % 2147483563 < 2147483563 := Int.emod_lt_of_pos _ (by decide)
    omega
  refine ⟨_, rfl, 10, 18, rfl, rfl, ⟨by decide, by decide, by decide⟩, c, _, rfl, rfl, _, rfl, ?_⟩
  refine ite2 (fun hbig => ?_) fun _ => ?_
  · obtain ⟨j, hjl, hj⟩ := hcw (by simpa using hbig)
    refine ⟨_, rfl, _, rfl, c, lim, rfl, rfl, cdiv c, _, rfl, a, _, 0, .ref b, rfl, rfl, SqL.of hA3, rfl, _, rfl, b, _, _, j, rfl, rfl, hB3, ?_, ?_⟩
    · show ixN _ (((n.n : Int) + 1) % (if (cells.length : Int) > 1 then (cells.length : Int) else 1)) = some j
      rw [List.length_map, hj]
      unfold ixN
      rw [if_pos (by omega), if_pos (by omega)]
      rfl
    · refine ⟨_, rfl, _, rfl, c, lim, rfl, rfl, hpos, ?_⟩
      refine fin _ (cells.set j (c / lim)) _ (by rw [upd_ne (Ne.symm nba)]; exact hA3) (by rw [upd_same, List.map_set]) (by rw [List.length_set]; exact hc1) (fun d hd => ?_) (fun d o q1 q2 e => by rw [upd_ne q2]; exact hO3 d o q1 q2 e) (ends _).1 (ends _).2
      rcases List.mem_or_eq_of_mem_set hd with q | q
      · exact hc2 d q
      · rw [q]; exact Int.ediv_nonneg hc0 (by omega)
  · refine ⟨_, rfl, c, 2147483563, rfl, rfl, (by decide : (0 : Int) < 2147483563), _, rfl, a, _, 1, .int ((n.n : Int) + 1), rfl, rfl, SqL.of hA3, rfl, 104729, _, rfl, rfl, .inl ⟨by decide, by decide⟩, _, _, rfl, rfl, _, 7, rfl, rfl, _, 4, rfl, rfl, ⟨by decide, by decide, last⟩,
      _, 2147483629, rfl, rfl, (by decide : (0 : Int) < 2147483629), ?_⟩
    refine ⟨_, rfl, _, 8, rfl, rfl, wide_div (b := 64) (by decide) (by decide) (by decide) (by decide), _, rfl, a, _, 1, .int ((n.n : Int) + 1), rfl, rfl, SqL.of hA3, rfl, 31, _, rfl, rfl, .inl ⟨by decide, by decide⟩, _, _, rfl, rfl, _, rfl, _, lim, rfl, rfl, hpos, ?_⟩
    exact fin H3 cells _ hA3 hB3 hc1 hc2 hO3 (ends _).1 (ends _).2
abbrev s_BadShelf_init : Stmt := inCls (topS 4) 0
theorem sc_BadShelf_init : FnScope ["self", "value"] ["self", "value"] (defScope s_BadShelf_init) := ⟨rfl, rfl, rfl, by decide +kernel, rfl, by decide +kernel, by decide +kernel⟩
theorem ok_BadShelf_init {f : Addr} {fd : FuncData} (F : Fun K "__init__" "BadShelf.__init__" s_BadShelf_init f fd) (T : OexC K C.BadShelf) (B : Bn K mg C) : FnOk P w K mg base CX0 1 f fd ["self", "value"] (spEI C.BadShelf "value") := by
  refine F.ok sc_BadShelf_init (fun vs H Q E ⟨a, v, e, _⟩ => by rw [e]; rfl) fun cdv A outer s H vs Q E hr ⟨a, v, e, hH, hQ⟩ => ⟨_, pss_one (ps_ost (pv 0) (pv 1)), ?_⟩
  subst e
  exact ⟨_, rfl, _, rfl, a, C.BadShelf, rfl, T, B.n_BadShelf, .inl ⟨hH, fun dx h1 h2 => hQ dx h1 h2⟩⟩
abbrev c__law_draw : DSpec := drawA
def c__law_sizes : DSpec := fun as n R => ∃ most : Int, as = [.deck false, .dat (.int most)] ∧ 0 ≤ most ∧ most ≤ 100 ∧ n.n ≤ 500000 ∧ ∀ (S : List Int) n', In1 (10 ^ 6) S → (S.length : Int) ≤ most → n' ≤ n + 300 → R (clnD S) n'
def c_is_tuple : DSpec := fun as n R => ∃ d : PyData, ∃ a b : Int, as = [.dat d, .dat (.int a), .dat (.int b)] ∧ isRefD d = false ∧ R (.bool (tupB d a b)) n
def c_is_number : DSpec := fun as n R => ∃ d : PyData, as = [.dat d] ∧ isRefD d = false ∧ R (.bool (numB d)) n
def c_is_number_from : DSpec := fun as n R => ∃ d : PyData, ∃ a b : Int, as = [.dat d, .dat (.int a), .dat (.int b)] ∧ isRefD d = false ∧ R (.bool (numIn d a b)) n
def c_is_size : DSpec := fun as n R => ∃ d : PyData, as = [.dat d] ∧ isRefD d = false ∧ R (.bool (szD d)) n
def c__is_tuple_of_sizes : DSpec := fun as n R => ∃ d : PyData, as = [.dat d] ∧ NrA d ∧ R (.bool (shB d)) n
def c_Shelf___init__ (C : CA) : DSpecX := fun as n R E => ∃ (a : Addr) (d : PyData), as = [.dat (refD a), .dat d] ∧ NrA d ∧ n.ob a = some ⟨C.Shelf, []⟩ ∧ (shB d = false → E ⟨C.BadShelf, [("value", d)]⟩ n) ∧ (∀ S : List Int, d = .tuple (S.map .int) → In1 (10 ^ 6) S → S.length ≤ 100 → R .none (n.put a ⟨C.Shelf, shC (srt S)⟩))
theorem len_Shelf___init__ {C : CA} (as : List Dv) (n : Wo) (R : PyData → Wo → Prop) (E : Ex → Wo → Prop) (h : c_Shelf___init__ C as n R E) : as.length = 2 := by
  obtain ⟨a, d, rfl, _⟩ := h
  rfl
def c__law_mixed : DSpec := fun as n R => ∃ S : List Int, as = [.deck false, .dat (clnD S)] ∧ S.length ≤ 100 ∧ n.n ≤ 800000 ∧ ∀ (T : List Int) n', T.Perm S → n' ≤ n + 100 → R (clnD T) n'
def c__law_rows : DSpec := fun as n R => ∃ S : List Int, as = [.deck false, .dat (clnD S)] ∧ In1 (10 ^ 6) S ∧ S.length ≤ 40 ∧ n.n ≤ 400000 ∧ ∀ (Rs : List (List Int)) n', (∀ A ∈ Rs, In1 (10 ^ 6) A ∧ A.length ≤ 100) → Rs.length ≤ 10 → n' ≤ n + 500 → R (.list (Rs.map clnD)) n'
def c_Shelf___str__ (C : CA) : DSpecX := fun as n R E => ∃ (a : Addr) (S : List Int), as = [.dat (refD a)] ∧ S.length ≤ 100 ∧ In1 (10 ^ 6) S ∧ n.ob a = some ⟨C.Shelf, shC S⟩ ∧ R (.str (txt8 S)) n
def c__law_odd : DSpec := fun as n R => as = [.deck false] ∧ n.n ≤ 900000 ∧ ∀ d : PyData, GV 500 4 d → R d (n + 1)
def c__law_text : DSpec := fun as n R => ∃ S : List Int, as = [.dat (.tuple (S.map .int))] ∧ In1 (10 ^ 6) S ∧ S.length ≤ 100 ∧ R (.str (txt8 (srt S))) n
def c__first_missing : DSpec := fun as n R => ∃ S T : List Int, as = [.dat (clnD S), .dat (clnD T)] ∧ R (missD S T) n
def c_Shelf___contains__ (C : CA) : DSpecX := fun as n R E => ∃ (a : Addr) (S : List Int), n.ob a = some ⟨C.Shelf, shC S⟩ ∧ ((∃ (b : Addr) (T : List Int), as = [.dat (refD a), .dat (refD b)] ∧ n.ob b = some ⟨C.Shelf, shC T⟩ ∧ R (.bool (missZ S T).isNone) n) ∨ ∃ d : PyData, as = [.dat (refD a), .dat d] ∧ isRefD d = false ∧ R (.bool false) n)
def c_Shelf___eq__ (C : CA) : DSpecX := fun as n R E => ∃ (a : Addr) (S : List Int), n.ob a = some ⟨C.Shelf, shC S⟩ ∧ ((∃ (b : Addr) (T : List Int), as = [.dat (refD a), .dat (refD b)] ∧ n.ob b = some ⟨C.Shelf, shC T⟩ ∧ R (.bool (decide (S = T))) n) ∨ ∃ d : PyData, as = [.dat (refD a), .dat d] ∧ isRefD d = false ∧ R (.bool false) n)
def c__law_more : DSpec := fun as n R => ∃ A O : List Int, as = [.dat (clnD A), .dat (clnD O)] ∧ R (missD (srt O) (srt A)) n
abbrev s__law_sizes : Stmt := topS 20
abbrev N__law_sizes : List Str := ["deck", "most", "wide", "found", "k"]
theorem sc__law_sizes : FnScope N__law_sizes ["deck", "most"] (defScope s__law_sizes) := ⟨rfl, rfl, rfl, by decide +kernel, rfl, by decide +kernel, by decide +kernel⟩
theorem fn__law_sizes {f : Addr} {fd : FuncData} (F : Fun K "_law_sizes" "_law_sizes" s__law_sizes f fd) (B : Bn K mg C) (H__law_draw : Has P w K mg base "_law_draw" 1 ["deck", "bound"] c__law_draw) : FnG P w K mg base 2 f fd ["deck", "most"] (spD K 2 c__law_sizes) := by
  refine fnd (k := 1) c__law_sizes F sc__law_sizes fun cdv A outer s H hgd0 hr Y => ?_
  have hu := hr.units
  have hu1 : (A.deeper (envOfC "_law_sizes" (defScope s__law_sizes) s.heap.objs.size f cdv)).units + 65 < cLine := by have := hr.un; omega
  have hu0 : (A.deeper (envOfC "_law_sizes" (defScope s__law_sizes) s.heap.objs.size f cdv)).units + 1 < cLine := by have := hr.un; omega
  have hgd : (A.deeper (envOfC "_law_sizes" (defScope s__law_sizes) s.heap.objs.size f cdv)).guards = some [] := hgd0
  refine ⟨_, (dss_cons (ds_set (i := 2) sc__law_sizes.nd rfl (Or.inl rfl) (xe_d (we_ix (we_ofM (me_lst (wa_cons we_int (wa_cons we_int (wa_cons (we_bin op_pow bi_I we_int we_int) wa_nil))))) (we_has H__law_draw hgd (hr.mono (by decide)) (by rfl) (wa_cons (we_var 0) (wa_cons we_int wa_nil))) (fun _ _ => rfl)))) (dss_cons (ds_set (i := 3) sc__law_sizes.nd rfl (Or.inl rfl) (xe_m (me_lst wa_nil))) (dss_cons (ds_for PassesOwn.never rfl (di_range1 (by rfl) B.range (wa_cons (we_has H__law_draw hgd (hr.mono (by decide)) (by rfl) (wa_cons (we_var 0) (wa_cons (we_bin or_addA bi_add (we_var 1) we_int) wa_nil))) wa_nil)) ⟨(pg_name (i := 4) sc__law_sizes.nd rfl (Or.inl rfl)), gok_name⟩ (dss_one (ds_append (pv 3) (we_ix (we_ofM (me_lst (wa_cons (we_bin or_addA bi_add we_int (we_has H__law_draw hgd (hr.mono (by decide)) (by rfl) (wa_cons (we_var 0) (wa_cons (we_var 2) wa_nil)))) (wa_cons (we_bin op_pow bi_I we_int we_int) wa_nil)))) (we_callTy call_int1 ck_int (by rfl) B.int PyProof.Rows.boot_int (wa_cons (we_cmp (or_eqA hu) bi_eqA (we_has H__law_draw hgd (hr.mono (by decide)) (by rfl) (wa_cons (we_var 0) (wa_cons we_int wa_nil))) we_int (nomark _)) wa_nil)) (fun _ _ => rfl))))) (dss_one (ds_ret (we_callTy call_tupC ck_tupC (by rfl) B.tuple PyProof.Rows.boot_tuple (wa_cons (we_var 3) wa_nil))))))), fun as n R hl hc => ?_⟩
  obtain ⟨most, rfl, m0, m1, hn, hR⟩ := hc
  refine ⟨⟨by decide, by decide, by decide⟩, by show 3 ≤ sizeLine; decide, _, rfl, rfl, 3, rfl, by decide, by decide, by omega, fun r r0 r1 => ?_⟩
  obtain ⟨w, hw, hw2⟩ := pick3 (a := .int 3) (b := .int 30) (c := .int (10 ^ (6 : Int).toNat)) (r := r) r0 r1
  obtain ⟨wd, rfl, w0, w1⟩ : ∃ wd : Int, w = .int wd ∧ 1 ≤ wd ∧ wd ≤ 1000000 := by
    rcases hw2 with rfl | rfl | rfl
    · exact ⟨_, rfl, by decide, by decide⟩
    · exact ⟨_, rfl, by decide, by decide⟩
    · exact ⟨_, rfl, by decide, by decide⟩
  refine ⟨r, _, rfl, hw, Nat.zero_le _, ?_⟩
  refine ⟨_, rfl, _, rfl, rfl, most + 1, rfl, by omega, by omega, by show n.n + 1 ≤ _; omega, fun q q0 q1 => ?_⟩
  refine ⟨q, rfl, by omega, by omega, ?_⟩
  have hrl : (rngD 0 q.toNat).length ≤ 100 := by rw [rngD_length]; omega
  refine forR_inv (fun k ρ n2 => n2 ≤ n + (2 + 2 * k) ∧ ∃ S : List Int, S.length = k ∧ In1 (10 ^ 6) S ∧ ∃ b4, ρ = [some (.deck false), some (.dat (.int most)), some (.dat (.int wd)), some (.mt (S.map .int)), b4]) ⟨⟨Nat.le_refl _, rfl, rfl⟩, [], rfl, fun _ h => (nomatch h), _, rfl⟩ ?_ ?_
  · rintro k y ρ n2 hy ⟨hn2, S, hS, hI, b4, rfl⟩
    obtain ⟨rfl, _⟩ := rngD_mem hy
    have hk : k < 100 := Nat.lt_of_lt_of_le (List.getElem?_eq_some_iff.mp hy).1 hrl
    have hn2' : n2.n ≤ n.n + (2 + 2 * k) := hn2.1
    refine ⟨_, rfl, _, rfl, _, rfl, rfl, wd, rfl, w0, by omega, by omega, fun v v0 v1 => ?_⟩
    refine ⟨⟨by decide, by decide, by decide⟩, by show 2 ≤ sizeLine; decide, _, rfl, rfl, 9, rfl, by decide, by decide, by show n2.n + 1 ≤ _; omega, fun u u0 u1 => ?_⟩
    refine ⟨rfl, rfl, sh_int _, sh_int _, ?_⟩
    obtain ⟨d, hd, hd2⟩ := pick2 (a := .int (1 + v)) (b := .int (10 ^ (6 : Int).toNat)) (r := if PyData.eqv (.int u) (.int 0) then 1 else 0) (by split <;> omega) (by split <;> omega)
    obtain ⟨z, rfl, z0, z1⟩ : ∃ z : Int, d = .int z ∧ 1 ≤ z ∧ z ≤ 10 ^ 6 := by
      rcases hd2 with rfl | rfl
      · exact ⟨_, rfl, by omega, by omega⟩
      · exact ⟨_, rfl, by decide, by decide⟩
    refine ⟨_, _, rfl, hd, small1000 (by rw [List.length_map]; omega), ⟨by show n2.n + 1 + 1 ≤ n.n + _; omega, hn2.2.1, hn2.2.2⟩, S ++ [z], by rw [List.length_append, hS]; rfl, fun x hx => ?_, _, by rw [List.map_append]; rfl⟩
    rcases List.mem_append.mp hx with h | h
    · exact hI x h
    · rw [List.mem_singleton.mp h]; exact ⟨z0, z1⟩
  · rintro ρ n2 ⟨hn2, S, hS, hI, b4, rfl⟩
    refine ⟨_, rfl, _, S, rfl, rfl, ?_⟩
    refine hR S _ hI (by rw [rngD_length] at hS; omega) (Wo.le' hn2 (by omega))
abbrev s_is_tuple : Stmt := topS 12
abbrev N_is_tuple : List Str := ["value", "least", "most"]
theorem sc_is_tuple : FnScope N_is_tuple ["value", "least", "most"] (defScope s_is_tuple) := ⟨rfl, rfl, rfl, by decide +kernel, rfl, by decide +kernel, by decide +kernel⟩
theorem fn_is_tuple {f : Addr} {fd : FuncData} (F : Fun K "is_tuple" "is_tuple" s_is_tuple f fd) (B : Bn K mg C) : FnG P w K mg base 1 f fd ["value", "least", "most"] (spD K 3 c_is_tuple) := by
  refine fnd (k := 0) c_is_tuple F sc_is_tuple fun cdv A outer s H hgd0 hr Y => ?_
  have hu := hr.units
  have hu1 : (A.deeper (envOfC "is_tuple" (defScope s_is_tuple) s.heap.objs.size f cdv)).units + 65 < cLine := by have := hr.un; omega
  have hu0 : (A.deeper (envOfC "is_tuple" (defScope s_is_tuple) s.heap.objs.size f cdv)).units + 1 < cLine := by have := hr.un; omega
  have hgd : (A.deeper (envOfC "is_tuple" (defScope s_is_tuple) s.heap.objs.size f cdv)).guards = some [] := hgd0
  refine ⟨_, (dss_one (ds_ret (we_and (we_isi (.inr (.inr (.inr (.inl rfl)))) (by rfl) B.isinstance (we_var 0) (by rfl) B.tuple PyProof.Rows.boot_tuple) (we_one (we_chain op_le op_le bi_B0 bi_B0 (we_var 1) (we_callB call_len_seq ck_len (by rfl) B.len PySem.boot_len (wa_cons (we_var 0) wa_nil)) (we_var 2)))))), fun as n R hl hc => ?_⟩
  obtain ⟨d, a, b, rfl, hnr, hR⟩ := hc
  cases d with
  | tuple ds =>
    refine ⟨_, rfl, rfl, asB_T (isi_tt _) (iteT ?_)⟩
    refine ⟨_, rfl, _, rfl, _, _, rfl, rfl, _, rfl, ?_⟩
    have hR : R (.bool (decide (a ≤ ds.length) && decide ((ds.length : Int) ≤ b))) n := hR
    by_cases h : a ≤ (ds.length : Int)
    · rw [decide_eq_true h, Bool.true_and] at hR
      exact iteD h ⟨_, rfl, hR⟩
    · rw [decide_eq_false h, Bool.false_and] at hR
      exact ifF (decide_eq_false h) hR
  | int z => exact ⟨_, rfl, rfl, asB_F (show isiB "int" "tuple" = false by decide +kernel) hR⟩
  | bool z => exact ⟨_, rfl, rfl, asB_F (show isiB "bool" "tuple" = false by decide +kernel) hR⟩
  | none => exact ⟨_, rfl, rfl, asB_F (show isiB "NoneType" "tuple" = false by decide +kernel) hR⟩
  | str s => exact ⟨_, rfl, rfl, asB_F (show isiB "str" "tuple" = false by decide +kernel) hR⟩
  | list ds => exact ⟨_, rfl, rfl, asB_F (show isiB "list" "tuple" = false by decide +kernel) hR⟩
  | dict kvs => exact ⟨_, rfl, isDR_dat hnr, asB_F (show isiB "dict" "tuple" = false by decide +kernel) hR⟩
abbrev s_is_number : Stmt := topS 9
abbrev N_is_number : List Str := ["value"]
theorem sc_is_number : FnScope N_is_number ["value"] (defScope s_is_number) := ⟨rfl, rfl, rfl, by decide +kernel, rfl, by decide +kernel, by decide +kernel⟩
theorem fn_is_number {f : Addr} {fd : FuncData} (F : Fun K "is_number" "is_number" s_is_number f fd) (B : Bn K mg C) : FnG P w K mg base 1 f fd ["value"] (spD K 1 c_is_number) := by
  refine fnd (k := 0) c_is_number F sc_is_number fun cdv A outer s H hgd0 hr Y => ?_
  have hu := hr.units
  have hu1 : (A.deeper (envOfC "is_number" (defScope s_is_number) s.heap.objs.size f cdv)).units + 65 < cLine := by have := hr.un; omega
  have hu0 : (A.deeper (envOfC "is_number" (defScope s_is_number) s.heap.objs.size f cdv)).units + 1 < cLine := by have := hr.un; omega
  have hgd : (A.deeper (envOfC "is_number" (defScope s_is_number) s.heap.objs.size f cdv)).guards = some [] := hgd0
  refine ⟨_, (dss_one (ds_ret (we_and (we_isi (.inl rfl) (by rfl) B.isinstance (we_var 0) (by rfl) B.int PyProof.Rows.boot_int) (we_one (we_not (we_isi (.inr (.inl rfl)) (by rfl) B.isinstance (we_var 0) (by rfl) B.bool PyProof.Rows.boot_bool)))))), fun as n R hl hc => ?_⟩
  obtain ⟨d, rfl, hnr, hR⟩ := hc
  cases d with
  | int z => exact ⟨_, rfl, rfl, asB_T (isi_ii z) (iteT ⟨_, rfl, rfl, asB_F (isi_ib z) hR⟩)⟩
  | bool b => exact ⟨_, rfl, rfl, asB_T (isi_bi b) (iteT ⟨_, rfl, rfl, asB_T (isi_bb b) hR⟩)⟩
  | none => exact ⟨_, rfl, rfl, asB_F (show isiB "NoneType" "int" = false by decide +kernel) hR⟩
  | str s => exact ⟨_, rfl, rfl, asB_F (show isiB "str" "int" = false by decide +kernel) hR⟩
  | list ds => exact ⟨_, rfl, rfl, asB_F (show isiB "list" "int" = false by decide +kernel) hR⟩
  | tuple ds => exact ⟨_, rfl, rfl, asB_F (show isiB "tuple" "int" = false by decide +kernel) hR⟩
  | dict kvs => exact ⟨_, rfl, isDR_dat hnr, asB_F (show isiB "dict" "int" = false by decide +kernel) hR⟩
abbrev s_is_number_from : Stmt := topS 10
abbrev N_is_number_from : List Str := ["value", "low", "high"]
theorem sc_is_number_from : FnScope N_is_number_from ["value", "low", "high"] (defScope s_is_number_from) := ⟨rfl, rfl, rfl, by decide +kernel, rfl, by decide +kernel, by decide +kernel⟩
theorem fn_is_number_from {f : Addr} {fd : FuncData} (F : Fun K "is_number_from" "is_number_from" s_is_number_from f fd) (B : Bn K mg C) (H_is_number : Has P w K mg base "is_number" 1 ["value"] c_is_number) : FnG P w K mg base 2 f fd ["value", "low", "high"] (spD K 3 c_is_number_from) := by
  refine fnd (k := 1) c_is_number_from F sc_is_number_from fun cdv A outer s H hgd0 hr Y => ?_
  have hu := hr.units
  have hu1 : (A.deeper (envOfC "is_number_from" (defScope s_is_number_from) s.heap.objs.size f cdv)).units + 65 < cLine := by have := hr.un; omega
  have hu0 : (A.deeper (envOfC "is_number_from" (defScope s_is_number_from) s.heap.objs.size f cdv)).units + 1 < cLine := by have := hr.un; omega
  have hgd : (A.deeper (envOfC "is_number_from" (defScope s_is_number_from) s.heap.objs.size f cdv)).guards = some [] := hgd0
  refine ⟨_, (dss_one (ds_ret (we_and (we_has H_is_number hgd (hr.mono (by decide)) (by rfl) (wa_cons (we_var 0) wa_nil)) (we_one (we_chain op_le op_le bi_B0 bi_B0 (we_var 1) (we_var 0) (we_var 2)))))), fun as n R hl hc => ?_⟩
  obtain ⟨d, a, b, rfl, hnr, hR⟩ := hc
  refine ⟨_, rfl, rfl, d, rfl, hnr, ?_⟩
  cases d with
  | int z =>
    have hR : R (.bool (decide (a ≤ z) && decide (z ≤ b))) n := hR
    refine asB_T (c := true) rfl (iteT ⟨_, rfl, _, rfl, _, rfl, ?_⟩)
    by_cases h : a ≤ z
    · rw [decide_eq_true h, Bool.true_and] at hR
      exact iteD h ⟨_, rfl, hR⟩
    · rw [decide_eq_false h, Bool.false_and] at hR
      exact ifF (decide_eq_false h) hR
  | bool z => exact asB_F (c := false) rfl hR
  | none => exact asB_F (c := false) rfl hR
  | str s => exact asB_F (c := false) rfl hR
  | list ds => exact asB_F (c := false) rfl hR
  | tuple ds => exact asB_F (c := false) rfl hR
  | dict kvs => exact asB_F (c := false) rfl hR
abbrev s_is_size : Stmt := topS 11
abbrev N_is_size : List Str := ["value"]
theorem sc_is_size : FnScope N_is_size ["value"] (defScope s_is_size) := ⟨rfl, rfl, rfl, by decide +kernel, rfl, by decide +kernel, by decide +kernel⟩
theorem fn_is_size {f : Addr} {fd : FuncData} (F : Fun K "is_size" "is_size" s_is_size f fd) (B : Bn K mg C) (H_is_number_from : Has P w K mg base "is_number_from" 2 ["value", "low", "high"] c_is_number_from) : FnG P w K mg base 3 f fd ["value"] (spD K 1 c_is_size) := by
  refine fnd (k := 2) c_is_size F sc_is_size fun cdv A outer s H hgd0 hr Y => ?_
  have hu := hr.units
  have hu1 : (A.deeper (envOfC "is_size" (defScope s_is_size) s.heap.objs.size f cdv)).units + 65 < cLine := by have := hr.un; omega
  have hu0 : (A.deeper (envOfC "is_size" (defScope s_is_size) s.heap.objs.size f cdv)).units + 1 < cLine := by have := hr.un; omega
  have hgd : (A.deeper (envOfC "is_size" (defScope s_is_size) s.heap.objs.size f cdv)).guards = some [] := hgd0
  refine ⟨_, (dss_one (ds_ret (we_has H_is_number_from hgd (hr.mono (by decide)) (by rfl) (wa_cons (we_var 0) (wa_cons we_int (wa_cons (we_gint (by rfl) B.MAX_SIZE.choose_spec) wa_nil)))))), fun as n R hl hc => ?_⟩
  obtain ⟨d, rfl, hnr, hR⟩ := hc
  exact ⟨_, rfl, rfl, d, 1, 1000000, rfl, hnr, hR⟩
abbrev s__is_tuple_of_sizes : Stmt := topS 14
abbrev N__is_tuple_of_sizes : List Str := ["value", "size"]
theorem sc__is_tuple_of_sizes : FnScope N__is_tuple_of_sizes ["value"] (defScope s__is_tuple_of_sizes) := ⟨rfl, rfl, rfl, by decide +kernel, rfl, by decide +kernel, by decide +kernel⟩
theorem fn__is_tuple_of_sizes {f : Addr} {fd : FuncData} (F : Fun K "_is_tuple_of_sizes" "_is_tuple_of_sizes" s__is_tuple_of_sizes f fd) (B : Bn K mg C) (H_is_tuple : Has P w K mg base "is_tuple" 1 ["value", "least", "most"] c_is_tuple) (H_is_size : Has P w K mg base "is_size" 3 ["value"] c_is_size) : FnG P w K mg base 4 f fd ["value"] (spD K 1 c__is_tuple_of_sizes) := by
  refine fnd (k := 3) c__is_tuple_of_sizes F sc__is_tuple_of_sizes fun cdv A outer s H hgd0 hr Y => ?_
  have hu := hr.units
  have hu1 : (A.deeper (envOfC "_is_tuple_of_sizes" (defScope s__is_tuple_of_sizes) s.heap.objs.size f cdv)).units + 65 < cLine := by have := hr.un; omega
  have hu0 : (A.deeper (envOfC "_is_tuple_of_sizes" (defScope s__is_tuple_of_sizes) s.heap.objs.size f cdv)).units + 1 < cLine := by have := hr.un; omega
  have hgd : (A.deeper (envOfC "_is_tuple_of_sizes" (defScope s__is_tuple_of_sizes) s.heap.objs.size f cdv)).guards = some [] := hgd0
  refine ⟨_, (dss_one (ds_ret (we_and (we_has H_is_tuple hgd (hr.mono (by decide)) (by rfl) (wa_cons (we_var 0) (wa_cons we_int (wa_cons (we_gint (by rfl) B.MAX_SHELF.choose_spec) wa_nil)))) (we_one (we_callB (cr_all rfl) ck_all (by rfl) B.all PyProof.Rows.boot_all (wa_cons (we_ofM (me_compV (own := [("size", 1)]) rfl sc__is_tuple_of_sizes.nd (di_seqV (we_var 0)) (blkOk_by (N := N__is_tuple_of_sizes) (sc := defScope s__is_tuple_of_sizes) (by decide +kernel)) gok_name (fun _ _ _ _ _ => (pg_name (i := 1) sc__is_tuple_of_sizes.nd rfl (Or.inl rfl))) (fun _ _ _ _ _ => wts_nil) (fun _ _ _ _ _ => (we_has H_is_size hgd (hr.mono (by decide)) (by rfl) (wa_cons (we_var 1) wa_nil))) (by decide))) wa_nil)))))), fun as n R hl hc => ?_⟩
  obtain ⟨d, rfl, hn, hR⟩ := hc
  refine ⟨_, rfl, rfl, d, 0, 100, rfl, hn.nr, ?_⟩
  cases ht : tupB d 0 100 with
  | false =>
    rw [shB_no ht] at hR
    exact asB_F rfl hR
  | true =>
    obtain ⟨ds, rfl, _, h2⟩ := tupB_true ht
    refine asB_T rfl ?_
    refine ⟨_, rfl, ds, rfl, ?_⟩
    rw [shB_eq h2] at hR
    rw [← List.map_id ds]
    refine compR_m ds id (fun d => .bool (szD d)) (small1000 (by omega)) (fun x hx acc KK ha hK => ?_) ?_
    · exact ⟨_, rfl, rfl, x, rfl, (hn.of_tup x hx).nr, ha, hK⟩
    · refine ⟨_, ds.map szD, rfl, by show PyData.list (ds.map fun d => .bool (szD d)) = _; rw [List.map_map]; rfl, ?_⟩
      rw [all_map]
      exact hR
abbrev s_Shelf___init__ : Stmt := inCls (topS 16) 0
abbrev N_Shelf___init__ : List Str := ["self", "sizes"]
theorem sc_Shelf___init__ : FnScope N_Shelf___init__ ["self", "sizes"] (defScope s_Shelf___init__) := ⟨rfl, rfl, rfl, by decide +kernel, rfl, by decide +kernel, by decide +kernel⟩
theorem fn_Shelf___init__ {f : Addr} {fd : FuncData} (F : Fun K "__init__" "Shelf.__init__" s_Shelf___init__ f fd) (B : Bn K mg C) (H__is_tuple_of_sizes : Has P w K mg base "_is_tuple_of_sizes" 4 ["value"] c__is_tuple_of_sizes) (H_BadShelf : ErrC P w K mg base "BadShelf" C.BadShelf "value") : FnGX P w K mg base 5 f fd ["self", "sizes"] (spDX K 2 (c_Shelf___init__ C)) := by
  refine fndX (k := 4) (c_Shelf___init__ C) F sc_Shelf___init__ fun cdv A outer s H Eh hgd0 hr Y E ok tk => ?_
  have hu := hr.units
  have hu1 : (A.deeper (envOfC "Shelf.__init__" (defScope s_Shelf___init__) s.heap.objs.size f cdv)).units + 65 < cLine := by have := hr.un; omega
  have hu0 : (A.deeper (envOfC "Shelf.__init__" (defScope s_Shelf___init__) s.heap.objs.size f cdv)).units + 1 < cLine := by have := hr.un; omega
  have hgd : (A.deeper (envOfC "Shelf.__init__" (defScope s_Shelf___init__) s.heap.objs.size f cdv)).guards = some [] := hgd0
  refine ⟨_, (dss_cons (ds_if (wt_not (wt_val (we_has H__is_tuple_of_sizes hgd (hr.mono (by decide)) (by rfl) (wa_cons (we_var 1) wa_nil)))) (dss_one (ds_raise rfl tk ok H_BadShelf (hr.mono (by decide)) (by rfl) (we_var 1))) dss_nil) (dss_one (ds_fld (we_var 0) (we_callTy call_tupC ck_tupC (by rfl) B.tuple PyProof.Rows.boot_tuple (wa_cons (we_ofM (me_callB cr_sortIT ck_sortIT (by rfl) B.sorted PyProof.Rows.boot_sorted (wa_cons (we_var 1) wa_nil))) wa_nil))))), fun as n R hl hc => ?_⟩
  obtain ⟨a, d, rfl, hn, hob, hE, hR⟩ := hc
  refine ⟨_, rfl, rfl, d, rfl, hn, _, rfl, ?_⟩
  cases hs : shB d with
  | false => exact ifNF rfl ⟨_, rfl, hE hs⟩
  | true =>
    obtain ⟨S, rfl, hS, hl⟩ := shB_yes hs
    refine ifN rfl ?_
    refine ⟨_, rfl, _, S, rfl, rfl, fun S' hp hs' => ?_⟩
    obtain rfl := srt_uniq hp hs'
    refine ⟨_, _, rfl, rfl, ?_⟩
    exact ⟨_, rfl, a, _, rfl, hob, B.fl_Shelf_sizes, Nat.le_of_ble_eq_true rfl, hR S rfl hS hl⟩
abbrev s__law_mixed : Stmt := topS 21
abbrev N__law_mixed : List Str := ["deck", "items", "left", "found", "k"]
theorem sc__law_mixed : FnScope N__law_mixed ["deck", "items"] (defScope s__law_mixed) := ⟨rfl, rfl, rfl, by decide +kernel, rfl, by decide +kernel, by decide +kernel⟩
theorem fn__law_mixed {f : Addr} {fd : FuncData} (F : Fun K "_law_mixed" "_law_mixed" s__law_mixed f fd) (B : Bn K mg C) (H__law_draw : Has P w K mg base "_law_draw" 1 ["deck", "bound"] c__law_draw) : FnG P w K mg base 2 f fd ["deck", "items"] (spD K 2 c__law_mixed) := by
  refine fnd (k := 1) c__law_mixed F sc__law_mixed fun cdv A outer s H hgd0 hr Y => ?_
  have hu := hr.units
  have hu1 : (A.deeper (envOfC "_law_mixed" (defScope s__law_mixed) s.heap.objs.size f cdv)).units + 65 < cLine := by have := hr.un; omega
  have hu0 : (A.deeper (envOfC "_law_mixed" (defScope s__law_mixed) s.heap.objs.size f cdv)).units + 1 < cLine := by have := hr.un; omega
  have hgd : (A.deeper (envOfC "_law_mixed" (defScope s__law_mixed) s.heap.objs.size f cdv)).guards = some [] := hgd0
  refine ⟨_, (dss_cons (ds_par (i := 2) (j := 3) rfl sc__law_mixed.nd rfl rfl (by decide) rfl rfl (xe_m (me_callTy call_list_of ck_list (by rfl) B.list PyProof.Rows.boot_list (wa_cons (we_unc (we_var 1)) wa_nil))) (xe_m (me_lst wa_nil)) (by rfl)) (dss_cons (ds_for PassesOwn.never rfl (di_range1 (by rfl) B.range (wa_cons (we_callB call_len_seq ck_len (by rfl) B.len PySem.boot_len (wa_cons (we_unc (we_var 1)) wa_nil)) wa_nil)) ⟨(pg_name (i := 4) sc__law_mixed.nd rfl (Or.inl rfl)), gok_name⟩ (dss_one (ds_appPop (i := 3) (j := 2) (by decide) (pv 3) (pv 2) (we_has H__law_draw hgd (hr.mono (by decide)) (by rfl) (wa_cons (we_var 0) (wa_cons (we_callB call_len_seq ck_len (by rfl) B.len PySem.boot_len (wa_cons (we_var 2) wa_nil)) wa_nil)))))) (dss_one (ds_ret (we_callTy call_tupC ck_tupC (by rfl) B.tuple PyProof.Rows.boot_tuple (wa_cons (we_var 3) wa_nil)))))), fun as n R hl hc => ?_⟩
  obtain ⟨S, rfl, hl, hn, hR⟩ := hc
  have el : (S.map PyData.int).length = S.length := List.length_map ..
  refine ⟨_, rfl, S, rfl, _, _, rfl, rfl, Nat.zero_le _, ?_⟩
  refine ⟨_, rfl, S, rfl, _, _, rfl, rfl, (S.length : Nat), by rw [el], by omega, by omega, ?_⟩
  refine forR_inv (fun k ρ n' => n' = n + k ∧ ∃ L G : List Int, G.length = k ∧ (L ++ G).Perm S ∧ ∃ b4, ρ = [some (.deck false), some (.dat (clnD S)), some (.mt (L.map .int)), some (.mt (G.map .int)), b4]) ⟨rfl, S, [], rfl, by rw [List.append_nil], _, rfl⟩ ?_ ?_
  · rintro k y ρ n' hy ⟨rfl, L, G, hG, hp, b4, rfl⟩
    have hk : k < S.length := by have := (List.getElem?_eq_some_iff.mp hy).1; rw [rngD_length] at this; omega
    have hLl : L.length + k = S.length := by rw [← hG, ← List.length_append]; exact hp.length_eq
    have elL : (L.map PyData.int).length = L.length := List.length_map ..
    have hkn : k < S.length := hk
    refine ⟨_, _, rfl, rfl, _, rfl, _, rfl, _, _, rfl, rfl, rfl, (L.length : Nat), by rw [elL], by omega, by omega, by show n.n + k ≤ _; omega, fun r ra rb => ?_⟩
    have hr : r.toNat < L.length := by omega
    refine ⟨r, r.toNat, .int (L[r.toNat]), rfl, ⟨by omega, by omega⟩, seqIx ra (by rw [elL]; exact rb), by rw [List.getElem?_map, List.getElem?_eq_getElem hr]; rfl, line1000 (by rw [List.length_map]; omega), rfl, L.eraseIdx r.toNat, G ++ [L[r.toNat]], by rw [List.length_append, hG]; rfl, ?_, some (.dat y), ?_⟩
    · refine List.Perm.trans ?_ hp
      refine (List.perm_append_comm).trans ?_
      rw [List.append_assoc]
      refine (List.Perm.append_left G (cons_erase hr)).trans List.perm_append_comm
    · rw [eraseIdx_map', List.map_append]
      rfl
  · rintro ρ n' ⟨rfl, L, G, hG, hp, b4, rfl⟩
    rw [rngD_length] at hG
    have hG : G.length = S.length := by omega
    have hL : L = [] := List.eq_nil_of_length_eq_zero (by have := hp.length_eq; rw [List.length_append] at this; omega)
    subst hL
    refine ⟨_, rfl, _, G, rfl, rfl, hR G _ hp ⟨by show n.n + (rngD 0 ((S.length : Nat) : Int).toNat).length ≤ n.n + 100; rw [rngD_length]; omega, rfl, rfl⟩⟩
abbrev s__law_rows : Stmt := topS 25
abbrev N__law_rows : List Str := ["deck", "sizes", "some", "found", "spot"]
theorem sc__law_rows : FnScope N__law_rows ["deck", "sizes"] (defScope s__law_rows) := ⟨rfl, rfl, rfl, by decide +kernel, rfl, by decide +kernel, by decide +kernel⟩
theorem fn__law_rows {f : Addr} {fd : FuncData} (F : Fun K "_law_rows" "_law_rows" s__law_rows f fd) (B : Bn K mg C) (H__law_mixed : Has P w K mg base "_law_mixed" 2 ["deck", "items"] c__law_mixed) (H__law_sizes : Has P w K mg base "_law_sizes" 2 ["deck", "most"] c__law_sizes) (H__law_draw : Has P w K mg base "_law_draw" 1 ["deck", "bound"] c__law_draw) : FnG P w K mg base 3 f fd ["deck", "sizes"] (spD K 2 c__law_rows) := by
  refine fnd (k := 2) c__law_rows F sc__law_rows fun cdv A outer s H hgd0 hr Y => ?_
  have hu := hr.units
  have hu1 : (A.deeper (envOfC "_law_rows" (defScope s__law_rows) s.heap.objs.size f cdv)).units + 65 < cLine := by have := hr.un; omega
  have hu0 : (A.deeper (envOfC "_law_rows" (defScope s__law_rows) s.heap.objs.size f cdv)).units + 1 < cLine := by have := hr.un; omega
  have hgd : (A.deeper (envOfC "_law_rows" (defScope s__law_rows) s.heap.objs.size f cdv)).guards = some [] := hgd0
  refine ⟨_, (dss_cons (ds_set (i := 2) sc__law_rows.nd rfl (Or.inl rfl) (xe_d (we_has H__law_mixed hgd (hr.mono (by decide)) (by rfl) (wa_cons (we_var 0) (wa_cons (we_var 1) wa_nil))))) (dss_cons (ds_set (i := 3) sc__law_rows.nd rfl (Or.inl rfl) (xe_m (me_lst (wa_cons (we_var 2) (wa_cons (we_sliceC (we_var 2) wo_none (wo_some (we_has H__law_draw hgd (hr.mono (by decide)) (by rfl) (wa_cons (we_var 0) (wa_cons (we_bin or_addA bi_add (we_callB call_len_seq ck_len (by rfl) B.len PySem.boot_len (wa_cons (we_unc (we_var 2)) wa_nil)) we_int) wa_nil))))) (wa_cons (we_bin op_catC bi_catC (we_var 1) (we_tupD (wa_cons (we_bin or_addA bi_add we_int (we_has H__law_draw hgd (hr.mono (by decide)) (by rfl) (wa_cons (we_var 0) (wa_cons we_int wa_nil)))) wa_nil))) (wa_cons (we_tupD wa_nil) (wa_cons (we_has H__law_sizes hgd (hr.mono (by decide)) (by rfl) (wa_cons (we_var 0) (wa_cons we_int wa_nil))) wa_nil)))))))) (dss_cut (ds_if (wt_cmp (or_neA hu) bi_neA (we_unc (we_var 1)) (we_tup wa_nil) (nomark _)) (dss_cons (ds_set (i := 4) sc__law_rows.nd rfl (Or.inl rfl) (xe_d (we_has H__law_draw hgd (hr.mono (by decide)) (by rfl) (wa_cons (we_var 0) (wa_cons (we_callB call_len_seq ck_len (by rfl) B.len PySem.boot_len (wa_cons (we_unc (we_var 1)) wa_nil)) wa_nil))))) (dss_cons (ds_set (i := 3) sc__law_rows.nd rfl (Or.inl rfl) (xe_m (me_cat (we_var 3) (we_ofM (me_lst (wa_cons (we_bin op_catC bi_catC (we_sliceC (we_var 1) wo_none (wo_some (we_var 4))) (we_sliceC (we_var 1) (wo_some (we_bin or_addA bi_add (we_var 4) we_int)) wo_none)) (wa_cons (we_bin op_catC bi_catC (we_bin op_catC bi_catC (we_sliceC (we_var 1) wo_none (wo_some (we_var 4))) (we_tupD (wa_cons (we_bin op_pow bi_I we_int we_int) wa_nil))) (we_sliceC (we_var 1) (wo_some (we_bin or_addA bi_add (we_var 4) we_int)) wo_none)) wa_nil))))))) (dss_one (ds_append (pv 3) (we_bin op_catC bi_catC (we_var 1) (we_tupD (wa_cons (we_ix (we_unc (we_var 1)) (we_var 4) (fun _ _ => rfl)) wa_nil))))))) dss_nil) (dss_one (ds_retM (pv 3)))))), fun as n R hl hc => ?_⟩
  obtain ⟨S, rfl, hS, hl, hn, hR⟩ := hc
  refine ⟨_, rfl, _, rfl, rfl, S, rfl, by omega, by omega, fun M n1 hM hn1 => ?_⟩
  have hn1' : n1.n ≤ n.n + 100 := hn1.1
  have hMl : M.length ≤ 40 := by rw [hM.length_eq]; exact hl
  have hMI : In1 (10 ^ 6) M := fun x hx => hS x (hM.mem_iff.mp hx)
  have eM : (M.map PyData.int).length = M.length := List.length_map ..
  refine ⟨_, rfl, _, rfl, _, rfl, _, rfl, M, rfl, _, _, rfl, rfl, rfl, (M.length : Int) + 1, by rw [eM], by omega, by omega, by omega, fun q q0 q1 => ⟨q, rfl, M, rfl, ?_⟩⟩
  have hcut : ∀ (L : List Int), In1 (10 ^ 6) L → ∀ lo hi, In1 (10 ^ 6) (cutG L lo hi) ∧ (cutG L lo hi).length ≤ L.length := fun L hL lo hi => by
    have hs : (cutG L lo hi).Sublist L := (List.take_sublist ..).trans (List.drop_sublist ..)
    exact ⟨fun x hx => hL x (hs.mem hx), hs.length_le⟩
  obtain ⟨hP, hPl⟩ := hcut M hMI none (some q)
  generalize cutG M none (some q) = Pt at hP hPl ⊢
  refine ⟨_, rfl, _, rfl, rfl, 5, rfl, by decide, by decide, by show n1.n + 1 ≤ _; omega, fun u u0 u1 => ?_⟩
  refine ⟨[1 + u], rfl, by show 1 ≤ sizeLine; decide, S, [1 + u], rfl, rfl, line1000 (by show S.length + 1 ≤ 1000; omega), ?_⟩
  refine ⟨[], rfl, Nat.zero_le _, ?_⟩
  refine ⟨_, rfl, rfl, 9, rfl, by decide, by decide, by show n1.n + 1 + 1 ≤ _; omega, fun V n2 hV hVl hn2 => ?_⟩
  have hn2' : n2.n ≤ n1.n + 1 + 1 + 300 := hn2.1
  refine ⟨by show 5 ≤ sizeLine; decide, ?_⟩
  refine ⟨fun ρ n3 => n3 ≤ n + 450 ∧ ∃ Rs : List (List Int), (∀ A ∈ Rs, In1 (10 ^ 6) A ∧ A.length ≤ 100) ∧ Rs.length ≤ 10 ∧ ∃ b4, ρ = [some (.deck false), some (.dat (clnD S)), some (.dat (clnD M)), some (.mt (Rs.map clnD)), b4], ?_, ?_⟩
  · have five : ∀ A ∈ [M, Pt, S ++ [1 + u], [], V], In1 (10 ^ 6) A ∧ A.length ≤ 100 := fun A hA => by
      simp only [List.mem_cons, List.not_mem_nil, or_false] at hA
      rcases hA with rfl | rfl | rfl | rfl | rfl
      · exact ⟨hMI, by omega⟩
      · exact ⟨hP, by omega⟩
      · refine ⟨fun x hx => ?_, by rw [List.length_append]; show S.length + 1 ≤ 100; omega⟩
        rcases List.mem_append.mp hx with h | h
        · exact hS x h
        · rw [List.mem_singleton.mp h]; omega
      · exact ⟨fun x hx => (nomatch hx), by decide⟩
      · exact ⟨hV, by omega⟩
    have hw : n2 ≤ n + (100 + 1 + 1 + 300) := Wo.tr (Wo.tr (Wo.tr hn1 Wo.one) Wo.one) hn2
    refine ⟨_, rfl, S, rfl, Nat.zero_le _, rfl, rfl, sh_tints S, sh_tints [], _, rfl, ?_⟩
    by_cases h0 : S = []
    · refine ifN ((eqv_tints S []).trans (decide_eq_true h0)) ⟨Wo.le' hw (by decide), [M, Pt, S ++ [1 + u], [], V], five, by show 5 ≤ 10; decide, _, rfl⟩
    · refine ifNF ((eqv_tints S []).trans (decide_eq_false h0)) ?_
      have hSl : 0 < S.length := List.length_pos_iff.mpr h0
      have eS : (S.map PyData.int).length = S.length := List.length_map ..
      refine ⟨_, rfl, _, rfl, S, rfl, _, _, rfl, rfl, rfl, (S.length : Int), by rw [eS], by omega, by omega, by omega, fun v v0 v1 => ?_⟩
      obtain ⟨i1, l1⟩ := hcut S hS none (some v)
      obtain ⟨i2, l2⟩ := hcut S hS (some (v + 1)) none
      have b1 : (cutG S none (some v)).length + (cutG S (some (v + 1)) none).length ≤ sizeLine := line1000 (by omega)
      have b2 : (cutG S none (some v)).length + [((10 : Int) ^ (6 : Int).toNat)].length ≤ sizeLine := line1000 (by show _ + 1 ≤ 1000; omega)
      have b3 : (cutG S none (some v) ++ [((10 : Int) ^ (6 : Int).toNat)]).length + (cutG S (some (v + 1)) none).length ≤ sizeLine := line1000 (by rw [List.length_append]; show _ + 1 + _ ≤ 1000; omega)
      refine ⟨_, rfl, _, rfl, _, rfl, v, rfl, S, rfl, _, rfl, _, rfl, v + 1, rfl, S, rfl, _, _, rfl, rfl, b1, ?_⟩
      refine ⟨_, rfl, _, rfl, v, rfl, S, rfl, ⟨by decide, by decide, by decide⟩, [(10 : Int) ^ (6 : Int).toNat], rfl, by show 1 ≤ sizeLine; decide, _, _, rfl, rfl, b2, ?_⟩
      refine ⟨_, rfl, _, rfl, v + 1, rfl, S, rfl, _, _, rfl, rfl, b3, by show 2 ≤ sizeLine; decide, _, _, rfl, rfl, by show 5 + 2 ≤ sizeLine; decide, ?_⟩
      have hg := hS (getI S v) (by unfold getI; rw [List.getElem?_eq_getElem (show v.toNat < S.length by omega)]; exact List.getElem_mem _)
      refine ⟨_, rfl, _, rfl, _, rfl, S, rfl, _, rfl, v, _, rfl, atI_get v0 v1, [getI S v], rfl, by show 1 ≤ sizeLine; decide, S, _, rfl, rfl, line1000 (by show S.length + 1 ≤ 1000; omega), by show 7 < sizeLine; decide, ?_⟩
      refine ⟨Wo.le' (Wo.tr hw Wo.one) (by decide), [M, Pt, S ++ [1 + u], [], V] ++ [cutG S none (some v) ++ cutG S (some (v + 1)) none, cutG S none (some v) ++ [10 ^ 6] ++ cutG S (some (v + 1)) none, S ++ [getI S v]], fun A hA => ?_, by show 8 ≤ 10; decide, _, rfl⟩
      rcases List.mem_append.mp hA with h | h
      · exact five A h
      · simp only [List.mem_cons, List.not_mem_nil, or_false] at h
        rcases h with rfl | rfl | rfl
        · exact ⟨fun x hx => (List.mem_append.mp hx).elim (i1 x) (i2 x), by rw [List.length_append]; omega⟩
        · refine ⟨fun x hx => ?_, by rw [List.length_append, List.length_append]; show _ + 1 + _ ≤ 100; omega⟩
          rcases List.mem_append.mp hx with h | h
          · rcases List.mem_append.mp h with h | h
            · exact i1 x h
            · rw [List.mem_singleton.mp h]; decide
          · exact i2 x h
        · refine ⟨fun x hx => ?_, by rw [List.length_append]; show S.length + 1 ≤ 100; omega⟩
          rcases List.mem_append.mp hx with h | h
          · exact hS x h
          · rw [List.mem_singleton.mp h]; exact hg
  · rintro ρ n3 ⟨hn3, Rs, hRs, hRl, b4, rfl⟩
    exact ⟨_, rfl, hR Rs _ hRs hRl (Wo.le' hn3 (by decide))⟩
abbrev s_Shelf___str__ : Stmt := inCls (topS 16) 7
abbrev N_Shelf___str__ : List Str := ["self", "size"]
theorem sc_Shelf___str__ : FnScope N_Shelf___str__ ["self"] (defScope s_Shelf___str__) := ⟨rfl, rfl, rfl, by decide +kernel, rfl, by decide +kernel, by decide +kernel⟩
theorem fn_Shelf___str__ {f : Addr} {fd : FuncData} (F : Fun K "__str__" "Shelf.__str__" s_Shelf___str__ f fd) (B : Bn K mg C) : FnGX P w K mg base 1 f fd ["self"] (spDX K 1 (c_Shelf___str__ C)) := by
  refine fndX (k := 0) (c_Shelf___str__ C) F sc_Shelf___str__ fun cdv A outer s H Eh hgd0 hr Y E ok tk => ?_
  have hu := hr.units
  have hu1 : (A.deeper (envOfC "Shelf.__str__" (defScope s_Shelf___str__) s.heap.objs.size f cdv)).units + 65 < cLine := by have := hr.un; omega
  have hu0 : (A.deeper (envOfC "Shelf.__str__" (defScope s_Shelf___str__) s.heap.objs.size f cdv)).units + 1 < cLine := by have := hr.un; omega
  have hgd : (A.deeper (envOfC "Shelf.__str__" (defScope s_Shelf___str__) s.heap.objs.size f cdv)).guards = some [] := hgd0
  refine ⟨_, (dss_one (ds_ret (we_join we_str (we_ofM (me_compV (own := [("size", 1)]) rfl sc_Shelf___str__.nd (di_seqV (we_unc (we_fldK (Kx := K) rfl (we_var 0)))) (blkOk_by (N := N_Shelf___str__) (sc := defScope s_Shelf___str__) (by decide +kernel)) gok_name (fun _ _ _ _ _ => (pg_name (i := 1) sc_Shelf___str__.nd rfl (Or.inl rfl))) (fun _ _ _ _ _ => wts_nil) (fun _ _ _ _ _ => (we_fstr1 (we_fmt8 (we_var 1)))) (by decide)))))), fun as n R hl hc => ?_⟩
  obtain ⟨a, S, rfl, hl, hS, hob, hR⟩ := hc
  refine ⟨_, rfl, _, rfl, a, _, _, rfl, hob, B.fl_Shelf_sizes, rfl, S, rfl, _, rfl, ?_⟩
  refine compR_m S .int (fun z => .str (t8 z)) (small1000 (by omega)) (fun z hz acc KK ha hK => ⟨_, rfl, z, rfl, lg8 (hS z hz).1 (hS z hz).2, line1000 (Nat.le_trans (t8_len (hS z hz).1 (hS z hz).2) (by decide)), ha, hK⟩) ?_
  refine ⟨S.map t8, by rw [List.map_map]; rfl, ?_, hR⟩
  have := sum8 hS
  show _ + _ * 0 ≤ 16777216
  omega
abbrev s__law_odd : Stmt := topS 23
abbrev N__law_odd : List Str := ["deck", "items"]
theorem sc__law_odd : FnScope N__law_odd ["deck"] (defScope s__law_odd) := ⟨rfl, rfl, rfl, by decide +kernel, rfl, by decide +kernel, by decide +kernel⟩
theorem fn__law_odd {f : Addr} {fd : FuncData} (F : Fun K "_law_odd" "_law_odd" s__law_odd f fd) (B : Bn K mg C) (H__law_draw : Has P w K mg base "_law_draw" 1 ["deck", "bound"] c__law_draw) : FnG P w K mg base 2 f fd ["deck"] (spD K 1 c__law_odd) := by
  refine fnd (k := 1) c__law_odd F sc__law_odd fun cdv A outer s H hgd0 hr Y => ?_
  have hu := hr.units
  have hu1 : (A.deeper (envOfC "_law_odd" (defScope s__law_odd) s.heap.objs.size f cdv)).units + 65 < cLine := by have := hr.un; omega
  have hu0 : (A.deeper (envOfC "_law_odd" (defScope s__law_odd) s.heap.objs.size f cdv)).units + 1 < cLine := by have := hr.un; omega
  have hgd : (A.deeper (envOfC "_law_odd" (defScope s__law_odd) s.heap.objs.size f cdv)).guards = some [] := hgd0
  refine ⟨_, (dss_cons (ds_set (i := 1) sc__law_odd.nd rfl (Or.inl rfl) (xe_d (we_ofM (me_lst (wa_cons we_non (wa_cons we_bl (wa_cons we_bl (wa_cons we_int (wa_cons we_int (wa_cons (we_neg we_int) (wa_cons (we_bin op_pow bi_I we_int we_int) (wa_cons we_str (wa_cons we_str (wa_cons (we_tup wa_nil) (wa_cons (we_ofM (me_lst wa_nil)) (wa_cons we_dict0 (wa_cons (we_tup (wa_cons we_int wa_nil)) (wa_cons (we_ofM (me_lst (wa_cons we_int wa_nil))) (wa_cons (we_tup (wa_cons we_bl wa_nil)) (wa_cons (we_tup (wa_cons (we_tup wa_nil) wa_nil)) (wa_cons we_dict1 wa_nil))))))))))))))))))))) (dss_one (ds_ret (we_ix (we_bin or_addA bi_add (we_var 1) (we_ofM (me_lst (wa_cons (we_tup (wa_cons (we_tup (wa_cons we_int (wa_cons we_int wa_nil))) wa_nil)) (wa_cons (we_tup (wa_cons (we_tup (wa_cons we_int (wa_cons we_int wa_nil))) (wa_cons (we_tup (wa_cons we_int (wa_cons we_int wa_nil))) wa_nil))) (wa_cons (we_tup (wa_cons we_str (wa_cons we_str wa_nil))) (wa_cons (we_tup (wa_cons we_non (wa_cons we_non wa_nil))) wa_nil))))))) (we_has H__law_draw hgd (hr.mono (by decide)) (by rfl) (wa_cons (we_var 0) (wa_cons we_int wa_nil))) (fun _ _ => rfl))))), fun as n R hl hc => ?_⟩
  obtain ⟨rfl, hn, hR⟩ := hc
  refine ⟨⟨by decide, by decide, by decide⟩, Nat.zero_le _, Nat.zero_le _, by show 1 ≤ sizeLine; decide, by show 1 ≤ sizeLine; decide, by show 1 ≤ sizeLine; decide, Nat.zero_le _, by show 1 ≤ sizeLine; decide, by show 17 ≤ sizeLine; decide, ?_⟩
  refine ⟨_, rfl, by show 2 ≤ sizeLine; decide, by show 1 ≤ sizeLine; decide, by show 2 ≤ sizeLine; decide, by show 2 ≤ sizeLine; decide, by show 2 ≤ sizeLine; decide, by show 2 ≤ sizeLine; decide, by show 2 ≤ sizeLine; decide, by show 4 ≤ sizeLine; decide, by show 21 ≤ sizeLine; decide, _, rfl, rfl, 21, rfl, by decide, by decide, by omega, fun r q1 q2 => ?_⟩
  obtain ⟨d, hd, hm⟩ := atI_mem (xs := odds26) q1 (show r < 21 from q2)
  exact ⟨r, d, rfl, hd, hR d (odd26_ok hm)⟩
abbrev s__law_text : Stmt := topS 24
abbrev N__law_text : List Str := ["sizes", "found", "size", "digits", "text", "place", "digit"]
theorem sc__law_text : FnScope N__law_text ["sizes"] (defScope s__law_text) := ⟨rfl, rfl, rfl, by decide +kernel, rfl, by decide +kernel, by decide +kernel⟩
theorem fn__law_text {f : Addr} {fd : FuncData} (F : Fun K "_law_text" "_law_text" s__law_text f fd) (B : Bn K mg C) : FnG P w K mg base 1 f fd ["sizes"] (spD K 1 c__law_text) := by
  refine fnd (k := 0) c__law_text F sc__law_text fun cdv A outer s H hgd0 hr Y => ?_
  have hu := hr.units
  have hu1 : (A.deeper (envOfC "_law_text" (defScope s__law_text) s.heap.objs.size f cdv)).units + 65 < cLine := by have := hr.un; omega
  have hu0 : (A.deeper (envOfC "_law_text" (defScope s__law_text) s.heap.objs.size f cdv)).units + 1 < cLine := by have := hr.un; omega
  have hgd : (A.deeper (envOfC "_law_text" (defScope s__law_text) s.heap.objs.size f cdv)).guards = some [] := hgd0
  refine ⟨_, (dss_cons (ds_set (i := 1) sc__law_text.nd rfl (Or.inl rfl) (xe_d we_str)) (dss_cons (ds_for PassesOwn.never rfl (di_seq (we_ofM (me_callB cr_sortIT ck_sortIT (by rfl) B.sorted PyProof.Rows.boot_sorted (wa_cons (we_var 0) wa_nil)))) ⟨(pg_name (i := 2) sc__law_text.nd rfl (Or.inl rfl)), gok_name⟩ (dss_cons (ds_par (i := 3) (j := 4) rfl sc__law_text.nd rfl rfl (by decide) rfl rfl (xe_d (we_callTy call_str_int cr_str (by rfl) B.str PyProof.Rows.boot_str (wa_cons (we_var 2) wa_nil))) (xe_d we_str) (by rfl)) (dss_cons (ds_for PassesOwn.never rfl (di_enumS (by rfl) B.enumerate (we_var 3)) ⟨(pg_tup rfl (pgs_cons (pg_name (i := 5) sc__law_text.nd rfl (Or.inl rfl)) (pgs_cons (pg_name (i := 6) sc__law_text.nd rfl (Or.inl rfl)) pgs_nil))), gok_two⟩ (dss_one (ds_set (i := 4) sc__law_text.nd rfl (Or.inl rfl) (xe_d (we_bin op_add_str bi_addS (we_bin op_add_str bi_addS (we_var 4) (we_var 6)) (we_bin op_mulS bi_mulS we_str (we_callTy call_int1 ck_int (by rfl) B.int PyProof.Rows.boot_int (wa_cons (we_and (we_cmp (or_eqA hu) bi_eqA (we_bin op_mod bi_I (we_bin op_sub bi_I0 (we_callB call_len_str ck_lenS (by rfl) B.len PySem.boot_len (wa_cons (we_var 3) wa_nil)) (we_var 5)) we_int) we_int (nomark _)) (we_one (we_cmp op_lt bi_B0 (we_bin or_addA bi_add (we_var 5) we_int) (we_callB call_len_str ck_lenS (by rfl) B.len PySem.boot_len (wa_cons (we_var 3) wa_nil)) (nomark _)))) wa_nil)))))))) (dss_one (ds_set (i := 1) sc__law_text.nd rfl (Or.inl rfl) (xe_d (we_bin op_add_str bi_addS (we_bin op_add_str bi_addS (we_var 1) (we_bin op_mulS bi_mulS we_str (we_callB (call_maxA rfl) ck_max (by rfl) B.max PyProof.Rows.boot_max (wa_cons we_int (wa_cons (we_bin op_sub bi_I0 we_int (we_callB call_len_str ck_lenS (by rfl) B.len PySem.boot_len (wa_cons (we_var 4) wa_nil))) wa_nil))))) (we_var 4)))))))) (dss_one (ds_ret (we_var 1))))), fun as n R hl hc => ?_⟩
  obtain ⟨S, rfl, hS, hl, hR⟩ := hc
  have hsI : In1 (10 ^ 6) (srt S) := fun x hx => hS x (mem_srt.mp hx)
  have hsl : (srt S).length = S.length := (srt_perm S).length_eq
  refine ⟨_, rfl, _, S, rfl, rfl, fun S' hp hs' => ?_⟩
  obtain rfl := srt_uniq hp hs'
  refine ⟨_, rfl, ?_⟩
  refine forR_inv (fun k ρ n' => n' = n ∧ ∃ b2 b3 b4 b5 b6, ρ = [some (.dat (.tuple (S.map .int))), some (.dat (.str (txt8 ((srt S).take k)))), b2, b3, b4, b5, b6]) ⟨rfl, none, none, none, none, none, ?_⟩ ?_ ?_
  · rw [List.take_zero, show txt8 [] = "" from rfl]
    rfl
  · rintro k y ρ n' hy ⟨rfl, b2, b3, b4, b5, b6, rfl⟩
    rw [List.getElem?_map] at hy
    obtain ⟨z, hz, rfl⟩ := Option.map_eq_some_iff.mp hy
    obtain ⟨z0, z1⟩ := hsI z (List.mem_of_getElem? hz)
    have hk : k < S.length := by rw [← hsl]; exact (List.getElem?_eq_some_iff.mp hz).1
    have et : (srt S).take (k + 1) = (srt S).take k ++ [z] := by rw [List.take_add_one, hz]; rfl
    have hdl := dg8_len z0 z1
    have hds : chs (numT z) = dg8 z := chs_dg8 (by omega)
    have hnl : (numT z).length = (dg8 z).length := by rw [← hds]; exact (Array.length_toList ..).symm
    refine ⟨_, rfl, z, rfl, lg8 z0 z1, ?_⟩
    refine ⟨_, rfl, numT z, rfl, ?_⟩
    refine forR_inv (fun j ρ n2 => n2 = n' ∧ ∃ b5 b6, ρ = [some (.dat (.tuple (S.map .int))), some (.dat (.str (txt8 ((srt S).take k)))), some (.dat (.int z)), some (.dat (.str (numT z))), some (.dat (.str ⟨(lawG (dg8 z) j).toArray⟩)), b5, b6]) ⟨rfl, _, _, rfl⟩ ?_ ?_
    · rintro j y ρ n2 hy ⟨rfl, b5, b6, rfl⟩
      obtain ⟨d, q1, rfl⟩ := enumD_get hy
      unfold sgnD at q1
      rw [List.getElem?_map, hds] at q1
      obtain ⟨c, hc, rfl⟩ := Option.map_eq_some_iff.mp q1
      have hj : j < (dg8 z).length := (List.getElem?_eq_some_iff.mp hc).1
      refine ⟨_, _, rfl, ?_⟩
      have hgl := lawG_len (dg8 z) j
      have l1 : (⟨(lawG (dg8 z) j).toArray⟩ : Str).length = (lawG (dg8 z) j).length := rfl
      have nz : (numT z).length ≤ sizeLine := line1000 (by omega)
      refine ⟨_, rfl, _, rfl, _, _, rfl, rfl, line1000 (by rw [l1]; show _ + 1 ≤ 1000; omega), ?_⟩
      refine ⟨_, rfl, numT z, rfl, nz, _, rfl, (by decide : (0 : Int) < 3), rfl, rfl, sh_int _, sh_int _, ?_⟩
      by_cases hA : ((((numT z).length : Nat) : Int) - (j : Int)) % 3 = 1
      · refine asB_T ((eqv_int _ _).trans (decide_eq_true hA)) (iteT ?_)
        refine ⟨_, rfl, _, rfl, numT z, rfl, nz, ?_⟩
        refine ⟨",", if (j : Int) + 1 < (((numT z).length : Nat) : Int) then 1 else 0, rfl, by show Dv.dat (.int (if decide ((j : Int) + 1 < (((numT z).length : Nat) : Int)) = true then 1 else 0)) = _; by_cases h : (j : Int) + 1 < (((numT z).length : Nat) : Int) <;> simp [h], by split <;> decide, by split <;> omega, ?_⟩
        refine ⟨_, _, rfl, rfl, ?_, ?_⟩
        · have e := rep_lenC (if (j : Int) + 1 < (((numT z).length : Nat) : Int) then 1 else 0)
          have e2 : (if (j : Int) + 1 < (((numT z).length : Nat) : Int) then 1 else 0) ≤ 1 := by split <;> omega
          refine line1000 ?_
          show _ + (repS "," _).length ≤ 1000
          rw [e, slen_app, l1]
          show _ + 1 + _ ≤ 1000
          omega
        · refine ⟨rfl, some (.dat (.int (j : Int))), some (.dat (.str ⟨#[c]⟩)), ?_⟩
          have e := law_step hc (m := if (j : Int) + 1 < (((numT z).length : Nat) : Int) then 1 else 0) (by rw [hnl] at hA ⊢; by_cases h : (j : Int) + 1 < ((dg8 z).length : Int) <;> simp [h, hA])
          rw [← e]
          rfl
      · refine asB_F ((eqv_int _ _).trans (decide_eq_false hA)) (iteF ?_)
        refine ⟨",", 0, rfl, rfl, by decide, by decide, ?_⟩
        refine ⟨_, _, rfl, rfl, ?_, ?_⟩
        · refine line1000 ?_
          show _ + (repS "," ((0 : Nat) : Int)).length ≤ 1000
          rw [rep_lenC, slen_app, l1]
          show _ + 1 + _ ≤ 1000
          omega
        · refine ⟨rfl, some (.dat (.int (j : Int))), some (.dat (.str ⟨#[c]⟩)), ?_⟩
          have e := law_step hc (m := 0) (by rw [hnl] at hA; simp [hA])
          rw [← e]
          rfl
    · rintro ρ n2 ⟨rfl, b5, b6, rfl⟩
      have e7 : (enumD (sgnD (numT z))).length = (dg8 z).length := by rw [enumD_length]; unfold sgnD; rw [List.length_map, hds]
      rw [e7]
      have hgl := lawG_len (dg8 z) (dg8 z).length
      have l1 : (⟨(lawG (dg8 z) (dg8 z).length).toArray⟩ : Str).length = (lawG (dg8 z) (dg8 z).length).length := rfl
      have hT : (txt8 ((srt S).take k)).length ≤ 60 * k := by
        have h := txt8_len (S := (srt S).take k) (fun x hx => hsI x (List.mem_of_mem_take hx))
        have h2 : ((srt S).take k).length ≤ k := by rw [List.length_take]; omega
        omega
      refine ⟨_, rfl, _, rfl, _, rfl, by rw [l1]; exact line1000 (by omega), ?_⟩
      refine ⟨" ", 8 - (lawG (dg8 z) (dg8 z).length).length, rfl, ?_, by show 1 * _ ≤ _; omega, by omega, ?_⟩
      · show Dv.dat (.int (if (8 : Int) - ((lawG (dg8 z) (dg8 z).length).length : Nat) > 0 then 8 - ((lawG (dg8 z) (dg8 z).length).length : Nat) else 0)) = _
        split <;> congr 2 <;> omega
      refine ⟨_, _, rfl, rfl, ?_, _, rfl, _, _, rfl, rfl, ?_, ?_⟩
      · show _ + (repS " " ((8 - (lawG (dg8 z) (dg8 z).length).length : Nat) : Int)).length ≤ _
        rw [rep_lenB]
        exact Nat.le_trans (m := 100000) (by omega) (by decide)
      · rw [slen_app, l1]
        show _ + (repS " " ((8 - (lawG (dg8 z) (dg8 z).length).length : Nat) : Int)).length + _ ≤ _
        rw [rep_lenB]
        exact Nat.le_trans (m := 100000) (by omega) (by decide)
      refine ⟨rfl, some (.dat (.int z)), some (.dat (.str (numT z))), some (.dat (.str ⟨(lawG (dg8 z) (dg8 z).length).toArray⟩)), b5, b6, ?_⟩
      rw [et, txt8_snoc, ← law_end z0 z1]
      rfl
  · rintro ρ n' ⟨rfl, b2, b3, b4, b5, b6, rfl⟩
    rw [List.length_map, List.take_length]
    exact ⟨_, rfl, hR⟩
abbrev s__first_missing : Stmt := topS 15
abbrev N__first_missing : List Str := ["sizes", "wanted", "size"]
theorem sc__first_missing : FnScope N__first_missing ["sizes", "wanted"] (defScope s__first_missing) := ⟨rfl, rfl, rfl, by decide +kernel, rfl, by decide +kernel, by decide +kernel⟩
theorem fn__first_missing {f : Addr} {fd : FuncData} (F : Fun K "_first_missing" "_first_missing" s__first_missing f fd) (B : Bn K mg C) : FnG P w K mg base 1 f fd ["sizes", "wanted"] (spD K 2 c__first_missing) := by
  refine fnd (k := 0) c__first_missing F sc__first_missing fun cdv A outer s H hgd0 hr Y => ?_
  have hu := hr.units
  have hu1 : (A.deeper (envOfC "_first_missing" (defScope s__first_missing) s.heap.objs.size f cdv)).units + 65 < cLine := by have := hr.un; omega
  have hu0 : (A.deeper (envOfC "_first_missing" (defScope s__first_missing) s.heap.objs.size f cdv)).units + 1 < cLine := by have := hr.un; omega
  have hgd : (A.deeper (envOfC "_first_missing" (defScope s__first_missing) s.heap.objs.size f cdv)).guards = some [] := hgd0
  refine ⟨_, (dss_cons (ds_for PassesOwn.never rfl (di_seq (we_unc (we_var 1))) ⟨(pg_name (i := 2) sc__first_missing.nd rfl (Or.inl rfl)), gok_name⟩ (dss_one (ds_if (wt_cmp op_gt bi_B0 (we_countC (we_var 1) (we_var 2)) (we_countC (we_var 0) (we_var 2)) (nomark _)) (dss_one (ds_ret (we_var 2))) dss_nil))) (dss_one (ds_ret we_non))), fun as n R hl hc => ?_⟩
  obtain ⟨S, T, rfl, hR⟩ := hc
  refine ⟨_, rfl, T, rfl, _, rfl, ?_⟩
  refine forR_inv (fun k ρ n' => n' = n ∧ (∀ i z, T[i]? = some z → i < k → ¬ S.count z < T.count z) ∧ ∃ b, ρ = [some (.dat (clnD S)), some (.dat (clnD T)), b]) ⟨rfl, fun i z _ h => absurd h (Nat.not_lt_zero _), _, rfl⟩ ?_ ?_
  · rintro k y ρ n' hy ⟨rfl, ha, b, rfl⟩
    rw [List.getElem?_map] at hy
    obtain ⟨z, hz, rfl⟩ := Option.map_eq_some_iff.mp hy
    refine ⟨_, rfl, T, rfl, _, rfl, z, rfl, trivial, _, rfl, S, rfl, _, rfl, z, rfl, trivial, _, rfl, ?_⟩
    by_cases hlt : S.count z < T.count z
    · refine iteD (show ((S.count z : Nat) : Int) < ((T.count z : Nat) : Int) by omega) ⟨_, rfl, ?_⟩
      rw [missD_some (find_first hz (decide_eq_true hlt) fun i y hy hi => decide_eq_false (ha i y hy hi))] at hR
      exact hR
    · refine iteDF (show ¬ ((S.count z : Nat) : Int) < ((T.count z : Nat) : Int) by omega) ⟨rfl, fun i y hy2 hi => ?_, _, rfl⟩
      by_cases e : i = k
      · subst e
        obtain rfl : z = y := Option.some.inj (hz.symm.trans hy2)
        exact hlt
      · exact ha i y hy2 (by omega)
  · rintro ρ n' ⟨rfl, ha, b, rfl⟩
    rw [missD_none (List.find?_eq_none.mpr fun z hz => by
      obtain ⟨i, hi⟩ := List.mem_iff_getElem?.mp hz
      have := ha i z hi (by rw [List.length_map]; exact (List.getElem?_eq_some_iff.mp hi).1)
      simpa using this)] at hR
    exact hR
abbrev s_Shelf___contains__ : Stmt := inCls (topS 16) 5
abbrev N_Shelf___contains__ : List Str := ["self", "value"]
theorem sc_Shelf___contains__ : FnScope N_Shelf___contains__ ["self", "value"] (defScope s_Shelf___contains__) := ⟨rfl, rfl, rfl, by decide +kernel, rfl, by decide +kernel, by decide +kernel⟩
theorem fn_Shelf___contains__ {f : Addr} {fd : FuncData} (F : Fun K "__contains__" "Shelf.__contains__" s_Shelf___contains__ f fd) (B : Bn K mg C) (H__first_missing : Has P w K mg base "_first_missing" 1 ["sizes", "wanted"] c__first_missing) : FnGX P w K mg base 2 f fd ["self", "value"] (spDX K 2 (c_Shelf___contains__ C)) := by
  refine fndX (k := 1) (c_Shelf___contains__ C) F sc_Shelf___contains__ fun cdv A outer s H Eh hgd0 hr Y E ok tk => ?_
  have hu := hr.units
  have hu1 : (A.deeper (envOfC "Shelf.__contains__" (defScope s_Shelf___contains__) s.heap.objs.size f cdv)).units + 65 < cLine := by have := hr.un; omega
  have hu0 : (A.deeper (envOfC "Shelf.__contains__" (defScope s_Shelf___contains__) s.heap.objs.size f cdv)).units + 1 < cLine := by have := hr.un; omega
  have hgd : (A.deeper (envOfC "Shelf.__contains__" (defScope s_Shelf___contains__) s.heap.objs.size f cdv)).guards = some [] := hgd0
  refine ⟨_, (dss_one (ds_ret (we_and (we_isK (Kx := K) rfl (by rfl) B.isinstance (we_var 1) (pe_glob (v := .ref C.Shelf) (by rfl) B.g_Shelf rfl) (.own _)) (we_one (we_cmp op_isN bi_isN (we_has H__first_missing hgd (hr.mono (by decide)) (by rfl) (wa_cons (we_fldK (Kx := K) rfl (we_var 0)) (wa_cons (we_fldK (Kx := K) rfl (we_var 1)) wa_nil))) we_non (nomark _)))))), fun as n R hl hc => ?_⟩
  obtain ⟨a, S, ha, ⟨b, T, rfl, hb, hR⟩ | ⟨d, rfl, hnr, hR⟩⟩ := hc
  · refine ⟨_, rfl, _, true, .inr ⟨b, _, rfl, hb, B.i_Shelf, rfl⟩, B.k_Shelf_Shelf, asB_T rfl (iteT ?_)⟩
    refine ⟨_, rfl, a, _, _, rfl, ha, B.fl_Shelf_sizes, rfl, _, rfl, b, _, _, rfl, hb, B.fl_Shelf_sizes, rfl, rfl, S, T, rfl, ?_⟩
    cases hm : missZ S T with
    | none =>
      rw [missD_none hm]
      rw [hm] at hR
      exact ⟨rfl, rfl, hR⟩
    | some z =>
      rw [missD_some hm]
      rw [hm] at hR
      exact ⟨rfl, rfl, hR⟩
  · have k7 : ∀ d : PyData, PySem.W.kitOne K (.type (tyD d)) (.ref C.Shelf) = some false := fun d => by
      cases d with
      | none => exact B.t_NoneType_Shelf
      | bool _ => exact B.t_bool_Shelf
      | int _ => exact B.t_int_Shelf
      | str _ => exact B.t_str_Shelf
      | list _ => exact B.t_list_Shelf
      | tuple _ => exact B.t_tuple_Shelf
      | dict _ => exact B.t_dict_Shelf
    exact ⟨_, rfl, _, false, .inl ⟨hnr, rfl⟩, k7 d, asB_F rfl (iteF hR)⟩
abbrev s_Shelf___eq__ : Stmt := inCls (topS 16) 8
abbrev N_Shelf___eq__ : List Str := ["self", "other"]
theorem sc_Shelf___eq__ : FnScope N_Shelf___eq__ ["self", "other"] (defScope s_Shelf___eq__) := ⟨rfl, rfl, rfl, by decide +kernel, rfl, by decide +kernel, by decide +kernel⟩
theorem fn_Shelf___eq__ {f : Addr} {fd : FuncData} (F : Fun K "__eq__" "Shelf.__eq__" s_Shelf___eq__ f fd) (B : Bn K mg C) : FnGX P w K mg base 1 f fd ["self", "other"] (spDX K 2 (c_Shelf___eq__ C)) := by
  refine fndX (k := 0) (c_Shelf___eq__ C) F sc_Shelf___eq__ fun cdv A outer s H Eh hgd0 hr Y E ok tk => ?_
  have hu := hr.units
  have hu1 : (A.deeper (envOfC "Shelf.__eq__" (defScope s_Shelf___eq__) s.heap.objs.size f cdv)).units + 65 < cLine := by have := hr.un; omega
  have hu0 : (A.deeper (envOfC "Shelf.__eq__" (defScope s_Shelf___eq__) s.heap.objs.size f cdv)).units + 1 < cLine := by have := hr.un; omega
  have hgd : (A.deeper (envOfC "Shelf.__eq__" (defScope s_Shelf___eq__) s.heap.objs.size f cdv)).guards = some [] := hgd0
  refine ⟨_, (dss_one (ds_ret (we_and (we_isK (Kx := K) rfl (by rfl) B.isinstance (we_var 1) (pe_glob (v := .ref C.Shelf) (by rfl) B.g_Shelf rfl) (.own _)) (we_one (we_cmp (or_eqA hu) bi_eqA (we_unc (we_fldK (Kx := K) rfl (we_var 0))) (we_unc (we_fldK (Kx := K) rfl (we_var 1))) (nomark _)))))), fun as n R hl hc => ?_⟩
  obtain ⟨a, S, ha, ⟨b, T, rfl, hb, hR⟩ | ⟨d, rfl, hnr, hR⟩⟩ := hc
  · refine ⟨_, rfl, _, true, .inr ⟨b, _, rfl, hb, B.i_Shelf, rfl⟩, B.k_Shelf_Shelf, ?_⟩
    refine asB_T rfl (iteT ?_)
    refine ⟨_, rfl, a, _, _, rfl, ha, B.fl_Shelf_sizes, rfl, S, rfl, _, rfl, b, _, _, rfl, hb, B.fl_Shelf_sizes, rfl, T, rfl, rfl, rfl, sh_tints _, sh_tints _, ?_⟩
    show R (.bool (PyData.eqv (.tuple (S.map .int)) (.tuple (T.map .int)))) n
    rw [eqv_tints]
    exact hR
  · have k7 : ∀ d : PyData, PySem.W.kitOne K (.type (tyD d)) (.ref C.Shelf) = some false := fun d => by
      cases d with
      | none => exact B.t_NoneType_Shelf
      | bool _ => exact B.t_bool_Shelf
      | int _ => exact B.t_int_Shelf
      | str _ => exact B.t_str_Shelf
      | list _ => exact B.t_list_Shelf
      | tuple _ => exact B.t_tuple_Shelf
      | dict _ => exact B.t_dict_Shelf
    exact ⟨_, rfl, _, false, .inl ⟨hnr, rfl⟩, k7 d, asB_F rfl (iteF hR)⟩
abbrev s__law_more : Stmt := topS 22
abbrev N__law_more : List Str := ["some", "others", "item"]
theorem sc__law_more : FnScope N__law_more ["some", "others"] (defScope s__law_more) := ⟨rfl, rfl, rfl, by decide +kernel, rfl, by decide +kernel, by decide +kernel⟩
theorem fn__law_more {f : Addr} {fd : FuncData} (F : Fun K "_law_more" "_law_more" s__law_more f fd) (B : Bn K mg C) : FnG P w K mg base 1 f fd ["some", "others"] (spD K 2 c__law_more) := by
  refine fnd (k := 0) c__law_more F sc__law_more fun cdv A outer s H hgd0 hr Y => ?_
  have hu := hr.units
  have hu1 : (A.deeper (envOfC "_law_more" (defScope s__law_more) s.heap.objs.size f cdv)).units + 65 < cLine := by have := hr.un; omega
  have hu0 : (A.deeper (envOfC "_law_more" (defScope s__law_more) s.heap.objs.size f cdv)).units + 1 < cLine := by have := hr.un; omega
  have hgd : (A.deeper (envOfC "_law_more" (defScope s__law_more) s.heap.objs.size f cdv)).guards = some [] := hgd0
  refine ⟨_, (dss_cons (ds_for PassesOwn.never rfl (di_seq (we_ofM (me_callB cr_sortIT ck_sortIT (by rfl) B.sorted PyProof.Rows.boot_sorted (wa_cons (we_unc (we_var 0)) wa_nil)))) ⟨(pg_name (i := 2) sc__law_more.nd rfl (Or.inl rfl)), gok_name⟩ (dss_one (ds_if (wt_cmp op_gt bi_B0 (we_countC (we_var 0) (we_var 2)) (we_countC (we_var 1) (we_var 2)) (nomark _)) (dss_one (ds_ret (we_var 2))) dss_nil))) (dss_one (ds_ret we_non))), fun as n R hl hc => ?_⟩
  obtain ⟨A, O, rfl, hR⟩ := hc
  refine ⟨_, rfl, A, rfl, _, A, rfl, rfl, fun A' hp hs' => ?_⟩
  obtain rfl := srt_uniq hp hs'
  refine ⟨_, rfl, ?_⟩
  refine forR_inv (fun k ρ n' => n' = n ∧ (∀ i z, (srt A)[i]? = some z → i < k → ¬ O.count z < A.count z) ∧ ∃ b, ρ = [some (.dat (clnD A)), some (.dat (clnD O)), b]) ⟨rfl, fun i z _ h => absurd h (Nat.not_lt_zero _), _, rfl⟩ ?_ ?_
  · rintro k y ρ n' hy ⟨rfl, ha, b, rfl⟩
    rw [List.getElem?_map] at hy
    obtain ⟨z, hz, rfl⟩ := Option.map_eq_some_iff.mp hy
    refine ⟨_, rfl, A, rfl, _, rfl, z, rfl, trivial, _, rfl, O, rfl, _, rfl, z, rfl, trivial, _, rfl, ?_⟩
    by_cases hlt : O.count z < A.count z
    · refine iteD (show ((O.count z : Nat) : Int) < ((A.count z : Nat) : Int) by omega) ⟨_, rfl, ?_⟩
      rw [missD_some ((miss_srt O A).trans (find_first hz (decide_eq_true hlt) fun i y hy hi => decide_eq_false (ha i y hy hi)))] at hR
      exact hR
    · refine iteDF (show ¬ ((O.count z : Nat) : Int) < ((A.count z : Nat) : Int) by omega) ⟨rfl, fun i y hy2 hi => ?_, _, rfl⟩
      by_cases e : i = k
      · subst e
        obtain rfl : z = y := Option.some.inj (hz.symm.trans hy2)
        exact hlt
      · exact ha i y hy2 (by omega)
  · rintro ρ n' ⟨rfl, ha, b, rfl⟩
    rw [missD_none ((miss_srt O A).trans (List.find?_eq_none.mpr fun z hz => by
      obtain ⟨i, hi⟩ := List.mem_iff_getElem?.mp hz
      have := ha i z hi (by rw [List.length_map]; exact (List.getElem?_eq_some_iff.mp hi).1)
      simpa using this))] at hR
    exact hR
/-- a def of the module with any promise -/
def HasS (P : Program) (w : World) (K : PySem.W.Frag) (mg : Str → Option Value) (base : Heap) (x : Str) (k : Nat) (ps : List Str) (sp : Sp) : Prop :=
  ∃ f fd, mg x = some (.ref f) ∧ PySem.W.keepIn K (.ref f) = true ∧ Binds K fd ps [] ∧ FnG P w K mg base k f fd ps sp
theorem pe_hasS {X : Cx} {k : Nat} {ps : List Str} {sp : Sp} {x : Str} {p pos : Pos} {e : Expr} {es : List Expr} {t : TA} (h : HasS X.prog X.w X.K X.mg X.base x k ps sp) (hgd : X.A.guards = some []) (hr : Room k X.A) (hg : Gl X x)
    (ha : PA X (e :: es) t) (hdb : (x == ("__debug__" : Str)) = false := by decide) (he : starEach (e :: es) X.env = (false, eval e X.env) :: starEach es X.env := by rfl) (hpl : (backTo pos (starEach es X.env)).any (·.1) = false := by rfl) :
    PE X (.Call (.Name x p) (e :: es) [] pos) (fun σ H Q => t σ H fun vs H1 => sp vs H1 Q E0) := by
  obtain ⟨f, fd, h1, h2, h3, h4⟩ := h
  exact pe_callg h4 hgd hr hg h1 h2 h3 ha hdb he hpl
theorem spDeckA_ok {K : PySem.W.Frag} (a : Addr) (ns : List Int) (H : Hp) (Q : VK) (hS : SqL K H a (ns.map V.int)) (hl : ns.length ≤ 63)
    (k : ∀ (H' : Hp) (δ : DkS) (p : Addr), Same H H' → IsDk false δ p → δ.at0 H' 0 → (∀ b, b ∈ δ.own → H' b ≠ none) → Q (.ref p) H') : spDeckA K [.ref a] H Q E0 :=
  ⟨a, ns, rfl, hS, hl, fun H' p q s _ _ hat => k H' (dkA p q) p s ⟨q, rfl⟩ hat fun b hb => by
    obtain ⟨cells, h1, h2, _⟩ := hat
    simp only [dkA, List.mem_cons, List.not_mem_nil, or_false] at hb
    rcases hb with rfl | rfl
    · rw [h1]; nofun
    · rw [h2]; nofun⟩
abbrev s_law : Stmt := topS 26
abbrev N_law : List Str := ["script", "deck", "turn", "sizes", "shelf", "row", "other", "due", "same", "value", "found"]
theorem sc_law : FnScope N_law ["script"] (defScope s_law) := ⟨rfl, rfl, rfl, by decide +kernel, rfl, by decide +kernel, by decide +kernel⟩
theorem fn_law {f : Addr} {fd : FuncData} (F : Fun K "law" "law" s_law f fd) (B : Bn K mg C) (HD : HasS P w K mg base "_law_deck" 1 ["script"] (spDeckA K)) (H__law_sizes : Has P w K mg base "_law_sizes" 2 ["deck", "most"] c__law_sizes) (H_Shelf___init__ : HasC P w K mg base "Shelf" C.Shelf 5 ["self", "sizes"] (c_Shelf___init__ C)) (H__law_rows : Has P w K mg base "_law_rows" 3 ["deck", "sizes"] c__law_rows) (HM___str__ : HasM P w K mg base (fun D => D = C.Shelf) "__str__" 1 ["self"] (fun _ => c_Shelf___str__ C)) (H__law_odd : Has P w K mg base "_law_odd" 2 ["deck"] c__law_odd) (H__law_text : Has P w K mg base "_law_text" 1 ["sizes"] c__law_text) (HM___contains__ : HasM P w K mg base (fun D => D = C.Shelf) "__contains__" 2 ["self", "value"] (fun _ => c_Shelf___contains__ C)) (HM___eq__ : HasM P w K mg base (fun D => D = C.Shelf) "__eq__" 1 ["self", "other"] (fun _ => c_Shelf___eq__ C)) (H__law_more : Has P w K mg base "_law_more" 1 ["some", "others"] c__law_more) : FnG P w K mg base 7 f fd ["script"] (spLaw K) := by
  refine law_start (N := N_law) (k := 6) (m := 9) (kd := false) (spD0 := spDeckA) F sc_law rfl rfl spDeckA_ok fun cdv A outer s H hgd0 hr => ?_
  have hu := hr.units
  have hu1 : (A.deeper (envOfC "law" (defScope s_law) s.heap.objs.size f cdv)).units + 65 < cLine := by have := hr.un; omega
  have hu0 : (A.deeper (envOfC "law" (defScope s_law) s.heap.objs.size f cdv)).units + 1 < cLine := by have := hr.un; omega
  have hgd : (A.deeper (envOfC "law" (defScope s_law) s.heap.objs.size f cdv)).guards = some [] := hgd0
  refine ⟨ps_set (i := 1) sc_law.nd rfl (Or.inl rfl) (pe_hasS HD hgd (hr.mono (by decide)) (by rfl) (pa_cons (pv 0) pa_nil)), fun Y => ⟨_, (dss_cons (ds_for PassesOwn.never rfl (di_range1 (by rfl) B.range (wa_cons we_int wa_nil)) ⟨(pg_name (i := 2) sc_law.nd rfl (Or.inl rfl)), gok_name⟩ (dss_cons (ds_set (i := 3) sc_law.nd rfl (Or.inl rfl) (xe_d (we_has H__law_sizes hgd (hr.mono (by decide)) (by rfl) (wa_cons (we_var 1) (wa_cons (we_ix (we_ofM (me_lst (wa_cons we_int (wa_cons we_int wa_nil)))) (we_bin op_mod bi_I (we_var 2) we_int) (fun _ _ => rfl)) wa_nil))))) (dss_cons (ds_set (i := 4) sc_law.nd rfl (Or.inl rfl) (xe_d (we_hasC takes0 wok0 H_Shelf___init__ hgd (hr.mono (by decide)) (by rfl) (wa_cons (we_unc (we_var 3)) wa_nil)))) (dss_cons (ds_for PassesOwn.never rfl (di_seq (we_has H__law_rows hgd (hr.mono (by decide)) (by rfl) (wa_cons (we_var 1) (wa_cons (we_var 3) wa_nil)))) ⟨(pg_name (i := 5) sc_law.nd rfl (Or.inl rfl)), gok_name⟩ (dss_cons (ds_set (i := 6) sc_law.nd rfl (Or.inl rfl) (xe_d (we_hasC takes0 wok0 H_Shelf___init__ hgd (hr.mono (by decide)) (by rfl) (wa_cons (we_unc (we_var 5)) wa_nil)))) (dss_cons (ds_set (i := 7) sc_law.nd rfl (Or.inl rfl) (xe_d (we_ofM (me_lst (wa_cons (we_cmp op_isN bi_isN (we_has H__law_more hgd (hr.mono (by decide)) (by rfl) (wa_cons (we_var 5) (wa_cons (we_var 3) wa_nil))) we_non (nomark _)) (wa_cons (we_cmp op_isN bi_isN (we_has H__law_more hgd (hr.mono (by decide)) (by rfl) (wa_cons (we_var 3) (wa_cons (we_var 5) wa_nil))) we_non (nomark _)) (wa_cons (we_cmp op_notN bi_notN (we_has H__law_more hgd (hr.mono (by decide)) (by rfl) (wa_cons (we_var 5) (wa_cons (we_var 3) wa_nil))) we_non (nomark _)) wa_nil))))))) (dss_cons (ds_if (wt_cmp (or_neA hu) bi_neA (we_callB (call_reprE hgd hu) ck_reprE (by rfl) B.repr PyProof.Rows.boot_repr (wa_cons (we_ofM (me_lst (wa_cons (we_inO takes0 wok0 HM___contains__ hgd (hr.mono (by decide)) rfl (we_var 6) (we_var 4)) (wa_cons (we_inO takes0 wok0 HM___contains__ hgd (hr.mono (by decide)) rfl (we_var 4) (we_var 6)) (wa_cons (we_notInO takes0 wok0 HM___contains__ hgd (hr.mono (by decide)) rfl (we_var 6) (we_var 4)) wa_nil))))) wa_nil)) (we_callB (call_reprE hgd hu) ck_reprE (by rfl) B.repr PyProof.Rows.boot_repr (wa_cons (we_var 7) wa_nil)) (nomark _)) (dss_one (ds_ret we_bl)) dss_nil) (dss_cons (ds_set (i := 8) sc_law.nd rfl (Or.inl rfl) (xe_d (we_cmp (or_eqA hu) bi_eqA (we_ofM (me_callB cr_sortIT ck_sortIT (by rfl) B.sorted PyProof.Rows.boot_sorted (wa_cons (we_unc (we_var 5)) wa_nil))) (we_ofM (me_callB cr_sortIT ck_sortIT (by rfl) B.sorted PyProof.Rows.boot_sorted (wa_cons (we_unc (we_var 3)) wa_nil))) (nomark _)))) (dss_cons (ds_set (i := 7) sc_law.nd rfl (Or.inl rfl) (xe_d (we_ofM (me_lst (wa_cons (we_var 8) (wa_cons (we_var 8) (wa_cons (we_not (we_var 8)) (wa_cons (we_not (we_var 8)) wa_nil)))))))) (dss_cons (ds_if (wt_cmp (or_neA hu) bi_neA (we_callB (call_reprE hgd hu) ck_reprE (by rfl) B.repr PyProof.Rows.boot_repr (wa_cons (we_ofM (me_lst (wa_cons (we_eqO takes0 wok0 HM___eq__ hgd (hr.mono (by decide)) rfl (Nat.lt_of_succ_lt hu0) (we_var 4) (we_var 6)) (wa_cons (we_eqO takes0 wok0 HM___eq__ hgd (hr.mono (by decide)) rfl (Nat.lt_of_succ_lt hu0) (we_var 6) (we_var 4)) (wa_cons (we_neO takes0 wok0 HM___eq__ hgd (hr.mono (by decide)) rfl hu0 (we_var 4) (we_var 6)) (wa_cons (we_neO takes0 wok0 HM___eq__ hgd (hr.mono (by decide)) rfl hu0 (we_var 6) (we_var 4)) wa_nil)))))) wa_nil)) (we_callB (call_reprE hgd hu) ck_reprE (by rfl) B.repr PyProof.Rows.boot_repr (wa_cons (we_var 7) wa_nil)) (nomark _)) (dss_one (ds_ret we_bl)) dss_nil) (dss_one (ds_if (wt_cmp (or_neA hu) bi_neA (we_strO takes0 wok0 HM___str__ hgd (hr.mono (by decide)) rfl (by rfl) B.str (we_var 6)) (we_has H__law_text hgd (hr.mono (by decide)) (by rfl) (wa_cons (we_unc (we_var 5)) wa_nil)) (nomark _)) (dss_one (ds_ret we_bl)) dss_nil))))))))) (dss_cons (ds_for PassesOwn.never rfl (di_seq (we_ofM (me_lst (wa_cons (we_unc (we_var 3)) (wa_cons (we_ofM (me_callTy call_list_of ck_list (by rfl) B.list PyProof.Rows.boot_list (wa_cons (we_unc (we_var 3)) wa_nil))) (wa_cons we_non (wa_cons we_int (wa_cons (we_tup wa_nil) (wa_cons (we_strO takes0 wok0 HM___str__ hgd (hr.mono (by decide)) rfl (by rfl) B.str (we_var 4)) (wa_cons (we_has H__law_odd hgd (hr.mono (by decide)) (by rfl) (wa_cons (we_var 1) wa_nil)) (wa_cons we_bl wa_nil))))))))))) ⟨(pg_name (i := 9) sc_law.nd rfl (Or.inl rfl)), gok_name⟩ (dss_cons (ds_set (i := 10) sc_law.nd rfl (Or.inl rfl) (xe_d (we_ofM (me_lst (wa_cons (we_inO takes0 wok0 HM___contains__ hgd (hr.mono (by decide)) rfl (we_var 9) (we_var 4)) (wa_cons (we_eqA takes0 wok0 HM___eq__ hgd (hr.mono (by decide)) rfl (Nat.lt_of_succ_lt hu0) (we_var 4) (we_var 9)) (wa_cons (we_eqB takes0 wok0 HM___eq__ hgd (hr.mono (by decide)) rfl (Nat.lt_of_succ_lt hu0) (we_var 9) (we_var 4)) (wa_cons (we_neA takes0 wok0 HM___eq__ hgd (hr.mono (by decide)) rfl hu0 (we_var 4) (we_var 9)) wa_nil)))))))) (dss_one (ds_if (wt_cmp (or_neA hu) bi_neA (we_callB (call_reprE hgd hu) ck_reprE (by rfl) B.repr PyProof.Rows.boot_repr (wa_cons (we_var 10) wa_nil)) (we_callB (call_reprE hgd hu) ck_reprE (by rfl) B.repr PyProof.Rows.boot_repr (wa_cons (we_ofM (me_lst (wa_cons we_bl (wa_cons we_bl (wa_cons we_bl (wa_cons we_bl wa_nil)))))) wa_nil)) (nomark _)) (dss_one (ds_ret we_bl)) dss_nil)))) (dss_one (ds_if (wt_cmp (or_neA hu) bi_neA (we_unc (we_fldK (Kx := K) rfl (we_var 4))) (we_callTy call_tuple_of ck_tuple (by rfl) B.tuple PyProof.Rows.boot_tuple (wa_cons (we_ofM (me_callB cr_sortIT ck_sortIT (by rfl) B.sorted PyProof.Rows.boot_sorted (wa_cons (we_unc (we_var 3)) wa_nil))) wa_nil)) (nomark _)) (dss_one (ds_ret we_bl)) dss_nil))))))) (dss_one (ds_ret (we_and (we_cmp (or_eqA hu) bi_eqA (we_strO takes0 wok0 HM___str__ hgd (hr.mono (by decide)) rfl (by rfl) B.str (we_hasC takes0 wok0 H_Shelf___init__ hgd (hr.mono (by decide)) (by rfl) (wa_cons (we_tup (wa_cons we_int (wa_cons we_int wa_nil))) wa_nil))) we_str (nomark _)) (we_one (we_cmp (or_eqA hu) bi_eqA (we_strO takes0 wok0 HM___str__ hgd (hr.mono (by decide)) rfl (by rfl) B.str (we_hasC takes0 wok0 H_Shelf___init__ hgd (hr.mono (by decide)) (by rfl) (wa_cons (we_tup (wa_cons (we_bin op_pow bi_I we_int we_int) wa_nil)) wa_nil))) we_str (nomark _))))))), ?_⟩⟩
  have sT : ∀ d : PyData, PySem.W.subIn K (.ref C.Shelf) (.type (tyD d)) = some false := fun d => by
    cases d <;> first | exact B.s_Shelf_NoneType | exact B.s_Shelf_bool | exact B.s_Shelf_int | exact B.s_Shelf_str | exact B.s_Shelf_list | exact B.s_Shelf_tuple | exact B.s_Shelf_dict
  have qT : ∀ d : PyData, PySem.W.notFirst K C.Shelf (.type (tyD d)) = true := fun d => nf_ty (by
    cases d <;> first | exact B.q_NoneType_Shelf | exact B.q_bool_Shelf | exact B.q_int_Shelf | exact B.q_str_Shelf | exact B.q_list_Shelf | exact B.q_tuple_Shelf | exact B.q_dict_Shelf)
  refine ⟨7, rfl, by decide, by decide, forR_inv (fun k ρ n => n.n ≤ k * 1000 ∧ ∃ b2 b3 b4 b5 b6 b7 b8 b9 b10, ρ = [none, some (.deck false), b2, b3, b4, b5, b6, b7, b8, b9, b10])
    ⟨Nat.zero_le _, _, _, _, _, _, _, _, _, _, rfl⟩ ?_ ?_⟩
  · rintro k y ρ n hy ⟨hn, b2, b3, b4, b5, b6, b7, b8, b9, b10, rfl⟩
    obtain ⟨rfl, hk⟩ := rngD_mem hy
    have hk : k < 7 := hk
    obtain ⟨d0, hd0, hd02⟩ := pick2 (a := .int 40) (b := .int 5) (r := (0 + (k : Int)) % 2) (by omega) (by omega)
    obtain ⟨g, rfl, m1, m2⟩ : ∃ g : Int, d0 = .int g ∧ 0 ≤ g ∧ g ≤ 40 := by
      rcases hd02 with rfl | rfl
      · exact ⟨_, rfl, by decide, by decide⟩
      · exact ⟨_, rfl, by decide, by decide⟩
    refine ⟨_, rfl, by show 2 ≤ sizeLine; decide, _, rfl, (by decide : (0 : Int) < 2), _, _, rfl, hd0, rfl, g, rfl, m1, by omega, by omega, fun S n1 hS hSl hn1 => ?_⟩
    have hn1' : n1.n ≤ n.n + 300 := hn1.1
    have hSl : S.length ≤ 40 := by omega
    refine ⟨_, rfl, S, rfl, fun x hx => ⟨x, _, rfl, nr_ints S, Wo.put_at, sh_no hS (by omega), fun S' e _ _ => ⟨rfl, ?_⟩⟩⟩
    obtain rfl := map_int_inj (PyData.tuple.inj e)
    rw [Wo.put_put]
    have ox : (n1.put x ⟨C.Shelf, shC (srt S)⟩).ob x = some ⟨C.Shelf, shC (srt S)⟩ := Wo.put_at
    have hN : (n1.put x ⟨C.Shelf, shC (srt S)⟩).n = n1.n := rfl
    generalize n1.put x ⟨C.Shelf, shC (srt S)⟩ = n2 at ox hN ⊢
    refine ⟨_, rfl, _, rfl, rfl, S, rfl, hS, hSl, by omega, fun Rs n3 hRs hRl hn3 => ?_⟩
    have hn3' : n3.n ≤ n2.n + 500 := hn3.1
    have ox := grw_le hn3 _ _ ox
    have jS : In1 (10 ^ 6) (srt S) := fun z hz => hS z (mem_srt.mp hz)
    have kS : (srt S).length ≤ 40 := Nat.le_trans (Nat.le_of_eq (srt_perm S).length_eq) hSl
    refine ⟨_, rfl, ?_⟩
    refine forR_inv (fun j ρ m => Grw n3 m ∧ ∃ d5 d6 d7 d8 d9 d10, ρ = [none, some (.deck false), some (.dat (.int (0 + k))), some (.dat (clnD S)), some (.dat (refD x)), d5, d6, d7, d8, d9, d10]) ⟨Grw.rfl', _, _, _, _, _, _, rfl⟩ ?_ ?_
    · rintro j y ρ m hy ⟨gm, d5, d6, d7, d8, d9, d10, rfl⟩
      rw [List.getElem?_map] at hy
      obtain ⟨T, hT, rfl⟩ := Option.map_eq_some_iff.mp hy
      obtain ⟨iT, lT⟩ := hRs T (List.mem_of_getElem? hT)
      have ox := gm.2 _ _ ox
      refine ⟨_, rfl, T, rfl, fun u hu => ⟨u, _, rfl, nr_ints T, Wo.put_at, sh_no iT (by omega), fun S' e _ _ => ⟨rfl, ?_⟩⟩⟩
      obtain rfl := map_int_inj (PyData.tuple.inj e)
      rw [Wo.put_put]
      have gm := gm.tr (grw_put (v := ⟨C.Shelf, shC (srt T)⟩) hu)
      have ox := keepO (v := ⟨C.Shelf, shC (srt T)⟩) ox hu
      have ou : (m.put u ⟨C.Shelf, shC (srt T)⟩).ob u = some ⟨C.Shelf, shC (srt T)⟩ := Wo.put_at
      generalize m.put u ⟨C.Shelf, shC (srt T)⟩ = m2 at gm ox ou ⊢
      refine ⟨_, rfl, _, rfl, rfl, T, S, rfl, rfl, rfl, ?_⟩
      refine ⟨_, rfl, _, rfl, rfl, S, T, rfl, rfl, rfl, ?_⟩
      refine ⟨_, rfl, _, rfl, rfl, T, S, rfl, rfl, rfl, ?_⟩
      refine ⟨by show 3 ≤ sizeLine; decide, ?_⟩
      refine ⟨_, rfl, _, rfl, x, _, rfl, ox, rfl, x, srt S, ox, .inl ⟨u, srt T, rfl, ou, _, rfl, ?_⟩⟩
      refine ⟨_, rfl, _, rfl, u, _, rfl, ou, rfl, u, srt T, ou, .inl ⟨x, srt S, rfl, ox, _, rfl, ?_⟩⟩
      refine ⟨_, rfl, _, rfl, x, _, rfl, ox, rfl, x, srt S, ox, .inl ⟨u, srt T, rfl, ou, _, rfl, ?_⟩⟩
      refine ⟨by show 3 ≤ sizeLine; decide, _, rfl, rfl, tame_bs [_, _, _] (Nat.le_of_ble_eq_true rfl), ?_⟩
      refine ⟨_, rfl, _, rfl, rfl, tame_bs [_, _, _] (Nat.le_of_ble_eq_true rfl), _, rfl, ?_⟩
      show if (!decide ((PyData.list [.bool (missZ (srt S) (srt T)).isNone, .bool (missZ (srt T) (srt S)).isNone, .bool (!(missZ (srt S) (srt T)).isNone)]).shown = (PyData.list [.bool (isN (missD (srt S) (srt T))), .bool (isN (missD (srt T) (srt S))), .bool (!isN (missD (srt S) (srt T)))]).shown)) = true then _ else _
      refine ifN (decide_eq_true (by rw [isN_miss, isN_miss])) ?_
      refine ⟨_, rfl, T, rfl, _, T, rfl, rfl, fun T' hp hs' => ?_⟩
      obtain rfl := srt_uniq hp hs'
      refine ⟨_, rfl, S, rfl, _, S, rfl, rfl, fun S' hp hs' => ?_⟩
      obtain rfl := srt_uniq hp hs'
      refine ⟨rfl, rfl, sh_ints _, sh_ints _, ?_⟩
      refine ⟨_, rfl, _, rfl, _, rfl, _, rfl, by show 4 ≤ sizeLine; decide, ?_⟩
      refine ⟨_, rfl, _, rfl, x, _, u, _, rfl, rfl, ox, ou, rfl, nf_same, x, srt S, ox, .inl ⟨u, srt T, rfl, ou, _, rfl, ?_⟩⟩
      refine ⟨_, rfl, _, rfl, u, _, x, _, rfl, rfl, ou, ox, rfl, nf_same, u, srt T, ou, .inl ⟨x, srt S, rfl, ox, _, rfl, ?_⟩⟩
      refine ⟨_, rfl, _, rfl, x, _, u, _, rfl, rfl, ox, ou, rfl, nf_same, B.ne_Shelf, B.mo_Shelf, x, srt S, ox, .inl ⟨u, srt T, rfl, ou, _, rfl, ?_⟩⟩
      refine ⟨_, rfl, _, rfl, u, _, x, _, rfl, rfl, ou, ox, rfl, nf_same, B.ne_Shelf, B.mo_Shelf, u, srt T, ou, .inl ⟨x, srt S, rfl, ox, _, rfl, ?_⟩⟩
      refine ⟨by show 4 ≤ sizeLine; decide, _, rfl, rfl, tame_bs [_, _, _, _] (Nat.le_of_ble_eq_true rfl), ?_⟩
      refine ⟨_, rfl, _, rfl, rfl, tame_bs [_, _, _, _] (Nat.le_of_ble_eq_true rfl), _, rfl, ?_⟩
      have eq2 : PyData.eqv (.list ((srt T).map .int)) (.list ((srt S).map .int)) = decide (srt T = srt S) := eqv_ints _ _
      have dcm : decide (srt S = srt T) = decide (srt T = srt S) := decide_eq_decide.mpr ⟨Eq.symm, Eq.symm⟩
      show if (!decide ((PyData.list [.bool (decide (srt S = srt T)), .bool (decide (srt T = srt S)), .bool (!decide (srt S = srt T)), .bool (!decide (srt T = srt S))]).shown = (PyData.list [.bool (PyData.eqv (.list ((srt T).map .int)) (.list ((srt S).map .int))), .bool (PyData.eqv (.list ((srt T).map .int)) (.list ((srt S).map .int))), .bool (!PyData.eqv (.list ((srt T).map .int)) (.list ((srt S).map .int))), .bool (!PyData.eqv (.list ((srt T).map .int)) (.list ((srt S).map .int)))]).shown)) = true then _ else _
      refine ifN (decide_eq_true (by rw [eq2, dcm])) ?_
      have iT2 : In1 (10 ^ 6) (srt T) := fun z hz => iT z (mem_srt.mp hz)
      have lT2 : (srt T).length ≤ 100 := Nat.le_trans (Nat.le_of_eq (srt_perm T).length_eq) lT
      refine ⟨_, rfl, u, _, rfl, ou, rfl, u, srt T, rfl, lT2, iT2, ou, _, rfl, ?_⟩
      refine ⟨_, rfl, T, rfl, rfl, T, rfl, iT, lT, ?_⟩
      refine ⟨_, rfl, ?_⟩
      show if (!decide (txt8 (srt T) = txt8 (srt T))) = true then _ else _
      exact ifN (decide_eq_true rfl) ⟨gm, _, _, _, _, _, _, rfl⟩
    · rintro ρ m ⟨gm, d5, d6, d7, d8, d9, d10, rfl⟩
      have hm : m.n = n3.n := gm.1
      have ox := gm.2 _ _ ox
      refine ⟨_, rfl, S, rfl, _, rfl, S, rfl, _, _, rfl, rfl, Nat.zero_le _, ?_⟩
      refine ⟨_, rfl, x, _, rfl, ox, rfl, x, srt S, rfl, by omega, jS, ox, _, rfl, ?_⟩
      refine ⟨_, rfl, rfl, rfl, by omega, fun d gd => ?_⟩
      refine ⟨by show 8 ≤ sizeLine; decide, _, rfl, ?_⟩
      have ox1 : (m + 1).ob x = some ⟨C.Shelf, shC (srt S)⟩ := ox
      refine forR_inv (fun j ρ m' => m' = m + 1 ∧ ∃ d5 d6 d7 d8 d9 d10, ρ = [none, some (.deck false), some (.dat (.int (0 + k))), some (.dat (clnD S)), some (.dat (refD x)), d5, d6, d7, d8, d9, d10]) ⟨rfl, _, _, _, _, _, _, rfl⟩ ?_ ?_
      · rintro j v ρ m' hy ⟨rfl, d5, d6, d7, d8, d9, d10, rfl⟩
        have hv : isRefD v = false := by
          have hy := List.mem_of_getElem? hy
          simp only [List.mem_cons, List.not_mem_nil, or_false] at hy
          rcases hy with rfl | rfl | rfl | rfl | rfl | rfl | rfl | rfl
          · exact (nr_ints S).nr
          · rfl
          · rfl
          · rfl
          · rfl
          · rfl
          · exact gd.nr.nr
          · rfl
        refine ⟨_, rfl, _, rfl, x, _, rfl, ox1, rfl, x, srt S, ox1, .inr ⟨v, rfl, hv, _, rfl, ?_⟩⟩
        refine ⟨_, rfl, _, rfl, x, _, _, rfl, ox1, .inl ⟨hv, rfl⟩, rfl, qT v, x, srt S, ox1, .inr ⟨v, rfl, hv, _, rfl, ?_⟩⟩
        refine ⟨_, rfl, _, rfl, v, x, _, rfl, hv, rfl, ox1, rfl, sT v, x, srt S, ox1, .inr ⟨v, rfl, hv, _, rfl, ?_⟩⟩
        refine ⟨_, rfl, _, rfl, x, _, _, rfl, ox1, .inl ⟨hv, rfl⟩, rfl, qT v, B.ne_Shelf, B.mo_Shelf, x, srt S, ox1, .inr ⟨v, rfl, hv, _, rfl, ?_⟩⟩
        refine ⟨by show 4 ≤ sizeLine; decide, ?_⟩
        refine ⟨_, rfl, _, rfl, rfl, tame_bs [_, _, _, _] (Nat.le_of_ble_eq_true rfl), by show 4 ≤ sizeLine; decide, _, rfl, rfl, tame_bs [_, _, _, _] (Nat.le_of_ble_eq_true rfl), _, rfl, ?_⟩
        show if (!decide ((PyData.list [.bool false, .bool false, .bool false, .bool true]).shown = (PyData.list [.bool false, .bool false, .bool false, .bool true]).shown)) = true then _ else _
        exact ifN (decide_eq_true rfl) ⟨rfl, _, _, _, _, _, _, rfl⟩
      · rintro ρ m' ⟨rfl, d5, d6, d7, d8, d9, d10, rfl⟩
        refine ⟨_, rfl, x, _, _, rfl, ox1, B.fl_Shelf_sizes, rfl, srt S, rfl, _, rfl, S, rfl, _, S, rfl, rfl, fun S' hp hs' => ?_⟩
        obtain rfl := srt_uniq hp hs'
        refine ⟨_, _, rfl, rfl, rfl, rfl, sh_ints _, sh_ints _, _, rfl, ?_⟩
        refine ifN ((eqv_ints _ _).trans (decide_eq_true rfl)) ⟨?_, _, _, _, _, _, _, _, _, _, rfl⟩
        show m.n + 1 ≤ _
        omega
  · rintro ρ n ⟨hn, b2, b3, b4, b5, b6, b7, b8, b9, b10, rfl⟩
    have i1 : In1 (10 ^ 6) [12000, 9] := by intro x hx; simp only [List.mem_cons, List.not_mem_nil, or_false] at hx; rcases hx with rfl | rfl <;> decide
    have s1 : srt [12000, 9] = [9, 12000] := (srt_uniq (by decide) (by decide)).symm
    have j1 : In1 (10 ^ 6) [9, 12000] := by intro x hx; simp only [List.mem_cons, List.not_mem_nil, or_false] at hx; rcases hx with rfl | rfl <;> decide
    have i2 : In1 (10 ^ 6) [(10 : Int) ^ (6 : Int).toNat] := by intro x hx; simp only [List.mem_cons, List.not_mem_nil, or_false] at hx; rcases hx with rfl; decide
    refine ⟨by show 2 ≤ sizeLine; decide, fun x hx => ⟨x, _, rfl, nr_ints [12000, 9], Wo.put_at, fun he => sh_no i1 (by decide) he, fun S' e _ _ => ⟨rfl, ?_⟩⟩⟩
    obtain rfl : [12000, 9] = S' := map_int_inj (PyData.tuple.inj e)
    rw [Wo.put_put, s1]
    refine ⟨x, _, rfl, Wo.put_at, rfl, x, [9, 12000], rfl, by decide, j1, Wo.put_at, _, rfl, ?_⟩
    refine asB_T (R := fun c => if c = true then _ else _) (decide_eq_true (by decide +kernel : txt8 [9, 12000] = "       9  12,000")) (iteT (B := False) ?_)
    refine ⟨⟨by decide, by decide, by decide⟩, by show 1 ≤ sizeLine; decide, fun y hy => ⟨y, _, rfl, nr_ints [(10 : Int) ^ (6 : Int).toNat], Wo.put_at, fun he => sh_no i2 (by decide) he, fun S' e _ _ => ⟨rfl, ?_⟩⟩⟩
    obtain rfl : [(10 : Int) ^ (6 : Int).toNat] = S' := map_int_inj (PyData.tuple.inj e)
    rw [Wo.put_put, srt_one]
    refine ⟨y, _, rfl, Wo.put_at, rfl, y, _, rfl, by decide, i2, Wo.put_at, _, rfl, ?_⟩
    show PyData.bool (decide (txt8 [(10 : Int) ^ (6 : Int).toNat] = "1,000,000")) = .bool true
    rw [decide_eq_true (by decide +kernel : txt8 [(10 : Int) ^ (6 : Int).toNat] = "1,000,000")]
end
theorem all_mk {l : PySem.W.OpenLaw} {w : World} {K : PySem.W.Frag} {h : Heap} {mg : Str → Option Value} {fa : Addr} {C : CA} (X : K.In h) (G : h.Ns mainGlobals mg) (hfa : mg "law" = some (.ref fa))
    {f0 : Addr} {od0 an0 : Option Addr} {sl0 : Array (Option Value)} {oc0 kV0 dc0 pm0 cd0 ct0 : Value}
    (a0 : PySem.W.nsIn K mainGlobals "_law_deck" = some (some (.ref f0)))
    (l0 : K.lookup f0 = some ⟨oc0, od0, .func (PySem.W.fnOf "_law_deck" "_law_deck" (defArgs s__law_deck) (defBody s__law_deck) (defScope s__law_deck) .none kV0 dc0 pm0 an0 cd0 ct0), sl0⟩) (c0 : PySem.W.codeIn K cd0 "_law_deck" = true) (k0 : PySem.W.keepIn K (.ref f0) = true)
    {f1 : Addr} {od1 an1 : Option Addr} {sl1 : Array (Option Value)} {oc1 kV1 dc1 pm1 cd1 ct1 : Value}
    (a1 : PySem.W.nsIn K mainGlobals "_law_draw" = some (some (.ref f1)))
    (l1 : K.lookup f1 = some ⟨oc1, od1, .func (PySem.W.fnOf "_law_draw" "_law_draw" (defArgs s__law_draw) (defBody s__law_draw) (defScope s__law_draw) .none kV1 dc1 pm1 an1 cd1 ct1), sl1⟩) (c1 : PySem.W.codeIn K cd1 "_law_draw" = true) (k1 : PySem.W.keepIn K (.ref f1) = true)
    {f2 : Addr} {od2 an2 : Option Addr} {sl2 : Array (Option Value)} {oc2 kV2 dc2 pm2 cd2 ct2 : Value}
    (a2 : PySem.W.nsIn K mainGlobals "_law_sizes" = some (some (.ref f2)))
    (l2 : K.lookup f2 = some ⟨oc2, od2, .func (PySem.W.fnOf "_law_sizes" "_law_sizes" (defArgs s__law_sizes) (defBody s__law_sizes) (defScope s__law_sizes) .none kV2 dc2 pm2 an2 cd2 ct2), sl2⟩) (c2 : PySem.W.codeIn K cd2 "_law_sizes" = true) (k2 : PySem.W.keepIn K (.ref f2) = true)
    {f3 : Addr} {od3 an3 : Option Addr} {sl3 : Array (Option Value)} {oc3 kV3 dc3 pm3 cd3 ct3 : Value}
    (a3 : PySem.W.nsIn K mainGlobals "is_tuple" = some (some (.ref f3)))
    (l3 : K.lookup f3 = some ⟨oc3, od3, .func (PySem.W.fnOf "is_tuple" "is_tuple" (defArgs s_is_tuple) (defBody s_is_tuple) (defScope s_is_tuple) .none kV3 dc3 pm3 an3 cd3 ct3), sl3⟩) (c3 : PySem.W.codeIn K cd3 "is_tuple" = true) (k3 : PySem.W.keepIn K (.ref f3) = true)
    {f4 : Addr} {od4 an4 : Option Addr} {sl4 : Array (Option Value)} {oc4 kV4 dc4 pm4 cd4 ct4 : Value}
    (a4 : PySem.W.nsIn K mainGlobals "is_number" = some (some (.ref f4)))
    (l4 : K.lookup f4 = some ⟨oc4, od4, .func (PySem.W.fnOf "is_number" "is_number" (defArgs s_is_number) (defBody s_is_number) (defScope s_is_number) .none kV4 dc4 pm4 an4 cd4 ct4), sl4⟩) (c4 : PySem.W.codeIn K cd4 "is_number" = true) (k4 : PySem.W.keepIn K (.ref f4) = true)
    {f5 : Addr} {od5 an5 : Option Addr} {sl5 : Array (Option Value)} {oc5 kV5 dc5 pm5 cd5 ct5 : Value}
    (a5 : PySem.W.nsIn K mainGlobals "is_number_from" = some (some (.ref f5)))
    (l5 : K.lookup f5 = some ⟨oc5, od5, .func (PySem.W.fnOf "is_number_from" "is_number_from" (defArgs s_is_number_from) (defBody s_is_number_from) (defScope s_is_number_from) .none kV5 dc5 pm5 an5 cd5 ct5), sl5⟩) (c5 : PySem.W.codeIn K cd5 "is_number_from" = true) (k5 : PySem.W.keepIn K (.ref f5) = true)
    {f6 : Addr} {od6 an6 : Option Addr} {sl6 : Array (Option Value)} {oc6 kV6 dc6 pm6 cd6 ct6 : Value}
    (a6 : PySem.W.nsIn K mainGlobals "is_size" = some (some (.ref f6)))
    (l6 : K.lookup f6 = some ⟨oc6, od6, .func (PySem.W.fnOf "is_size" "is_size" (defArgs s_is_size) (defBody s_is_size) (defScope s_is_size) .none kV6 dc6 pm6 an6 cd6 ct6), sl6⟩) (c6 : PySem.W.codeIn K cd6 "is_size" = true) (k6 : PySem.W.keepIn K (.ref f6) = true)
    {f7 : Addr} {od7 an7 : Option Addr} {sl7 : Array (Option Value)} {oc7 kV7 dc7 pm7 cd7 ct7 : Value}
    (a7 : PySem.W.nsIn K mainGlobals "_is_tuple_of_sizes" = some (some (.ref f7)))
    (l7 : K.lookup f7 = some ⟨oc7, od7, .func (PySem.W.fnOf "_is_tuple_of_sizes" "_is_tuple_of_sizes" (defArgs s__is_tuple_of_sizes) (defBody s__is_tuple_of_sizes) (defScope s__is_tuple_of_sizes) .none kV7 dc7 pm7 an7 cd7 ct7), sl7⟩) (c7 : PySem.W.codeIn K cd7 "_is_tuple_of_sizes" = true) (k7 : PySem.W.keepIn K (.ref f7) = true)
    {f8 : Addr} {od8 an8 : Option Addr} {sl8 : Array (Option Value)} {oc8 kV8 dc8 pm8 cd8 ct8 : Value}
    (a8 : PySem.W.nsIn K mainGlobals "_law_mixed" = some (some (.ref f8)))
    (l8 : K.lookup f8 = some ⟨oc8, od8, .func (PySem.W.fnOf "_law_mixed" "_law_mixed" (defArgs s__law_mixed) (defBody s__law_mixed) (defScope s__law_mixed) .none kV8 dc8 pm8 an8 cd8 ct8), sl8⟩) (c8 : PySem.W.codeIn K cd8 "_law_mixed" = true) (k8 : PySem.W.keepIn K (.ref f8) = true)
    {f9 : Addr} {od9 an9 : Option Addr} {sl9 : Array (Option Value)} {oc9 kV9 dc9 pm9 cd9 ct9 : Value}
    (a9 : PySem.W.nsIn K mainGlobals "_law_rows" = some (some (.ref f9)))
    (l9 : K.lookup f9 = some ⟨oc9, od9, .func (PySem.W.fnOf "_law_rows" "_law_rows" (defArgs s__law_rows) (defBody s__law_rows) (defScope s__law_rows) .none kV9 dc9 pm9 an9 cd9 ct9), sl9⟩) (c9 : PySem.W.codeIn K cd9 "_law_rows" = true) (k9 : PySem.W.keepIn K (.ref f9) = true)
    {f10 : Addr} {od10 an10 : Option Addr} {sl10 : Array (Option Value)} {oc10 kV10 dc10 pm10 cd10 ct10 : Value}
    (a10 : PySem.W.nsIn K mainGlobals "_law_odd" = some (some (.ref f10)))
    (l10 : K.lookup f10 = some ⟨oc10, od10, .func (PySem.W.fnOf "_law_odd" "_law_odd" (defArgs s__law_odd) (defBody s__law_odd) (defScope s__law_odd) .none kV10 dc10 pm10 an10 cd10 ct10), sl10⟩) (c10 : PySem.W.codeIn K cd10 "_law_odd" = true) (k10 : PySem.W.keepIn K (.ref f10) = true)
    {f11 : Addr} {od11 an11 : Option Addr} {sl11 : Array (Option Value)} {oc11 kV11 dc11 pm11 cd11 ct11 : Value}
    (a11 : PySem.W.nsIn K mainGlobals "_law_text" = some (some (.ref f11)))
    (l11 : K.lookup f11 = some ⟨oc11, od11, .func (PySem.W.fnOf "_law_text" "_law_text" (defArgs s__law_text) (defBody s__law_text) (defScope s__law_text) .none kV11 dc11 pm11 an11 cd11 ct11), sl11⟩) (c11 : PySem.W.codeIn K cd11 "_law_text" = true) (k11 : PySem.W.keepIn K (.ref f11) = true)
    {f12 : Addr} {od12 an12 : Option Addr} {sl12 : Array (Option Value)} {oc12 kV12 dc12 pm12 cd12 ct12 : Value}
    (a12 : PySem.W.nsIn K mainGlobals "_first_missing" = some (some (.ref f12)))
    (l12 : K.lookup f12 = some ⟨oc12, od12, .func (PySem.W.fnOf "_first_missing" "_first_missing" (defArgs s__first_missing) (defBody s__first_missing) (defScope s__first_missing) .none kV12 dc12 pm12 an12 cd12 ct12), sl12⟩) (c12 : PySem.W.codeIn K cd12 "_first_missing" = true) (k12 : PySem.W.keepIn K (.ref f12) = true)
    {f13 : Addr} {od13 an13 : Option Addr} {sl13 : Array (Option Value)} {oc13 kV13 dc13 pm13 cd13 ct13 : Value}
    (a13 : PySem.W.nsIn K mainGlobals "_law_more" = some (some (.ref f13)))
    (l13 : K.lookup f13 = some ⟨oc13, od13, .func (PySem.W.fnOf "_law_more" "_law_more" (defArgs s__law_more) (defBody s__law_more) (defScope s__law_more) .none kV13 dc13 pm13 an13 cd13 ct13), sl13⟩) (c13 : PySem.W.codeIn K cd13 "_law_more" = true) (k13 : PySem.W.keepIn K (.ref f13) = true)
    {f14 : Addr} {od14 an14 : Option Addr} {sl14 : Array (Option Value)} {oc14 kV14 dc14 pm14 cd14 ct14 : Value}
    (a14 : PySem.W.nsIn K mainGlobals "law" = some (some (.ref f14)))
    (l14 : K.lookup f14 = some ⟨oc14, od14, .func (PySem.W.fnOf "law" "law" (defArgs s_law) (defBody s_law) (defScope s_law) .none kV14 dc14 pm14 an14 cd14 ct14), sl14⟩) (c14 : PySem.W.codeIn K cd14 "law" = true) (k14 : PySem.W.keepIn K (.ref f14) = true)
    {f15 : Addr} {od15 an15 : Option Addr} {sl15 : Array (Option Value)} {oc15 kV15 dc15 pm15 cd15 ct15 : Value}
    (a15 : PySem.W.findIn K (.ref C.Shelf) "__init__" = some (some (.ref f15))) (fn15 : PySem.W.isFn K (.ref f15) = true)
    (l15 : K.lookup f15 = some ⟨oc15, od15, .func (PySem.W.fnOf "__init__" "Shelf.__init__" (defArgs s_Shelf___init__) (defBody s_Shelf___init__) (defScope s_Shelf___init__) .none kV15 dc15 pm15 an15 cd15 ct15), sl15⟩) (c15 : PySem.W.codeIn K cd15 "Shelf.__init__" = true) (k15 : PySem.W.keepIn K (.ref f15) = true)
    {f16 : Addr} {od16 an16 : Option Addr} {sl16 : Array (Option Value)} {oc16 kV16 dc16 pm16 cd16 ct16 : Value}
    (a16 : PySem.W.findIn K (.ref C.Shelf) "__str__" = some (some (.ref f16))) (fn16 : PySem.W.isFn K (.ref f16) = true)
    (l16 : K.lookup f16 = some ⟨oc16, od16, .func (PySem.W.fnOf "__str__" "Shelf.__str__" (defArgs s_Shelf___str__) (defBody s_Shelf___str__) (defScope s_Shelf___str__) .none kV16 dc16 pm16 an16 cd16 ct16), sl16⟩) (c16 : PySem.W.codeIn K cd16 "Shelf.__str__" = true) (k16 : PySem.W.keepIn K (.ref f16) = true)
    {f17 : Addr} {od17 an17 : Option Addr} {sl17 : Array (Option Value)} {oc17 kV17 dc17 pm17 cd17 ct17 : Value}
    (a17 : PySem.W.findIn K (.ref C.Shelf) "__contains__" = some (some (.ref f17))) (fn17 : PySem.W.isFn K (.ref f17) = true)
    (l17 : K.lookup f17 = some ⟨oc17, od17, .func (PySem.W.fnOf "__contains__" "Shelf.__contains__" (defArgs s_Shelf___contains__) (defBody s_Shelf___contains__) (defScope s_Shelf___contains__) .none kV17 dc17 pm17 an17 cd17 ct17), sl17⟩) (c17 : PySem.W.codeIn K cd17 "Shelf.__contains__" = true) (k17 : PySem.W.keepIn K (.ref f17) = true)
    {f18 : Addr} {od18 an18 : Option Addr} {sl18 : Array (Option Value)} {oc18 kV18 dc18 pm18 cd18 ct18 : Value}
    (a18 : PySem.W.findIn K (.ref C.Shelf) "__eq__" = some (some (.ref f18))) (fn18 : PySem.W.isFn K (.ref f18) = true)
    (l18 : K.lookup f18 = some ⟨oc18, od18, .func (PySem.W.fnOf "__eq__" "Shelf.__eq__" (defArgs s_Shelf___eq__) (defBody s_Shelf___eq__) (defScope s_Shelf___eq__) .none kV18 dc18 pm18 an18 cd18 ct18), sl18⟩) (c18 : PySem.W.codeIn K cd18 "Shelf.__eq__" = true) (k18 : PySem.W.keepIn K (.ref f18) = true)
    {f19 : Addr} {od19 an19 : Option Addr} {sl19 : Array (Option Value)} {oc19 kV19 dc19 pm19 cd19 ct19 : Value}
    (a19 : PySem.W.findIn K (.ref C.BadShelf) "__init__" = some (some (.ref f19))) (tI19 : PySem.W.typeIn K (.ref f19) = some (.type "function"))
    (l19 : K.lookup f19 = some ⟨oc19, od19, .func (PySem.W.fnOf "__init__" "BadShelf.__init__" (defArgs s_BadShelf_init) (defBody s_BadShelf_init) (defScope s_BadShelf_init) .none kV19 dc19 pm19 an19 cd19 ct19), sl19⟩) (c19 : PySem.W.codeIn K cd19 "BadShelf.__init__" = true) (k19 : PySem.W.keepIn K (.ref f19) = true)
    (z_LookupError : PySem.W.nsIn K mainGlobals "LookupError" = some none)
    (z_ValueError : PySem.W.nsIn K mainGlobals "ValueError" = some none)
    (z_abs : PySem.W.nsIn K mainGlobals "abs" = some none)
    (z_all : PySem.W.nsIn K mainGlobals "all" = some none)
    (z_bool : PySem.W.nsIn K mainGlobals "bool" = some none)
    (z_enumerate : PySem.W.nsIn K mainGlobals "enumerate" = some none)
    (z_int : PySem.W.nsIn K mainGlobals "int" = some none)
    (z_isinstance : PySem.W.nsIn K mainGlobals "isinstance" = some none)
    (z_len : PySem.W.nsIn K mainGlobals "len" = some none)
    (z_list : PySem.W.nsIn K mainGlobals "list" = some none)
    (z_max : PySem.W.nsIn K mainGlobals "max" = some none)
    (z_range : PySem.W.nsIn K mainGlobals "range" = some none)
    (z_repr : PySem.W.nsIn K mainGlobals "repr" = some none)
    (z_sorted : PySem.W.nsIn K mainGlobals "sorted" = some none)
    (z_str : PySem.W.nsIn K mainGlobals "str" = some none)
    (z_tuple : PySem.W.nsIn K mainGlobals "tuple" = some none)
    {t_MAX_SIZE : Tok} (y_MAX_SIZE : PySem.W.nsIn K mainGlobals "MAX_SIZE" = some (some (.int (1000000) t_MAX_SIZE)))
    {t_MAX_SHELF : Tok} (y_MAX_SHELF : PySem.W.nsIn K mainGlobals "MAX_SHELF" = some (some (.int (100) t_MAX_SHELF)))
    (h_cg : PySem.W.specialIn K (.builtin "object.__class__") "__get__" = some (some (.builtin "getset_descriptor.__get__")))
    (h_ct : PySem.W.takesIn K (.builtin "object.__class__") = some true)
    (h_a_PartyError : PySem.W.nsIn K mainGlobals "PartyError" = some (some (.ref C.PartyError)))
    (h_a_BadShelf : PySem.W.nsIn K mainGlobals "BadShelf" = some (some (.ref C.BadShelf)))
    (h_ty_BadShelf : PySem.W.typeIn K (.ref C.BadShelf) = some (.type "type"))
    (h_k_BadShelf : PySem.W.keepIn K (.ref C.BadShelf) = true)
    (h_sa_BadShelf : PySem.W.findIn K (.ref C.BadShelf) "__setattr__" = some (some (.builtin "object.__setattr__")))
    (h_a_TooManyPairs : PySem.W.nsIn K mainGlobals "TooManyPairs" = some (some (.ref C.TooManyPairs)))
    (h_a_Missing : PySem.W.nsIn K mainGlobals "Missing" = some (some (.ref C.Missing)))
    (h_a_NoPlace : PySem.W.nsIn K mainGlobals "NoPlace" = some (some (.ref C.NoPlace)))
    (h_a_Shelf : PySem.W.nsIn K mainGlobals "Shelf" = some (some (.ref C.Shelf)))
    (h_cl_Shelf : PySem.W.isClsIn K C.Shelf = true)
    (h_ty_Shelf : PySem.W.typeIn K (.ref C.Shelf) = some (.type "type"))
    (h_k_Shelf : PySem.W.keepIn K (.ref C.Shelf) = true)
    (h_hd_Shelf : PySem.W.hasDictIn K C.Shelf = true)
    (h_ca_Shelf : PySem.W.findIn K (.ref C.Shelf) "__class__" = some (some (.builtin "object.__class__")))
    (h_mo_Shelf : PySem.W.mroIn K C.Shelf (.type "object") = some true)
    (h_sa_Shelf : PySem.W.findIn K (.ref C.Shelf) "__setattr__" = some (some (.builtin "object.__setattr__")))
    (h_s_Shelf_Shelf : PySem.W.subIn K (.ref C.Shelf) (.ref C.Shelf) = some true)
    (h_s_Shelf_list : PySem.W.subIn K (.ref C.Shelf) (.type "list") = some false)
    (h_s_Shelf_tuple : PySem.W.subIn K (.ref C.Shelf) (.type "tuple") = some false)
    (h_s_Shelf_int : PySem.W.subIn K (.ref C.Shelf) (.type "int") = some false)
    (h_s_Shelf_str : PySem.W.subIn K (.ref C.Shelf) (.type "str") = some false)
    (h_s_Shelf_bool : PySem.W.subIn K (.ref C.Shelf) (.type "bool") = some false)
    (h_s_Shelf_NoneType : PySem.W.subIn K (.ref C.Shelf) (.type "NoneType") = some false)
    (h_s_Shelf_dict : PySem.W.subIn K (.ref C.Shelf) (.type "dict") = some false)
    (h_q_NoneType_Shelf : PySem.W.subIn K (.type "NoneType") (.ref C.Shelf) = some false)
    (h_q_bool_Shelf : PySem.W.subIn K (.type "bool") (.ref C.Shelf) = some false)
    (h_q_int_Shelf : PySem.W.subIn K (.type "int") (.ref C.Shelf) = some false)
    (h_q_str_Shelf : PySem.W.subIn K (.type "str") (.ref C.Shelf) = some false)
    (h_q_list_Shelf : PySem.W.subIn K (.type "list") (.ref C.Shelf) = some false)
    (h_q_tuple_Shelf : PySem.W.subIn K (.type "tuple") (.ref C.Shelf) = some false)
    (h_q_dict_Shelf : PySem.W.subIn K (.type "dict") (.ref C.Shelf) = some false)
    (h_sb_BadShelf : PySem.W.subIn K (.ref C.BadShelf) (.type "BaseException") = some true)
    (h_n_BadShelf : PySem.W.findIn K (.ref C.BadShelf) "value" = some none)
    (h_pg_Shelf : PySem.W.plainGet K C.Shelf Str.empty = true)
    (h_po_Shelf : PySem.W.plainOver K C.Shelf = true)
    (h_mk_Shelf : PySem.W.makesIn K C.Shelf = true)
    (h_ne_Shelf : PySem.W.findIn K (.ref C.Shelf) "__ne__" = some (some (.builtin "object.__ne__")))
    (h_f_Shelf_sizes : PySem.W.findIn K (.ref C.Shelf) "sizes" = some none)
    {nm_BadShelf q_BadShelf : Str} {N_BadShelf : Addr} {bs_BadShelf bm_BadShelf : List Value} {sn_BadShelf : List Str} {sub_BadShelf : List Value} {ab_BadShelf : Bool} {col_BadShelf : Option Bool} {dd_BadShelf : Option Addr} {m0_BadShelf m1_BadShelf m2_BadShelf m3_BadShelf m5_BadShelf : Option Value}
    (xL_BadShelf : K.lookup C.BadShelf = some (excClassObj nm_BadShelf q_BadShelf C.BadShelf N_BadShelf bs_BadShelf bm_BadShelf true sn_BadShelf sub_BadShelf ab_BadShelf col_BadShelf dd_BadShelf m0_BadShelf m1_BadShelf m2_BadShelf m3_BadShelf m5_BadShelf "ValueError.__new__")) (xr_BadShelf : PySem.HandSPX.refsVE bm_BadShelf = true)
    (e0_PartyError : PySem.W.excIn K C.PartyError [.type "ValueError", .type "Exception", .type "BaseException", .type "object"] "ValueError.__new__" = true)
    (e0_TooManyPairs : PySem.W.excIn K C.TooManyPairs [.type "ValueError", .type "Exception", .type "BaseException", .type "object"] "ValueError.__new__" = true)
    : ∃ fd : FuncData, (∀ (s : Shared) (v : Value), BindsTo s fd ⟨[v], []⟩ [("script", v)]) ∧ ∀ base : Heap, K.In base → base.Ns mainGlobals mg → FnG l.prog w K mg base 7 fa fd ["script"] (spLaw K) := by
  have e := hfa.symm.trans (PySem.W.mg_of X G a14)
  cases e
  have B : Bn K mg C := { LookupError := PySem.W.mg_none_of X G z_LookupError, ValueError := PySem.W.mg_none_of X G z_ValueError, abs := PySem.W.mg_none_of X G z_abs, all := PySem.W.mg_none_of X G z_all, bool := PySem.W.mg_none_of X G z_bool, enumerate := PySem.W.mg_none_of X G z_enumerate, int := PySem.W.mg_none_of X G z_int, isinstance := PySem.W.mg_none_of X G z_isinstance, len := PySem.W.mg_none_of X G z_len, list := PySem.W.mg_none_of X G z_list, max := PySem.W.mg_none_of X G z_max, range := PySem.W.mg_none_of X G z_range, repr := PySem.W.mg_none_of X G z_repr, sorted := PySem.W.mg_none_of X G z_sorted, str := PySem.W.mg_none_of X G z_str, tuple := PySem.W.mg_none_of X G z_tuple, MAX_SIZE := ⟨_, PySem.W.mg_of X G y_MAX_SIZE⟩, MAX_SHELF := ⟨_, PySem.W.mg_of X G y_MAX_SHELF⟩, g_PartyError := PySem.W.mg_of X G h_a_PartyError, g_BadShelf := PySem.W.mg_of X G h_a_BadShelf, g_TooManyPairs := PySem.W.mg_of X G h_a_TooManyPairs, g_Missing := PySem.W.mg_of X G h_a_Missing, g_NoPlace := PySem.W.mg_of X G h_a_NoPlace, g_Shelf := PySem.W.mg_of X G h_a_Shelf, cg := h_cg, ct := h_ct, ty_BadShelf := h_ty_BadShelf, k_BadShelf := h_k_BadShelf, sa_BadShelf := h_sa_BadShelf, cl_Shelf := h_cl_Shelf, ty_Shelf := h_ty_Shelf, k_Shelf := h_k_Shelf, hd_Shelf := h_hd_Shelf, ca_Shelf := h_ca_Shelf, mo_Shelf := h_mo_Shelf, sa_Shelf := h_sa_Shelf, s_Shelf_Shelf := h_s_Shelf_Shelf, s_Shelf_list := h_s_Shelf_list, s_Shelf_tuple := h_s_Shelf_tuple, s_Shelf_int := h_s_Shelf_int, s_Shelf_str := h_s_Shelf_str, s_Shelf_bool := h_s_Shelf_bool, s_Shelf_NoneType := h_s_Shelf_NoneType, s_Shelf_dict := h_s_Shelf_dict, q_NoneType_Shelf := h_q_NoneType_Shelf, q_bool_Shelf := h_q_bool_Shelf, q_int_Shelf := h_q_int_Shelf, q_str_Shelf := h_q_str_Shelf, q_list_Shelf := h_q_list_Shelf, q_tuple_Shelf := h_q_tuple_Shelf, q_dict_Shelf := h_q_dict_Shelf, sb_BadShelf := h_sb_BadShelf, n_BadShelf := h_n_BadShelf, pg_Shelf := h_pg_Shelf, po_Shelf := h_po_Shelf, mk_Shelf := h_mk_Shelf, ne_Shelf := h_ne_Shelf, f_Shelf_sizes := h_f_Shelf_sizes, e0_PartyError := e0_PartyError, e0_TooManyPairs := e0_TooManyPairs }
  have F0 := fun_mk (st := s__law_deck) l0 c0 k0
  have b0 := F0.binds (ps := ["script"]) fun _ _ _ _ _ _ us hl => match us, hl with | [_], _ => rfl
  have F1 := fun_mk (st := s__law_draw) l1 c1 k1
  have b1 := F1.binds (ps := ["deck", "bound"]) fun _ _ _ _ _ _ us hl => match us, hl with | [_, _], _ => rfl
  have F2 := fun_mk (st := s__law_sizes) l2 c2 k2
  have b2 := F2.binds (ps := ["deck", "most"]) fun _ _ _ _ _ _ us hl => match us, hl with | [_, _], _ => rfl
  have F3 := fun_mk (st := s_is_tuple) l3 c3 k3
  have b3 := F3.binds (ps := ["value", "least", "most"]) fun _ _ _ _ _ _ us hl => match us, hl with | [_, _, _], _ => rfl
  have F4 := fun_mk (st := s_is_number) l4 c4 k4
  have b4 := F4.binds (ps := ["value"]) fun _ _ _ _ _ _ us hl => match us, hl with | [_], _ => rfl
  have F5 := fun_mk (st := s_is_number_from) l5 c5 k5
  have b5 := F5.binds (ps := ["value", "low", "high"]) fun _ _ _ _ _ _ us hl => match us, hl with | [_, _, _], _ => rfl
  have F6 := fun_mk (st := s_is_size) l6 c6 k6
  have b6 := F6.binds (ps := ["value"]) fun _ _ _ _ _ _ us hl => match us, hl with | [_], _ => rfl
  have F7 := fun_mk (st := s__is_tuple_of_sizes) l7 c7 k7
  have b7 := F7.binds (ps := ["value"]) fun _ _ _ _ _ _ us hl => match us, hl with | [_], _ => rfl
  have F8 := fun_mk (st := s__law_mixed) l8 c8 k8
  have b8 := F8.binds (ps := ["deck", "items"]) fun _ _ _ _ _ _ us hl => match us, hl with | [_, _], _ => rfl
  have F9 := fun_mk (st := s__law_rows) l9 c9 k9
  have b9 := F9.binds (ps := ["deck", "sizes"]) fun _ _ _ _ _ _ us hl => match us, hl with | [_, _], _ => rfl
  have F10 := fun_mk (st := s__law_odd) l10 c10 k10
  have b10 := F10.binds (ps := ["deck"]) fun _ _ _ _ _ _ us hl => match us, hl with | [_], _ => rfl
  have F11 := fun_mk (st := s__law_text) l11 c11 k11
  have b11 := F11.binds (ps := ["sizes"]) fun _ _ _ _ _ _ us hl => match us, hl with | [_], _ => rfl
  have F12 := fun_mk (st := s__first_missing) l12 c12 k12
  have b12 := F12.binds (ps := ["sizes", "wanted"]) fun _ _ _ _ _ _ us hl => match us, hl with | [_, _], _ => rfl
  have F13 := fun_mk (st := s__law_more) l13 c13 k13
  have b13 := F13.binds (ps := ["some", "others"]) fun _ _ _ _ _ _ us hl => match us, hl with | [_, _], _ => rfl
  have F15 := fun_mk (st := s_Shelf___init__) l15 c15 k15
  have b15 := F15.binds (ps := ["self", "sizes"]) fun _ _ _ _ _ _ us hl => match us, hl with | [_, _], _ => rfl
  have F16 := fun_mk (st := s_Shelf___str__) l16 c16 k16
  have b16 := F16.binds (ps := ["self"]) fun _ _ _ _ _ _ us hl => match us, hl with | [_], _ => rfl
  have F17 := fun_mk (st := s_Shelf___contains__) l17 c17 k17
  have b17 := F17.binds (ps := ["self", "value"]) fun _ _ _ _ _ _ us hl => match us, hl with | [_, _], _ => rfl
  have F18 := fun_mk (st := s_Shelf___eq__) l18 c18 k18
  have b18 := F18.binds (ps := ["self", "other"]) fun _ _ _ _ _ _ us hl => match us, hl with | [_, _], _ => rfl
  have F19 := fun_mk (st := s_BadShelf_init) l19 c19 k19
  have b19 := F19.binds (ps := ["self", "value"]) fun _ _ _ _ _ _ us hl => match us, hl with | [_, _], _ => rfl
  refine ⟨PySem.W.fnOf "law" "law" (defArgs s_law) (defBody s_law) (defScope s_law) .none kV14 dc14 pm14 an14 cd14 ct14, fun s v => .of_eq rfl, fun base _ _ => ?_⟩
  have T_BadShelf : OexC K C.BadShelf := ⟨⟨_, _, _, _, _, _, _, _, _, _, _, _, _, _, _, xL_BadShelf, xr_BadShelf⟩, h_sa_BadShelf, h_sb_BadShelf, h_ty_BadShelf, h_k_BadShelf⟩
  have H_BadShelf : ErrC l.prog w K mg base "BadShelf" C.BadShelf "value" := ⟨B.g_BadShelf, T_BadShelf, f19, _, _, a19, tI19, ok_BadShelf_init F19 T_BadShelf B, b19⟩
  have H__law_deck : HasS l.prog w K mg base "_law_deck" 1 ["script"] (spDeckA K) := ⟨f0, _, PySem.W.mg_of X G a0, k0, b0, ok_deck F0 B.abs⟩
  have H__law_draw : Has l.prog w K mg base "_law_draw" 1 ["deck", "bound"] c__law_draw := ⟨f1, _, PySem.W.mg_of X G a1, k1, b1, ok_draw F1 B.len B.max⟩
  have H__law_sizes : Has l.prog w K mg base "_law_sizes" 2 ["deck", "most"] c__law_sizes := ⟨f2, _, PySem.W.mg_of X G a2, k2, b2, fn__law_sizes F2 B H__law_draw⟩
  have H_is_tuple : Has l.prog w K mg base "is_tuple" 1 ["value", "least", "most"] c_is_tuple := ⟨f3, _, PySem.W.mg_of X G a3, k3, b3, fn_is_tuple F3 B⟩
  have H_is_number : Has l.prog w K mg base "is_number" 1 ["value"] c_is_number := ⟨f4, _, PySem.W.mg_of X G a4, k4, b4, fn_is_number F4 B⟩
  have H_is_number_from : Has l.prog w K mg base "is_number_from" 2 ["value", "low", "high"] c_is_number_from := ⟨f5, _, PySem.W.mg_of X G a5, k5, b5, fn_is_number_from F5 B H_is_number⟩
  have H_is_size : Has l.prog w K mg base "is_size" 3 ["value"] c_is_size := ⟨f6, _, PySem.W.mg_of X G a6, k6, b6, fn_is_size F6 B H_is_number_from⟩
  have H__is_tuple_of_sizes : Has l.prog w K mg base "_is_tuple_of_sizes" 4 ["value"] c__is_tuple_of_sizes := ⟨f7, _, PySem.W.mg_of X G a7, k7, b7, fn__is_tuple_of_sizes F7 B H_is_tuple H_is_size⟩
  have H_Shelf___init__ : HasC l.prog w K mg base "Shelf" C.Shelf 5 ["self", "sizes"] (c_Shelf___init__ C) := ⟨B.g_Shelf, len_Shelf___init__, f15, _, ⟨B.mk_Shelf, a15, fn15, B.k_Shelf⟩, b15, fn_Shelf___init__ F15 B H__is_tuple_of_sizes H_BadShelf⟩
  have H__law_mixed : Has l.prog w K mg base "_law_mixed" 2 ["deck", "items"] c__law_mixed := ⟨f8, _, PySem.W.mg_of X G a8, k8, b8, fn__law_mixed F8 B H__law_draw⟩
  have H__law_rows : Has l.prog w K mg base "_law_rows" 3 ["deck", "sizes"] c__law_rows := ⟨f9, _, PySem.W.mg_of X G a9, k9, b9, fn__law_rows F9 B H__law_mixed H__law_sizes H__law_draw⟩
  have G_Shelf___str__ : FnGX l.prog w K mg base 1 f16 _ ["self"] (spDX K 1 (c_Shelf___str__ C)) := fn_Shelf___str__ F16 B
  have HM___str__ : HasM l.prog w K mg base (fun D => D = C.Shelf) "__str__" 1 ["self"] (fun _ => c_Shelf___str__ C) := fun D hD => by
    subst hD
    · exact ⟨B.c_Shelf, f16, _, ⟨a16, fn16, k16⟩, b16, G_Shelf___str__⟩
  have H__law_odd : Has l.prog w K mg base "_law_odd" 2 ["deck"] c__law_odd := ⟨f10, _, PySem.W.mg_of X G a10, k10, b10, fn__law_odd F10 B H__law_draw⟩
  have H__law_text : Has l.prog w K mg base "_law_text" 1 ["sizes"] c__law_text := ⟨f11, _, PySem.W.mg_of X G a11, k11, b11, fn__law_text F11 B⟩
  have H__first_missing : Has l.prog w K mg base "_first_missing" 1 ["sizes", "wanted"] c__first_missing := ⟨f12, _, PySem.W.mg_of X G a12, k12, b12, fn__first_missing F12 B⟩
  have G_Shelf___contains__ : FnGX l.prog w K mg base 2 f17 _ ["self", "value"] (spDX K 2 (c_Shelf___contains__ C)) := fn_Shelf___contains__ F17 B H__first_missing
  have HM___contains__ : HasM l.prog w K mg base (fun D => D = C.Shelf) "__contains__" 2 ["self", "value"] (fun _ => c_Shelf___contains__ C) := fun D hD => by
    subst hD
    · exact ⟨B.c_Shelf, f17, _, ⟨a17, fn17, k17⟩, b17, G_Shelf___contains__⟩
  have G_Shelf___eq__ : FnGX l.prog w K mg base 1 f18 _ ["self", "other"] (spDX K 2 (c_Shelf___eq__ C)) := fn_Shelf___eq__ F18 B
  have HM___eq__ : HasM l.prog w K mg base (fun D => D = C.Shelf) "__eq__" 1 ["self", "other"] (fun _ => c_Shelf___eq__ C) := fun D hD => by
    subst hD
    · exact ⟨B.c_Shelf, f18, _, ⟨a18, fn18, k18⟩, b18, G_Shelf___eq__⟩
  have H__law_more : Has l.prog w K mg base "_law_more" 1 ["some", "others"] c__law_more := ⟨f13, _, PySem.W.mg_of X G a13, k13, b13, fn__law_more F13 B⟩
  exact fn_law (fun_mk (st := s_law) l14 c14 k14) B H__law_deck H__law_sizes H_Shelf___init__ H__law_rows HM___str__ H__law_odd H__law_text HM___contains__ HM___eq__ H__law_more
theorem all_mk2 {l : PySem.W.OpenLaw} {w : World} {K : PySem.W.Frag} {h : Heap} {mg : Str → Option Value} {fa : Addr} {C_PartyError C_BadShelf C_TooManyPairs C_Missing C_NoPlace C_Shelf : Addr} (X : K.In h) (G : h.Ns mainGlobals mg) (hfa : mg "law" = some (.ref fa))
    {f0 : Addr} {od0 an0 : Option Addr} {sl0 : Array (Option Value)} {oc0 kV0 dc0 pm0 cd0 ct0 : Value}
    (a0 : PySem.W.nsIn K mainGlobals "_law_deck" = some (some (.ref f0)))
    (l0 : K.lookup f0 = some ⟨oc0, od0, .func (PySem.W.fnOf "_law_deck" "_law_deck" (defArgs s__law_deck) (defBody s__law_deck) (defScope s__law_deck) .none kV0 dc0 pm0 an0 cd0 ct0), sl0⟩) (c0 : PySem.W.codeIn K cd0 "_law_deck" = true) (k0 : PySem.W.keepIn K (.ref f0) = true)
    {f1 : Addr} {od1 an1 : Option Addr} {sl1 : Array (Option Value)} {oc1 kV1 dc1 pm1 cd1 ct1 : Value}
    (a1 : PySem.W.nsIn K mainGlobals "_law_draw" = some (some (.ref f1)))
    (l1 : K.lookup f1 = some ⟨oc1, od1, .func (PySem.W.fnOf "_law_draw" "_law_draw" (defArgs s__law_draw) (defBody s__law_draw) (defScope s__law_draw) .none kV1 dc1 pm1 an1 cd1 ct1), sl1⟩) (c1 : PySem.W.codeIn K cd1 "_law_draw" = true) (k1 : PySem.W.keepIn K (.ref f1) = true)
    {f2 : Addr} {od2 an2 : Option Addr} {sl2 : Array (Option Value)} {oc2 kV2 dc2 pm2 cd2 ct2 : Value}
    (a2 : PySem.W.nsIn K mainGlobals "_law_sizes" = some (some (.ref f2)))
    (l2 : K.lookup f2 = some ⟨oc2, od2, .func (PySem.W.fnOf "_law_sizes" "_law_sizes" (defArgs s__law_sizes) (defBody s__law_sizes) (defScope s__law_sizes) .none kV2 dc2 pm2 an2 cd2 ct2), sl2⟩) (c2 : PySem.W.codeIn K cd2 "_law_sizes" = true) (k2 : PySem.W.keepIn K (.ref f2) = true)
    {f3 : Addr} {od3 an3 : Option Addr} {sl3 : Array (Option Value)} {oc3 kV3 dc3 pm3 cd3 ct3 : Value}
    (a3 : PySem.W.nsIn K mainGlobals "is_tuple" = some (some (.ref f3)))
    (l3 : K.lookup f3 = some ⟨oc3, od3, .func (PySem.W.fnOf "is_tuple" "is_tuple" (defArgs s_is_tuple) (defBody s_is_tuple) (defScope s_is_tuple) .none kV3 dc3 pm3 an3 cd3 ct3), sl3⟩) (c3 : PySem.W.codeIn K cd3 "is_tuple" = true) (k3 : PySem.W.keepIn K (.ref f3) = true)
    {f4 : Addr} {od4 an4 : Option Addr} {sl4 : Array (Option Value)} {oc4 kV4 dc4 pm4 cd4 ct4 : Value}
    (a4 : PySem.W.nsIn K mainGlobals "is_number" = some (some (.ref f4)))
    (l4 : K.lookup f4 = some ⟨oc4, od4, .func (PySem.W.fnOf "is_number" "is_number" (defArgs s_is_number) (defBody s_is_number) (defScope s_is_number) .none kV4 dc4 pm4 an4 cd4 ct4), sl4⟩) (c4 : PySem.W.codeIn K cd4 "is_number" = true) (k4 : PySem.W.keepIn K (.ref f4) = true)
    {f5 : Addr} {od5 an5 : Option Addr} {sl5 : Array (Option Value)} {oc5 kV5 dc5 pm5 cd5 ct5 : Value}
    (a5 : PySem.W.nsIn K mainGlobals "is_number_from" = some (some (.ref f5)))
    (l5 : K.lookup f5 = some ⟨oc5, od5, .func (PySem.W.fnOf "is_number_from" "is_number_from" (defArgs s_is_number_from) (defBody s_is_number_from) (defScope s_is_number_from) .none kV5 dc5 pm5 an5 cd5 ct5), sl5⟩) (c5 : PySem.W.codeIn K cd5 "is_number_from" = true) (k5 : PySem.W.keepIn K (.ref f5) = true)
    {f6 : Addr} {od6 an6 : Option Addr} {sl6 : Array (Option Value)} {oc6 kV6 dc6 pm6 cd6 ct6 : Value}
    (a6 : PySem.W.nsIn K mainGlobals "is_size" = some (some (.ref f6)))
    (l6 : K.lookup f6 = some ⟨oc6, od6, .func (PySem.W.fnOf "is_size" "is_size" (defArgs s_is_size) (defBody s_is_size) (defScope s_is_size) .none kV6 dc6 pm6 an6 cd6 ct6), sl6⟩) (c6 : PySem.W.codeIn K cd6 "is_size" = true) (k6 : PySem.W.keepIn K (.ref f6) = true)
    {f7 : Addr} {od7 an7 : Option Addr} {sl7 : Array (Option Value)} {oc7 kV7 dc7 pm7 cd7 ct7 : Value}
    (a7 : PySem.W.nsIn K mainGlobals "_is_tuple_of_sizes" = some (some (.ref f7)))
    (l7 : K.lookup f7 = some ⟨oc7, od7, .func (PySem.W.fnOf "_is_tuple_of_sizes" "_is_tuple_of_sizes" (defArgs s__is_tuple_of_sizes) (defBody s__is_tuple_of_sizes) (defScope s__is_tuple_of_sizes) .none kV7 dc7 pm7 an7 cd7 ct7), sl7⟩) (c7 : PySem.W.codeIn K cd7 "_is_tuple_of_sizes" = true) (k7 : PySem.W.keepIn K (.ref f7) = true)
    {f8 : Addr} {od8 an8 : Option Addr} {sl8 : Array (Option Value)} {oc8 kV8 dc8 pm8 cd8 ct8 : Value}
    (a8 : PySem.W.nsIn K mainGlobals "_law_mixed" = some (some (.ref f8)))
    (l8 : K.lookup f8 = some ⟨oc8, od8, .func (PySem.W.fnOf "_law_mixed" "_law_mixed" (defArgs s__law_mixed) (defBody s__law_mixed) (defScope s__law_mixed) .none kV8 dc8 pm8 an8 cd8 ct8), sl8⟩) (c8 : PySem.W.codeIn K cd8 "_law_mixed" = true) (k8 : PySem.W.keepIn K (.ref f8) = true)
    {f9 : Addr} {od9 an9 : Option Addr} {sl9 : Array (Option Value)} {oc9 kV9 dc9 pm9 cd9 ct9 : Value}
    (a9 : PySem.W.nsIn K mainGlobals "_law_rows" = some (some (.ref f9)))
    (l9 : K.lookup f9 = some ⟨oc9, od9, .func (PySem.W.fnOf "_law_rows" "_law_rows" (defArgs s__law_rows) (defBody s__law_rows) (defScope s__law_rows) .none kV9 dc9 pm9 an9 cd9 ct9), sl9⟩) (c9 : PySem.W.codeIn K cd9 "_law_rows" = true) (k9 : PySem.W.keepIn K (.ref f9) = true)
    {f10 : Addr} {od10 an10 : Option Addr} {sl10 : Array (Option Value)} {oc10 kV10 dc10 pm10 cd10 ct10 : Value}
    (a10 : PySem.W.nsIn K mainGlobals "_law_odd" = some (some (.ref f10)))
    (l10 : K.lookup f10 = some ⟨oc10, od10, .func (PySem.W.fnOf "_law_odd" "_law_odd" (defArgs s__law_odd) (defBody s__law_odd) (defScope s__law_odd) .none kV10 dc10 pm10 an10 cd10 ct10), sl10⟩) (c10 : PySem.W.codeIn K cd10 "_law_odd" = true) (k10 : PySem.W.keepIn K (.ref f10) = true)
    {f11 : Addr} {od11 an11 : Option Addr} {sl11 : Array (Option Value)} {oc11 kV11 dc11 pm11 cd11 ct11 : Value}
    (a11 : PySem.W.nsIn K mainGlobals "_law_text" = some (some (.ref f11)))
    (l11 : K.lookup f11 = some ⟨oc11, od11, .func (PySem.W.fnOf "_law_text" "_law_text" (defArgs s__law_text) (defBody s__law_text) (defScope s__law_text) .none kV11 dc11 pm11 an11 cd11 ct11), sl11⟩) (c11 : PySem.W.codeIn K cd11 "_law_text" = true) (k11 : PySem.W.keepIn K (.ref f11) = true)
    {f12 : Addr} {od12 an12 : Option Addr} {sl12 : Array (Option Value)} {oc12 kV12 dc12 pm12 cd12 ct12 : Value}
    (a12 : PySem.W.nsIn K mainGlobals "_first_missing" = some (some (.ref f12)))
    (l12 : K.lookup f12 = some ⟨oc12, od12, .func (PySem.W.fnOf "_first_missing" "_first_missing" (defArgs s__first_missing) (defBody s__first_missing) (defScope s__first_missing) .none kV12 dc12 pm12 an12 cd12 ct12), sl12⟩) (c12 : PySem.W.codeIn K cd12 "_first_missing" = true) (k12 : PySem.W.keepIn K (.ref f12) = true)
    {f13 : Addr} {od13 an13 : Option Addr} {sl13 : Array (Option Value)} {oc13 kV13 dc13 pm13 cd13 ct13 : Value}
    (a13 : PySem.W.nsIn K mainGlobals "_law_more" = some (some (.ref f13)))
    (l13 : K.lookup f13 = some ⟨oc13, od13, .func (PySem.W.fnOf "_law_more" "_law_more" (defArgs s__law_more) (defBody s__law_more) (defScope s__law_more) .none kV13 dc13 pm13 an13 cd13 ct13), sl13⟩) (c13 : PySem.W.codeIn K cd13 "_law_more" = true) (k13 : PySem.W.keepIn K (.ref f13) = true)
    {f14 : Addr} {od14 an14 : Option Addr} {sl14 : Array (Option Value)} {oc14 kV14 dc14 pm14 cd14 ct14 : Value}
    (a14 : PySem.W.nsIn K mainGlobals "law" = some (some (.ref f14)))
    (l14 : K.lookup f14 = some ⟨oc14, od14, .func (PySem.W.fnOf "law" "law" (defArgs s_law) (defBody s_law) (defScope s_law) .none kV14 dc14 pm14 an14 cd14 ct14), sl14⟩) (c14 : PySem.W.codeIn K cd14 "law" = true) (k14 : PySem.W.keepIn K (.ref f14) = true)
    {f15 : Addr} {od15 an15 : Option Addr} {sl15 : Array (Option Value)} {oc15 kV15 dc15 pm15 cd15 ct15 : Value}
    (a15 : PySem.W.findIn K (.ref C_Shelf) "__init__" = some (some (.ref f15))) (fn15 : PySem.W.isFn K (.ref f15) = true)
    (l15 : K.lookup f15 = some ⟨oc15, od15, .func (PySem.W.fnOf "__init__" "Shelf.__init__" (defArgs s_Shelf___init__) (defBody s_Shelf___init__) (defScope s_Shelf___init__) .none kV15 dc15 pm15 an15 cd15 ct15), sl15⟩) (c15 : PySem.W.codeIn K cd15 "Shelf.__init__" = true) (k15 : PySem.W.keepIn K (.ref f15) = true)
    {f16 : Addr} {od16 an16 : Option Addr} {sl16 : Array (Option Value)} {oc16 kV16 dc16 pm16 cd16 ct16 : Value}
    (a16 : PySem.W.findIn K (.ref C_Shelf) "__str__" = some (some (.ref f16))) (fn16 : PySem.W.isFn K (.ref f16) = true)
    (l16 : K.lookup f16 = some ⟨oc16, od16, .func (PySem.W.fnOf "__str__" "Shelf.__str__" (defArgs s_Shelf___str__) (defBody s_Shelf___str__) (defScope s_Shelf___str__) .none kV16 dc16 pm16 an16 cd16 ct16), sl16⟩) (c16 : PySem.W.codeIn K cd16 "Shelf.__str__" = true) (k16 : PySem.W.keepIn K (.ref f16) = true)
    {f17 : Addr} {od17 an17 : Option Addr} {sl17 : Array (Option Value)} {oc17 kV17 dc17 pm17 cd17 ct17 : Value}
    (a17 : PySem.W.findIn K (.ref C_Shelf) "__contains__" = some (some (.ref f17))) (fn17 : PySem.W.isFn K (.ref f17) = true)
    (l17 : K.lookup f17 = some ⟨oc17, od17, .func (PySem.W.fnOf "__contains__" "Shelf.__contains__" (defArgs s_Shelf___contains__) (defBody s_Shelf___contains__) (defScope s_Shelf___contains__) .none kV17 dc17 pm17 an17 cd17 ct17), sl17⟩) (c17 : PySem.W.codeIn K cd17 "Shelf.__contains__" = true) (k17 : PySem.W.keepIn K (.ref f17) = true)
    {f18 : Addr} {od18 an18 : Option Addr} {sl18 : Array (Option Value)} {oc18 kV18 dc18 pm18 cd18 ct18 : Value}
    (a18 : PySem.W.findIn K (.ref C_Shelf) "__eq__" = some (some (.ref f18))) (fn18 : PySem.W.isFn K (.ref f18) = true)
    (l18 : K.lookup f18 = some ⟨oc18, od18, .func (PySem.W.fnOf "__eq__" "Shelf.__eq__" (defArgs s_Shelf___eq__) (defBody s_Shelf___eq__) (defScope s_Shelf___eq__) .none kV18 dc18 pm18 an18 cd18 ct18), sl18⟩) (c18 : PySem.W.codeIn K cd18 "Shelf.__eq__" = true) (k18 : PySem.W.keepIn K (.ref f18) = true)
    {f19 : Addr} {od19 an19 : Option Addr} {sl19 : Array (Option Value)} {oc19 kV19 dc19 pm19 cd19 ct19 : Value}
    (a19 : PySem.W.findIn K (.ref C_BadShelf) "__init__" = some (some (.ref f19))) (tI19 : PySem.W.typeIn K (.ref f19) = some (.type "function"))
    (l19 : K.lookup f19 = some ⟨oc19, od19, .func (PySem.W.fnOf "__init__" "BadShelf.__init__" (defArgs s_BadShelf_init) (defBody s_BadShelf_init) (defScope s_BadShelf_init) .none kV19 dc19 pm19 an19 cd19 ct19), sl19⟩) (c19 : PySem.W.codeIn K cd19 "BadShelf.__init__" = true) (k19 : PySem.W.keepIn K (.ref f19) = true)
    (z_LookupError : PySem.W.nsIn K mainGlobals "LookupError" = some none)
    (z_ValueError : PySem.W.nsIn K mainGlobals "ValueError" = some none)
    (z_abs : PySem.W.nsIn K mainGlobals "abs" = some none)
    (z_all : PySem.W.nsIn K mainGlobals "all" = some none)
    (z_bool : PySem.W.nsIn K mainGlobals "bool" = some none)
    (z_enumerate : PySem.W.nsIn K mainGlobals "enumerate" = some none)
    (z_int : PySem.W.nsIn K mainGlobals "int" = some none)
    (z_isinstance : PySem.W.nsIn K mainGlobals "isinstance" = some none)
    (z_len : PySem.W.nsIn K mainGlobals "len" = some none)
    (z_list : PySem.W.nsIn K mainGlobals "list" = some none)
    (z_max : PySem.W.nsIn K mainGlobals "max" = some none)
    (z_range : PySem.W.nsIn K mainGlobals "range" = some none)
    (z_repr : PySem.W.nsIn K mainGlobals "repr" = some none)
    (z_sorted : PySem.W.nsIn K mainGlobals "sorted" = some none)
    (z_str : PySem.W.nsIn K mainGlobals "str" = some none)
    (z_tuple : PySem.W.nsIn K mainGlobals "tuple" = some none)
    {t_MAX_SIZE : Tok} (y_MAX_SIZE : PySem.W.nsIn K mainGlobals "MAX_SIZE" = some (some (.int (1000000) t_MAX_SIZE)))
    {t_MAX_SHELF : Tok} (y_MAX_SHELF : PySem.W.nsIn K mainGlobals "MAX_SHELF" = some (some (.int (100) t_MAX_SHELF)))
    (h_cg : PySem.W.specialIn K (.builtin "object.__class__") "__get__" = some (some (.builtin "getset_descriptor.__get__")))
    (h_ct : PySem.W.takesIn K (.builtin "object.__class__") = some true)
    (h_a_PartyError : PySem.W.nsIn K mainGlobals "PartyError" = some (some (.ref C_PartyError)))
    (h_a_BadShelf : PySem.W.nsIn K mainGlobals "BadShelf" = some (some (.ref C_BadShelf)))
    (h_ty_BadShelf : PySem.W.typeIn K (.ref C_BadShelf) = some (.type "type"))
    (h_k_BadShelf : PySem.W.keepIn K (.ref C_BadShelf) = true)
    (h_sa_BadShelf : PySem.W.findIn K (.ref C_BadShelf) "__setattr__" = some (some (.builtin "object.__setattr__")))
    (h_a_TooManyPairs : PySem.W.nsIn K mainGlobals "TooManyPairs" = some (some (.ref C_TooManyPairs)))
    (h_a_Missing : PySem.W.nsIn K mainGlobals "Missing" = some (some (.ref C_Missing)))
    (h_a_NoPlace : PySem.W.nsIn K mainGlobals "NoPlace" = some (some (.ref C_NoPlace)))
    (h_a_Shelf : PySem.W.nsIn K mainGlobals "Shelf" = some (some (.ref C_Shelf)))
    (h_cl_Shelf : PySem.W.isClsIn K C_Shelf = true)
    (h_ty_Shelf : PySem.W.typeIn K (.ref C_Shelf) = some (.type "type"))
    (h_k_Shelf : PySem.W.keepIn K (.ref C_Shelf) = true)
    (h_hd_Shelf : PySem.W.hasDictIn K C_Shelf = true)
    (h_ca_Shelf : PySem.W.findIn K (.ref C_Shelf) "__class__" = some (some (.builtin "object.__class__")))
    (h_mo_Shelf : PySem.W.mroIn K C_Shelf (.type "object") = some true)
    (h_sa_Shelf : PySem.W.findIn K (.ref C_Shelf) "__setattr__" = some (some (.builtin "object.__setattr__")))
    (h_s_Shelf_Shelf : PySem.W.subIn K (.ref C_Shelf) (.ref C_Shelf) = some true)
    (h_s_Shelf_list : PySem.W.subIn K (.ref C_Shelf) (.type "list") = some false)
    (h_s_Shelf_tuple : PySem.W.subIn K (.ref C_Shelf) (.type "tuple") = some false)
    (h_s_Shelf_int : PySem.W.subIn K (.ref C_Shelf) (.type "int") = some false)
    (h_s_Shelf_str : PySem.W.subIn K (.ref C_Shelf) (.type "str") = some false)
    (h_s_Shelf_bool : PySem.W.subIn K (.ref C_Shelf) (.type "bool") = some false)
    (h_s_Shelf_NoneType : PySem.W.subIn K (.ref C_Shelf) (.type "NoneType") = some false)
    (h_s_Shelf_dict : PySem.W.subIn K (.ref C_Shelf) (.type "dict") = some false)
    (h_q_NoneType_Shelf : PySem.W.subIn K (.type "NoneType") (.ref C_Shelf) = some false)
    (h_q_bool_Shelf : PySem.W.subIn K (.type "bool") (.ref C_Shelf) = some false)
    (h_q_int_Shelf : PySem.W.subIn K (.type "int") (.ref C_Shelf) = some false)
    (h_q_str_Shelf : PySem.W.subIn K (.type "str") (.ref C_Shelf) = some false)
    (h_q_list_Shelf : PySem.W.subIn K (.type "list") (.ref C_Shelf) = some false)
    (h_q_tuple_Shelf : PySem.W.subIn K (.type "tuple") (.ref C_Shelf) = some false)
    (h_q_dict_Shelf : PySem.W.subIn K (.type "dict") (.ref C_Shelf) = some false)
    (h_sb_BadShelf : PySem.W.subIn K (.ref C_BadShelf) (.type "BaseException") = some true)
    (h_n_BadShelf : PySem.W.findIn K (.ref C_BadShelf) "value" = some none)
    (h_pg_Shelf : PySem.W.plainGet K C_Shelf Str.empty = true)
    (h_po_Shelf : PySem.W.plainOver K C_Shelf = true)
    (h_mk_Shelf : PySem.W.makesIn K C_Shelf = true)
    (h_ne_Shelf : PySem.W.findIn K (.ref C_Shelf) "__ne__" = some (some (.builtin "object.__ne__")))
    (h_f_Shelf_sizes : PySem.W.findIn K (.ref C_Shelf) "sizes" = some none)
    {nm_BadShelf q_BadShelf : Str} {N_BadShelf : Addr} {bs_BadShelf bm_BadShelf : List Value} {sn_BadShelf : List Str} {sub_BadShelf : List Value} {ab_BadShelf : Bool} {col_BadShelf : Option Bool} {dd_BadShelf : Option Addr} {m0_BadShelf m1_BadShelf m2_BadShelf m3_BadShelf m5_BadShelf : Option Value}
    (xL_BadShelf : K.lookup C_BadShelf = some (excClassObj nm_BadShelf q_BadShelf C_BadShelf N_BadShelf bs_BadShelf bm_BadShelf true sn_BadShelf sub_BadShelf ab_BadShelf col_BadShelf dd_BadShelf m0_BadShelf m1_BadShelf m2_BadShelf m3_BadShelf m5_BadShelf "ValueError.__new__")) (xr_BadShelf : PySem.HandSPX.refsVE bm_BadShelf = true)
    (e0_PartyError : PySem.W.excIn K C_PartyError [.type "ValueError", .type "Exception", .type "BaseException", .type "object"] "ValueError.__new__" = true)
    (e0_TooManyPairs : PySem.W.excIn K C_TooManyPairs [.type "ValueError", .type "Exception", .type "BaseException", .type "object"] "ValueError.__new__" = true)
    : ∃ fd : FuncData, (∀ (s : Shared) (v : Value), BindsTo s fd ⟨[v], []⟩ [("script", v)]) ∧ ∀ base : Heap, K.In base → base.Ns mainGlobals mg → FnG l.prog w K mg base 7 fa fd ["script"] (spLaw K) :=
  all_mk (C := ⟨C_PartyError, C_BadShelf, C_TooManyPairs, C_Missing, C_NoPlace, C_Shelf⟩) X G hfa a0 l0 c0 k0 a1 l1 c1 k1 a2 l2 c2 k2 a3 l3 c3 k3 a4 l4 c4 k4 a5 l5 c5 k5 a6 l6 c6 k6 a7 l7 c7 k7 a8 l8 c8 k8 a9 l9 c9 k9 a10 l10 c10 k10 a11 l11 c11 k11 a12 l12 c12 k12 a13 l13 c13 k13 a14 l14 c14 k14 a15 fn15 l15 c15 k15 a16 fn16 l16 c16 k16 a17 fn17 l17 c17 k17 a18 fn18 l18 c18 k18 a19 tI19 l19 c19 k19 z_LookupError z_ValueError z_abs z_all z_bool z_enumerate z_int z_isinstance z_len z_list z_max z_range z_repr z_sorted z_str z_tuple y_MAX_SIZE y_MAX_SHELF h_cg h_ct h_a_PartyError h_a_BadShelf h_ty_BadShelf h_k_BadShelf h_sa_BadShelf h_a_TooManyPairs h_a_Missing h_a_NoPlace h_a_Shelf h_cl_Shelf h_ty_Shelf h_k_Shelf h_hd_Shelf h_ca_Shelf h_mo_Shelf h_sa_Shelf h_s_Shelf_Shelf h_s_Shelf_list h_s_Shelf_tuple h_s_Shelf_int h_s_Shelf_str h_s_Shelf_bool h_s_Shelf_NoneType h_s_Shelf_dict h_q_NoneType_Shelf h_q_bool_Shelf h_q_int_Shelf h_q_str_Shelf h_q_list_Shelf h_q_tuple_Shelf h_q_dict_Shelf h_sb_BadShelf h_n_BadShelf h_pg_Shelf h_po_Shelf h_mk_Shelf h_ne_Shelf h_f_Shelf_sizes xL_BadShelf xr_BadShelf e0_PartyError e0_TooManyPairs
end DL
namespace DL
open PySem PySem.W PySem.Calls PyProof.Rows
abbrev headR : OpenRow := OpenLaw.row PySem.Challenge.rw_shoeparty_k28_shelves_in_equal_and_text
def headQ : Program := view headR.prog (([0, 1, 3, 4, 5, 6, 7, 9, 10, 11, 12, 14, 15, 16, 18, 19, 20, 21, 22, 23, 24, 25, 26] : List Nat))
def headL : List PySem.Str := ([] : List PySem.Str)
def headD (p : Program) (i : Nat) : DefRec := match p.main.body[i]? with
  | some (.FunctionDef n a b _ _ _ sc _ _ pos) => ⟨n, a, b, sc, pos⟩
  | _ => ⟨"law", ⟨[], [], none, [], [], none, []⟩, [], ⟨.function, [], false, false, []⟩, default⟩
end DL
open PySem PySem.W PySem.Calls PyProof.Rows in
local macro_rules | `(tactic| o_head $H:term) => `(tactic| (refine holds_open (r := DL.headR) (q := DL.headQ) (loose := DL.headL) (Xt := fun s => xlAt DL.headQ [] s && recOk (RowW.records (OpenRow.toRowW DL.headR)) s) (XP := XL DL.headQ []) (Yf := Hook.obs $H) (Ya := Hook.val $H) (YP := Hook.says $H) (d := DL.headD DL.headR.prog 26) (kwd := []) (N := 5050) ?hl (Hook.of $H) (Hook.keeps $H) (fun s e => xl_of s (Bool.and_eq_true_iff.mp e).1) XL.keeps (by kernel_rfl) (by kernel_rfl) (by kernel_rfl) (fun s e => recFacts_of (Bool.and_eq_true_iff.mp e).2) (by rfl) (by first | assumption | decide +kernel) (by decide +kernel) ⟨rfl, rfl, rfl, rfl, rfl, by decide +kernel⟩ ?hw ?hc; (case hl => (refine HeadRun.left_oneK (M := 4350) (by kernel_rfl) (by rfl) (fun s => by kernel_rfl) (by rfl) ?_; intro w os; kernel_rfl))))
open PySem PySem.W PyProof.Rows in
set_option maxRecDepth 100000 in
set_option maxHeartbeats 0 in
theorem PySem.Challenge.cw_shoeparty_k28_shelves_in_equal_and_text_holds : PySem.Challenge.rw_shoeparty_k28_shelves_in_equal_and_text.Holds := by
  w_on; o_law; k_head; (case hw => w_witness2)
  k_fill
  refine DL.walk_g (l := PySem.Challenge.rw_shoeparty_k28_shelves_in_equal_and_text) (k := 7) (x := "script") rfl (by kernel_rfl) ⟨rfl, by decide, by decide⟩ (fun w h Y => PySem.W.kIn_of Y) ?F
  case F =>
    intro w mg fa h KX G hmg0
    have hmg : mg ("law" : PySem.Str) = some (.ref fa) := by
      have e : (DL.headD DL.headR.prog 26).name = ("law" : PySem.Str) := by kernel_rfl
      rw [← e]
      exact hmg0
    refine' DL.all_mk2 KX G hmg ?a0 ?l0 ?c0 ?k0 ?a1 ?l1 ?c1 ?k1 ?a2 ?l2 ?c2 ?k2 ?a3 ?l3 ?c3 ?k3 ?a4 ?l4 ?c4 ?k4 ?a5 ?l5 ?c5 ?k5 ?a6 ?l6 ?c6 ?k6 ?a7 ?l7 ?c7 ?k7 ?a8 ?l8 ?c8 ?k8 ?a9 ?l9 ?c9 ?k9 ?a10 ?l10 ?c10 ?k10 ?a11 ?l11 ?c11 ?k11 ?a12 ?l12 ?c12 ?k12 ?a13 ?l13 ?c13 ?k13 ?a14 ?l14 ?c14 ?k14 ?a15 ?fn15 ?l15 ?c15 ?k15 ?a16 ?fn16 ?l16 ?c16 ?k16 ?a17 ?fn17 ?l17 ?c17 ?k17 ?a18 ?fn18 ?l18 ?c18 ?k18 ?a19 ?tI19 ?l19 ?c19 ?k19 ?z_LookupError ?z_ValueError ?z_abs ?z_all ?z_bool ?z_enumerate ?z_int ?z_isinstance ?z_len ?z_list ?z_max ?z_range ?z_repr ?z_sorted ?z_str ?z_tuple ?y_MAX_SIZE ?y_MAX_SHELF ?h_cg ?h_ct ?h_a_PartyError ?h_a_BadShelf ?h_ty_BadShelf ?h_k_BadShelf ?h_sa_BadShelf ?h_a_TooManyPairs ?h_a_Missing ?h_a_NoPlace ?h_a_Shelf ?h_cl_Shelf ?h_ty_Shelf ?h_k_Shelf ?h_hd_Shelf ?h_ca_Shelf ?h_mo_Shelf ?h_sa_Shelf ?h_s_Shelf_Shelf ?h_s_Shelf_list ?h_s_Shelf_tuple ?h_s_Shelf_int ?h_s_Shelf_str ?h_s_Shelf_bool ?h_s_Shelf_NoneType ?h_s_Shelf_dict ?h_q_NoneType_Shelf ?h_q_bool_Shelf ?h_q_int_Shelf ?h_q_str_Shelf ?h_q_list_Shelf ?h_q_tuple_Shelf ?h_q_dict_Shelf ?h_sb_BadShelf ?h_n_BadShelf ?h_pg_Shelf ?h_po_Shelf ?h_mk_Shelf ?h_ne_Shelf ?h_f_Shelf_sizes ?xL_BadShelf ?xr_BadShelf ?e0_PartyError ?e0_TooManyPairs
    (case h_a_PartyError => k_is)
    (case h_a_BadShelf => k_is)
    (case h_a_TooManyPairs => k_is)
    (case h_a_Missing => k_is)
    (case h_a_NoPlace => k_is)
    (case h_a_Shelf => k_is)
    (case a0 => k_is)
    (case l0 => k_is)
    (case c0 => k_is)
    (case k0 => k_is)
    (case a1 => k_is)
    (case l1 => k_is)
    (case c1 => k_is)
    (case k1 => k_is)
    (case a2 => k_is)
    (case l2 => k_is)
    (case c2 => k_is)
    (case k2 => k_is)
    (case a3 => k_is)
    (case l3 => k_is)
    (case c3 => k_is)
    (case k3 => k_is)
    (case a4 => k_is)
    (case l4 => k_is)
    (case c4 => k_is)
    (case k4 => k_is)
    (case a5 => k_is)
    (case l5 => k_is)
    (case c5 => k_is)
    (case k5 => k_is)
    (case a6 => k_is)
    (case l6 => k_is)
    (case c6 => k_is)
    (case k6 => k_is)
    (case a7 => k_is)
    (case l7 => k_is)
    (case c7 => k_is)
    (case k7 => k_is)
    (case a8 => k_is)
    (case l8 => k_is)
    (case c8 => k_is)
    (case k8 => k_is)
    (case a9 => k_is)
    (case l9 => k_is)
    (case c9 => k_is)
    (case k9 => k_is)
    (case a10 => k_is)
    (case l10 => k_is)
    (case c10 => k_is)
    (case k10 => k_is)
    (case a11 => k_is)
    (case l11 => k_is)
    (case c11 => k_is)
    (case k11 => k_is)
    (case a12 => k_is)
    (case l12 => k_is)
    (case c12 => k_is)
    (case k12 => k_is)
    (case a13 => k_is)
    (case l13 => k_is)
    (case c13 => k_is)
    (case k13 => k_is)
    (case a14 => k_is)
    (case l14 => k_is)
    (case c14 => k_is)
    (case k14 => k_is)
    (case a15 => k_is)
    (case fn15 => k_is)
    (case l15 => k_is)
    (case c15 => k_is)
    (case k15 => k_is)
    (case a16 => k_is)
    (case fn16 => k_is)
    (case l16 => k_is)
    (case c16 => k_is)
    (case k16 => k_is)
    (case a17 => k_is)
    (case fn17 => k_is)
    (case l17 => k_is)
    (case c17 => k_is)
    (case k17 => k_is)
    (case a18 => k_is)
    (case fn18 => k_is)
    (case l18 => k_is)
    (case c18 => k_is)
    (case k18 => k_is)
    (case a19 => k_is)
    (case tI19 => k_is)
    (case l19 => k_is)
    (case c19 => k_is)
    (case k19 => k_is)
    (case z_LookupError => k_is)
    (case z_ValueError => k_is)
    (case z_abs => k_is)
    (case z_all => k_is)
    (case z_bool => k_is)
    (case z_enumerate => k_is)
    (case z_int => k_is)
    (case z_isinstance => k_is)
    (case z_len => k_is)
    (case z_list => k_is)
    (case z_max => k_is)
    (case z_range => k_is)
    (case z_repr => k_is)
    (case z_sorted => k_is)
    (case z_str => k_is)
    (case z_tuple => k_is)
    (case y_MAX_SIZE => k_is)
    (case y_MAX_SHELF => k_is)
    (case h_cg => k_is)
    (case h_ct => k_is)
    (case h_ty_BadShelf => k_is)
    (case h_k_BadShelf => k_is)
    (case h_sa_BadShelf => k_is)
    (case h_cl_Shelf => k_is)
    (case h_ty_Shelf => k_is)
    (case h_k_Shelf => k_is)
    (case h_hd_Shelf => k_is)
    (case h_ca_Shelf => k_is)
    (case h_mo_Shelf => k_is)
    (case h_sa_Shelf => k_is)
    (case h_s_Shelf_Shelf => k_is)
    (case h_s_Shelf_list => k_is)
    (case h_s_Shelf_tuple => k_is)
    (case h_s_Shelf_int => k_is)
    (case h_s_Shelf_str => k_is)
    (case h_s_Shelf_bool => k_is)
    (case h_s_Shelf_NoneType => k_is)
    (case h_s_Shelf_dict => k_is)
    (case h_q_NoneType_Shelf => k_is)
    (case h_q_bool_Shelf => k_is)
    (case h_q_int_Shelf => k_is)
    (case h_q_str_Shelf => k_is)
    (case h_q_list_Shelf => k_is)
    (case h_q_tuple_Shelf => k_is)
    (case h_q_dict_Shelf => k_is)
    (case h_sb_BadShelf => k_is)
    (case h_n_BadShelf => k_is)
    (case h_pg_Shelf => k_is)
    (case h_po_Shelf => k_is)
    (case h_mk_Shelf => k_is)
    (case h_ne_Shelf => k_is)
    (case h_f_Shelf_sizes => k_is)
    (case xL_BadShelf => k_is)
    (case xr_BadShelf => decide +kernel)
    (case e0_PartyError => k_exc)
    (case e0_TooManyPairs => k_exc)
#print axioms PySem.Challenge.cw_shoeparty_k28_shelves_in_equal_and_text_holds
