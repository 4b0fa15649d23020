import PyProof.Rows.All
import Wide.All
import OpenK.AllK
import Wide.FinOn
import HandS.ForMost
import HandS.TupAny
import HandS.TupMul
import HandS.IsInst
import HandS.SortInts
import HandS.Wide
import HandS.Style
import HandS.Flow
import HandS.Deep
import HandS.SetFor
import HandS.Conv
import HandS.SortRule
import HandS.RaiseMore
import HandS.Zip
import KE.GoesMore
import KE.GoesEnum
import HandS.Strs
import HandS.NoneIn
import HandS.List
import HandS.SortOrd
import HandS.Text
import HandS.FStr
import KE.KDictZip
import PyProof.TupleOfGen
import HandS.DictEq
import HandS.ForExc
import HandS.ExcInit
import HandS.ExcField
import HandS.ExcIs
import HandS.TryMany
import KE.KExcIs
import KE.KIsAll
import KE.KCallOwn
import HandS.SlotsOwn
import HandS.MakeKwOnly
import HandS.More
import HandS.CallLocal
import HandS.HeadHook3
import HandS.TryOnly
import KE.KExcPX
import KE.KIndexOf
import PySem.Challenge.RW_shoeparty_k31_whole_porters_and_the_rule
set_option Elab.async false
set_option linter.all false
set_option maxRecDepth 100000
namespace DL
open PySem PySem.Spec PyProof.Rows L2
def keyD : Key → PyData
  | .inl i => .int i
  | .inr s => .str s
/-- a dict of ints under plain keys -/
def DctR (kvs : List (PyData × PyData)) (ks : List (Key × V)) : Prop :=
  ∃ ps : List (Key × Int), ks = ps.map (fun p => (p.1, V.int p.2)) ∧ kvs = ps.map (fun p => (keyD p.1, PyData.int p.2))
/-- a thing with a life of its own, named by its address -/
def refD (a : Addr) : PyData := .dict [(.none, .int (((2 : Nat) ^ 2000 + a : Nat) : Int))]
/-- a tuple of ints whose dict is known to be none -/
def clnD (ns : List Int) : PyData := .dict [(.none, .tuple (.int (((2 : Nat) ^ 2000 : Nat) : Int) :: ns.map .int))]
theorem rdS {F H : Hp} (e : Same F H) {a : Addr} {u : HO} (h : Rd F a u) : Rd H a u := h.imp (e _ _) fun ⟨o, q⟩ => ⟨o, e _ _ q⟩
theorem sqtR {K : PySem.W.Frag} {H : Hp} {a : Addr} {xs : List V} (h : Rd H a (.tup xs)) : SqT K H a xs := .inl h
mutual
def Rp (K : PySem.W.Frag) (F : Hp) : PyData → V → Prop
  | .none, v => v = .non
  | .bool b, v => v = .bl b
  | .int i, v => v = .int i
  | .str s, v => v = .str s
  | .list ds, v => ∃ a xs, v = .ref a ∧ F a = some (.lst xs) ∧ Rps K F ds xs
  | .tuple ds, v => ∃ a xs, v = .ref a ∧ Rd F a (.tup xs) ∧ Rps K F ds xs
  | .dict kvs, v => (∃ a ks, v = .ref a ∧ F a = some (.dK ks) ∧ DctR kvs ks) ∨ (∃ a : Addr, PyData.dict kvs = refD a ∧ v = .ref a) ∨ ∃ (a : Addr) (ns : List Int) (o : Obj), PyData.dict kvs = clnD ns ∧ v = .ref a ∧ F a = some (.frz o (.tup (ns.map V.int))) ∧ o.cls = .type "tuple" ∧ o.dict = none
def Rps (K : PySem.W.Frag) (F : Hp) : List PyData → List V → Prop
  | [], vs => vs = []
  | d :: ds, vs => ∃ v r, vs = v :: r ∧ Rp K F d v ∧ Rps K F ds r
end
section
variable {K : PySem.W.Frag} {F F' H H' : Hp}
mutual
theorem Rp.mono (e : Same F F') : ∀ (d : PyData) (v : V), Rp K F d v → Rp K F' d v
  | .none, _, h => by simpa only [Rp] using h
  | .bool _, _, h => by simpa only [Rp] using h
  | .int _, _, h => by simpa only [Rp] using h
  | .str _, _, h => by simpa only [Rp] using h
  | .list ds, _, h => by
    simp only [Rp] at h ⊢
    obtain ⟨a, xs, rfl, h1, h2⟩ := h
    exact ⟨a, xs, rfl, e _ _ h1, Rps.mono e ds xs h2⟩
  | .tuple ds, _, h => by
    simp only [Rp] at h ⊢
    obtain ⟨a, xs, rfl, h1, h2⟩ := h
    exact ⟨a, xs, rfl, rdS e h1, Rps.mono e ds xs h2⟩
  | .dict kvs, _, h => by
    simp only [Rp] at h ⊢
    rcases h with ⟨a, ks, rfl, h1, h2⟩ | h | ⟨a, ns, o, e1, rfl, h1, h2⟩
    · exact .inl ⟨a, ks, rfl, e _ _ h1, h2⟩
    · exact .inr (.inl h)
    · exact .inr (.inr ⟨a, ns, o, e1, rfl, e _ _ h1, h2⟩)
theorem Rps.mono (e : Same F F') : ∀ (ds : List PyData) (vs : List V), Rps K F ds vs → Rps K F' ds vs
  | [], _, h => by simpa only [Rps] using h
  | d :: ds, _, h => by
    simp only [Rps] at h ⊢
    obtain ⟨v, r, rfl, h1, h2⟩ := h
    exact ⟨v, r, rfl, Rp.mono e d v h1, Rps.mono e ds r h2⟩
end
theorem rp_ref {a : Addr} : Rp K F (refD a) (.ref a) := by
  have : Rp K F (.dict [(.none, .int (((2 : Nat) ^ 2000 + a : Nat) : Int))]) (.ref a) := by
    simp only [Rp]
    exact .inr (.inl ⟨a, rfl, rfl⟩)
  exact this
theorem refD_inj {a b : Addr} (h : refD a = refD b) : a = b := by
  unfold refD at h
  injection h with h
  injection h with h
  injection h with _ h
  injection h with h
  exact Nat.add_left_cancel (Int.ofNat.inj h)
theorem keyD_ne {k : Key} : keyD k ≠ .none := by cases k <;> nofun
theorem ref_no {kvs : List (PyData × PyData)} {ks : List (Key × V)} {a : Addr} (h : DctR kvs ks) (e : PyData.dict kvs = refD a) : False := by
  obtain ⟨ps, _, e2⟩ := h
  unfold refD at e
  injection e with e
  rw [e2] at e
  cases ps with
  | nil => cases e
  | cons q ps =>
    rw [List.map_cons] at e
    injection e with e _
    injection e with e _
    exact absurd e keyD_ne
theorem Rp.ref {a : Addr} {v : V} (h : Rp K F (refD a) v) : v = .ref a := by
  have h : Rp K F (.dict [(.none, .int (((2 : Nat) ^ 2000 + a : Nat) : Int))]) v := h
  simp only [Rp] at h
  rcases h with ⟨_, _, _, _, q⟩ | ⟨b, e, rfl⟩ | ⟨_, _, _, e, _⟩
  · exact (ref_no (a := a) q rfl).elim
  · rw [refD_inj (show refD a = refD b from e)]
  · unfold clnD at e
    injection e with e
    injection e with e
    injection e with _ e
    cases e
def isRefD : PyData → Bool
  | .dict [(.none, _)] => true
  | _ => false
theorem rps_nil : Rps K F [] [] := by simp [Rps]
theorem rps_cons {d : PyData} {ds : List PyData} {v : V} {vs : List V} (h1 : Rp K F d v) (h2 : Rps K F ds vs) : Rps K F (d :: ds) (v :: vs) := by
  simp only [Rps]; exact ⟨v, vs, rfl, h1, h2⟩
theorem Rps.length : ∀ {ds : List PyData} {vs : List V}, Rps K F ds vs → ds.length = vs.length
  | [], _, h => by simp only [Rps] at h; subst h; rfl
  | d :: ds, _, h => by
    simp only [Rps] at h
    obtain ⟨v, r, rfl, _, h2⟩ := h
    simp [Rps.length h2]
theorem Rps.get : ∀ {ds : List PyData} {vs : List V} {i : Nat} {d : PyData}, Rps K F ds vs → ds[i]? = some d → ∃ v, vs[i]? = some v ∧ Rp K F d v
  | [], _, i, d, _, e => by simp at e
  | d :: ds, _, 0, d', h, e => by
    simp only [Rps] at h
    obtain ⟨v, r, rfl, h1, _⟩ := h
    simp at e; subst e
    exact ⟨v, rfl, h1⟩
  | d :: ds, _, i + 1, d', h, e => by
    simp only [Rps] at h
    obtain ⟨v, r, rfl, _, h2⟩ := h
    obtain ⟨w, e1, e2⟩ := Rps.get (i := i) h2 (by simpa using e)
    exact ⟨w, by simpa using e1, e2⟩
theorem Rps.append : ∀ {ds es : List PyData} {vs us : List V}, Rps K F ds vs → Rps K F es us → Rps K F (ds ++ es) (vs ++ us)
  | [], _, _, _, h, h' => by simp only [Rps] at h; subst h; exact h'
  | d :: ds, es, _, us, h, h' => by
    simp only [Rps] at h
    obtain ⟨v, r, rfl, h1, h2⟩ := h
    exact rps_cons h1 (Rps.append h2 h')
theorem Rps.take : ∀ (n : Nat) {ds : List PyData} {vs : List V}, Rps K F ds vs → Rps K F (ds.take n) (vs.take n)
  | 0, _, _, _ => by simp [Rps]
  | n + 1, [], _, h => by simp only [Rps] at h; subst h; simp [Rps]
  | n + 1, d :: ds, _, h => by
    simp only [Rps] at h
    obtain ⟨v, r, rfl, h1, h2⟩ := h
    exact rps_cons h1 (Rps.take n h2)
theorem Rps.drop : ∀ (n : Nat) {ds : List PyData} {vs : List V}, Rps K F ds vs → Rps K F (ds.drop n) (vs.drop n)
  | 0, _, _, h => h
  | n + 1, [], _, h => by simp only [Rps] at h; subst h; simp [Rps]
  | n + 1, d :: ds, _, h => by
    simp only [Rps] at h
    obtain ⟨v, r, rfl, h1, h2⟩ := h
    exact Rps.drop n h2
theorem Rps.rev : ∀ {ds : List PyData} {vs : List V}, Rps K F ds vs → Rps K F ds.reverse vs.reverse
  | [], _, h => by simp only [Rps] at h; subst h; simp [Rps]
  | d :: ds, _, h => by
    simp only [Rps] at h
    obtain ⟨v, r, rfl, h1, h2⟩ := h
    rw [List.reverse_cons, List.reverse_cons]
    exact (Rps.rev h2).append (rps_cons h1 rps_nil)
theorem rps_ints : ∀ (ns : List Int), Rps K F (ns.map PyData.int) (ns.map V.int)
  | [] => rps_nil
  | n :: ns => rps_cons (by simp [Rp]) (rps_ints ns)
theorem Rps.ints : ∀ {ns : List Int} {vs : List V}, Rps K F (ns.map PyData.int) vs → vs = ns.map V.int
  | [], _, h => by simpa only [List.map_nil, Rps] using h
  | n :: ns, _, h => by
    simp only [List.map_cons, Rps, Rp] at h
    obtain ⟨v, r, rfl, rfl, h2⟩ := h
    rw [Rps.ints h2]; rfl
end
/-- an object: its class, its fields -/
structure Ob where
  C : Addr
  fs : List (Str × PyData)
/-- an error that is being handled: its class, its own dict, its fields -/
structure Xo where
  cls : Value
  d : Option Addr
  fs : List (Str × PyData)
/-- the world: how many draws, what objects there are -/
structure Wo where
  n : Nat
  ob : Addr → Option Ob
  xs : Addr → Option Xo
def Wo.put (w : Wo) (a : Addr) (o : Ob) : Wo := { w with ob := fun b => if b = a then some o else w.ob b }
instance : HAdd Wo Nat Wo := ⟨fun w k => { w with n := w.n + k }⟩
/-- later: some draws more -/
instance : LE Wo := ⟨fun w w' => w.n ≤ w'.n ∧ w.ob = w'.ob ∧ w.xs = w'.xs⟩
theorem Wo.add0 (w : Wo) (d : Nat) : w = w + 0 * d := by rw [Nat.zero_mul]; rfl
abbrev FsR (K : PySem.W.Frag) (F : Hp) : List (Str × PyData) → List (Str × V) → Prop := Paired fun p q => p.1 = q.1 ∧ Rp K F p.2 q.2
structure DkS where
  own : List Addr
  at0 : Hp → Nat → Prop
  stay : ∀ (H H' : Hp) (n : Nat), (∀ a, a ∈ own → H' a = H a) → at0 H n → at0 H' n
  lsts : ∀ (H : Hp) (n : Nat), at0 H n → ∀ a, a ∈ own → ∃ xs, H a = some (.lst xs)
def XoAt (K : PySem.W.Frag) (F : Hp) (x : Xo) : Prop := (x.d = none ∧ x.fs = []) ∨ ∃ dd vs, x.d = some dd ∧ F dd = some (.xd vs) ∧ FsR K F x.fs vs
def Obs (K : PySem.W.Frag) (F H : Hp) (w : Wo) : Prop := (∀ a o, w.ob a = some o → F a = none ∧ ∃ dx vs, H a = some (.ins o.C dx vs) ∧ FsR K F o.fs vs) ∧ ∀ a x, w.xs a = some x → XoAt K F x
def DkS.at_ (δ : DkS) (K : PySem.W.Frag) (F H : Hp) (w : Wo) : Prop := δ.at0 H w.n ∧ Obs K F H w
/-- [cells, count] -/
def dkA (a b : Addr) : DkS := ⟨[a, b], fun H n => ∃ cells : List Int, H a = some (.lst [.ref b, .int n]) ∧ H b = some (.lst (cells.map V.int)) ∧ cells.length ≤ 63 ∧ ∀ c ∈ cells, 0 ≤ c, fun H H' n h ⟨cells, h1, h2, h3⟩ =>
  ⟨cells, by rw [h a (by simp)]; exact h1, by rw [h b (by simp)]; exact h2, h3⟩, fun H n ⟨cells, h1, h2, _⟩ x hx => by
  rcases List.mem_cons.mp hx with rfl | hx
  · exact ⟨_, h1⟩
  · rw [List.mem_singleton.mp hx]; exact ⟨_, h2⟩⟩
/-- [cells, count, rests] -/
def dkB (a b c : Addr) : DkS := ⟨[a, b, c], fun H n => ∃ cells rests : List Int, H a = some (.lst [.ref b, .int n, .ref c]) ∧ H b = some (.lst (cells.map V.int)) ∧ H c = some (.lst (rests.map V.int)) ∧ rests.length = cells.length ∧ 1 ≤ cells.length ∧ cells.length ≤ 63 ∧ (∀ c ∈ cells, c = c) ∧ ∀ c ∈ rests, 0 ≤ c,
  fun H H' n h ⟨cells, rests, h1, h2, h3, h4⟩ => ⟨cells, rests, by rw [h a (by simp)]; exact h1, by rw [h b (by simp)]; exact h2, by rw [h c (by simp)]; exact h3, h4⟩, fun H n ⟨cells, rests, h1, h2, h3, _⟩ x hx => by
  rcases List.mem_cons.mp hx with rfl | hx
  · exact ⟨_, h1⟩
  rcases List.mem_cons.mp hx with rfl | hx
  · exact ⟨_, h2⟩
  · rw [List.mem_singleton.mp hx]; exact ⟨_, h3⟩⟩
def IsDk : Bool → DkS → Addr → Prop
  | false, δ, a => ∃ b, δ = dkA a b
  | true, δ, a => ∃ b c, δ = dkB a b c
/-- F0, H0: the entry; δ: the deck -/
structure Fx where
  F0 : Hp
  H0 : Hp
  δ : DkS
inductive Dv where
  | dat (d : PyData) | vw (ds : List PyData) | mt (ds : List PyData) | deck (b : Bool) | md (a : Addr) (ks : List (Key × V))
def Dv.toD : Dv → PyData
  | .dat d => d
  | .vw ds => .list ds
  | .mt ds => .list ds
  | .deck _ => .none
  | .md _ _ => .none
def Dv.isL : Dv → Bool
  | .vw _ => true
  | .mt _ => true
  | _ => false
def Dv.isDk : Dv → Bool
  | .deck _ => true
  | _ => false
abbrev Rho := List (Option Dv)
/-- a value that an expression hands on -/
def VR (K : PySem.W.Frag) (δ : DkS) (F H : Hp) : Dv → V → Prop
  | .dat d, v => Rp K F d v
  | .vw ds, v => ∃ a vs, v = .ref a ∧ H a = some (.lst vs) ∧ Rps K F ds vs ∧ a ∉ δ.own
  | .mt _, _ => False
  | .deck k, v => ∃ a, v = .ref a ∧ IsDk k δ a
  | .md _ _, _ => False
def SlotV (K : PySem.W.Frag) (Z : Fx) (F H : Hp) : Dv → V → Prop
  | .mt ds, v => ∃ a vs, v = .ref a ∧ Z.H0 a = none ∧ F a = none ∧ H a = some (.lst vs) ∧ Rps K F ds vs ∧ a ∉ Z.δ.own
  | .md a ks, v => v = .ref a ∧ Z.H0 a = none ∧ F a = none ∧ H a = some (.dK ks) ∧ a ∉ Z.δ.own
  | .dat d, v => VR K Z.δ F H (.dat d) v
  | .vw ds, v => VR K Z.δ F H (.vw ds) v
  | .deck k, v => VR K Z.δ F H (.deck k) v
def isIns : HO → Bool
  | .ins _ _ _ => true
  | _ => false
/-- one expression's growth -/
structure Gr (δ : DkS) (F H F' H' : Hp) : Prop where
  sF : Same F F'
  nF : ∀ a, H a ≠ none → F a = none → F' a = none
  kH : ∀ a o, a ∉ δ.own → H a = some o → isIns o = false → H' a = some o
  iH : ∀ a C dx fs, H a = some (.ins C dx fs) → ∃ fs', H' a = some (.ins C dx fs')
  dH : ∀ a, H a ≠ none → H' a ≠ none
structure Base (K : PySem.W.Frag) (Z : Fx) (F H : Hp) (n : Wo) : Prop where
  sub : Same F H
  dk : Z.δ.at_ K F H n
  dkF : ∀ a, a ∈ Z.δ.own → F a = none ∧ H a ≠ none
  gF : Same Z.F0 F
  gN : ∀ a, Z.H0 a ≠ none → Z.F0 a = none → F a = none
  gH : ∀ a o, a ∉ Z.δ.own → Z.H0 a = some o → isIns o = false → H a = some o
  gI : ∀ a C dx fs, Z.H0 a = some (.ins C dx fs) → ∃ fs', H a = some (.ins C dx fs')
structure SR (Y : Fx) (K : PySem.W.Frag) (Z : Fx) (F H : Hp) (σ : L2.St) (ρ : Rho) (n : Wo) : Prop where
  b : Base K Z F H n
  de : Z.δ = Y.δ
  he : Z.H0 = Y.H0
  gr : Gr Y.δ Y.F0 Y.H0 F H
  len : ρ.length = σ.length
  slot : ∀ (i : Nat) (x : Dv), ρ[i]? = some (some x) → ∃ v, σ[i]? = some (some v) ∧ SlotV K Z F H x v
  apart : ∀ (i j : Nat) (a : Addr) (ds : List PyData) (y : Dv), i ≠ j → ρ[i]? = some (some (.mt ds)) → σ[i]? = some (some (.ref a)) → ρ[j]? = some (some y) → y.isL = true → σ[j]? ≠ some (some (.ref a))
/-- .. that changes nothing -/
structure Gp (F H F' H' : Hp) : Prop where
  sF : Same F F'
  nF : ∀ a, H a ≠ none → F a = none → F' a = none
  sH : Same H H'
section
variable {K : PySem.W.Frag} {Y Z : Fx} {δ : DkS} {F F' F'' H H' H'' : Hp} {σ : L2.St} {ρ : Rho} {n n' : Wo}
theorem some_of_ne {H : Hp} {a : Addr} (h : H a ≠ none) : ∃ o, H a = some o := by
  cases e : H a with
  | none => exact absurd e h
  | some o => exact ⟨o, rfl⟩
theorem Gr.refl : Gr δ F H F H := ⟨Same.refl _, fun _ _ h => h, fun _ _ _ h _ => h, fun _ _ _ _ h => ⟨_, h⟩, fun _ h => h⟩
theorem Gr.trans (a : Gr δ F H F' H') (b : Gr δ F' H' F'' H'') : Gr δ F H F'' H'' :=
  ⟨a.sF.trans b.sF, fun x h1 h2 => b.nF x (a.dH x h1) (a.nF x h1 h2), fun x o h1 h2 h3 => b.kH x o h1 (a.kH x o h1 h2 h3) h3, fun x C dx fs h => by
    obtain ⟨fs', h'⟩ := a.iH x C dx fs h
    exact b.iH x C dx fs' h', fun x h => b.dH x (a.dH x h)⟩
theorem Gp.refl : Gp F H F H := ⟨Same.refl _, fun _ _ h => h, Same.refl _⟩
theorem Gp.ne (g : Gp F H F' H') {a : Addr} (h : H a ≠ none) : H' a ≠ none := by
  obtain ⟨o, e⟩ := some_of_ne h
  rw [g.sH _ _ e]; nofun
theorem Gp.trans (a : Gp F H F' H') (b : Gp F' H' F'' H'') : Gp F H F'' H'' :=
  ⟨a.sF.trans b.sF, fun x h1 h2 => b.nF x (a.ne h1) (a.nF x h1 h2), a.sH.trans b.sH⟩
theorem Gp.gr (g : Gp F H F' H') : Gr δ F H F' H' := ⟨g.sF, g.nF, fun _ _ _ h _ => g.sH _ _ h, fun _ _ _ _ h => ⟨_, g.sH _ _ h⟩, fun _ h => g.ne h⟩
theorem FsR.mono (e : Same F F') {fs : List (Str × PyData)} {vs : List (Str × V)} (h : FsR K F fs vs) : FsR K F' fs vs := Paired.mapP h fun p q r => ⟨r.1, Rp.mono e _ _ r.2⟩
theorem XoAt.mono (e : Same F F') {x : Xo} (h : XoAt K F x) : XoAt K F' x := by
  rcases h with h | ⟨dd, vs, h1, h2, h3⟩
  · exact .inl h
  · exact .inr ⟨dd, vs, h1, e _ _ h2, h3.mono e⟩
theorem Obs.grow (h : Obs K F H n) (hn : ∀ a, H a ≠ none → F a = none → F' a = none) (hF : Same F F') (hH : ∀ a C dx fs, H a = some (.ins C dx fs) → H' a = some (.ins C dx fs)) : Obs K F' H' n := ⟨fun a o e => by
  obtain ⟨h1, dx, vs, h2, h3⟩ := h.1 a o e
  exact ⟨hn a (by rw [h2]; nofun) h1, dx, vs, hH _ _ _ _ h2, h3.mono hF⟩, fun a x e => (h.2 a x e).mono hF⟩
theorem Gp.dk (g : Gp F H F' H') (b : Base K Z F H n) : Z.δ.at_ K F' H' n := ⟨Z.δ.stay H H' n.n (fun a ha => by
  obtain ⟨o, e⟩ := some_of_ne (b.dkF a ha).2
  rw [e]; exact g.sH _ _ e) b.dk.1, b.dk.2.grow g.nF g.sF fun _ _ _ _ h => g.sH _ _ h⟩
/-- a frozen new object -/
theorem Gp.new {p : Addr} {o : HO} (h : H p = none) (hs : Same F H) : Gp F H (upd F p o) (upd H p o) ∧ Same (upd F p o) (upd H p o) := by
  have hF : F p = none := hs.free h
  refine ⟨⟨fun a u e => ?_, fun a h1 h2 => ?_, fun a u e => ?_⟩, fun a u e => ?_⟩
  · rw [upd_ne (ne_of_none e hF)]; exact e
  · rw [upd_ne (fun q => h1 (by rw [q]; exact h))]; exact h2
  · rw [upd_ne (ne_of_none e h)]; exact e
  · by_cases q : a = p
    · subst q; rw [upd_same] at e ⊢; exact e
    · rw [upd_ne q] at e ⊢; exact hs _ _ e
/-- a new object, not frozen -/
theorem Gp.newM {p : Addr} {o : HO} (h : H p = none) (hs : Same F H) : Gp F H F (upd H p o) ∧ Same F (upd H p o) := by
  refine ⟨⟨Same.refl _, fun _ _ h => h, fun a u e => ?_⟩, fun a u e => ?_⟩
  · rw [upd_ne (ne_of_none e h)]; exact e
  · rw [upd_ne (ne_of_none (hs _ _ e) h)]; exact hs _ _ e
theorem VR.step {x : Dv} {v : V} (g : Gr δ F H F' H') (h : VR K δ F H x v) : VR K δ F' H' x v := by
  cases x with
  | dat d => exact Rp.mono g.sF d v h
  | vw ds =>
    obtain ⟨a, vs, rfl, h1, h2, h3⟩ := h
    exact ⟨a, vs, rfl, g.kH _ _ h3 h1 rfl, Rps.mono g.sF ds vs h2, h3⟩
  | mt ds => exact h
  | deck _ => exact h
  | md _ _ => exact h
theorem SlotV.step {x : Dv} {v : V} (g : Gr Z.δ F H F' H') (h : SlotV K Z F H x v) : SlotV K Z F' H' x v := by
  cases x with
  | mt ds =>
    obtain ⟨a, vs, rfl, h0, h1, h2, h3, h4⟩ := h
    exact ⟨a, vs, rfl, h0, g.nF a (by rw [h2]; nofun) h1, g.kH _ _ h4 h2 rfl, Rps.mono g.sF ds vs h3, h4⟩
  | dat d => exact VR.step (x := .dat d) g h
  | vw ds => exact VR.step (x := .vw ds) g h
  | deck _ => exact h
  | md a ks =>
    obtain ⟨e, h0, h1, h2, h3⟩ := h
    exact ⟨e, h0, g.nF a (by rw [h2]; nofun) h1, g.kH _ _ h3 h2 rfl, h3⟩
theorem Base.gD (b : Base K Z F H n) (a : Addr) (h : Z.H0 a ≠ none) : H a ≠ none := by
  by_cases ha : a ∈ Z.δ.own
  · exact (b.dkF a ha).2
  · obtain ⟨o, e⟩ := some_of_ne h
    by_cases hi : isIns o = false
    · rw [b.gH a o ha e hi]; nofun
    · cases o with
      | ins C dx fs =>
        obtain ⟨fs', h'⟩ := b.gI a C dx fs e
        rw [h']; nofun
      | _ => exact absurd rfl hi
theorem Base.step (b : Base K Z F H n) (g : Gr Z.δ F H F' H') (hs : Same F' H') (hd : Z.δ.at_ K F' H' n') : Base K Z F' H' n' where
  sub := hs
  dk := hd
  dkF := fun a ha => ⟨g.nF a (b.dkF a ha).2 (b.dkF a ha).1, g.dH a (b.dkF a ha).2⟩
  gF := b.gF.trans g.sF
  gN := fun a h1 h2 => by
    by_cases ha : a ∈ Z.δ.own
    · exact g.nF a (b.dkF a ha).2 (b.dkF a ha).1
    · exact g.nF a (b.gD a h1) (b.gN a h1 h2)
  gH := fun a o h1 h2 h3 => g.kH a o h1 (b.gH a o h1 h2 h3) h3
  gI := fun a C dx fs h => by
    obtain ⟨fs', h'⟩ := b.gI a C dx fs h
    exact g.iH a C dx fs' h'
theorem SR.step (r : SR Y K Z F H σ ρ n) (g : Gr Z.δ F H F' H') (hs : Same F' H') (hd : Z.δ.at_ K F' H' n') : SR Y K Z F' H' σ ρ n' where
  b := r.b.step g hs hd
  de := r.de
  he := r.he
  gr := r.gr.trans (r.de ▸ g)
  len := r.len
  slot := fun i x e => by
    obtain ⟨v, e1, e2⟩ := r.slot i x e
    exact ⟨v, e1, e2.step g⟩
  apart := r.apart
/-- what stands as data -/
def needD (x : Dv) (R : PyData → Prop) : Prop :=
  match x with
  | .dat d => R d
  | _ => False
/-- a view is data in the heap itself -/
theorem VR.rp {x : Dv} {v : V} (h : VR K δ F H x v) (hs : Same F H) (hx : x.isDk = false) : Rp K H x.toD v := by
  cases x with
  | dat d => exact Rp.mono hs d v h
  | vw ds =>
    obtain ⟨a, vs, rfl, h1, h2, _⟩ := h
    simp only [Dv.toD, Rp]
    exact ⟨a, vs, rfl, h1, Rps.mono hs ds vs h2⟩
  | mt ds => exact h.elim
  | deck _ => exact absurd hx (by simp [Dv.isDk])
  | md _ _ => exact h.elim
end
abbrev DTE := Rho → Wo → (Dv → Wo → Prop) → Prop
abbrev DTA := Rho → Wo → (List Dv → Wo → Prop) → Prop
abbrev DTT := Rho → Wo → (Bool → Wo → Prop) → Prop
def up (Y : Fx) (K : PySem.W.Frag) (t : DTE) : TE := fun σ H Q => ∃ Z F ρ n R, SR Y K Z F H σ ρ n ∧ t ρ n R ∧
  ∀ x n' F' H' v, R x n' → Gr Z.δ F H F' H' → Same F' H' → Z.δ.at_ K F' H' n' → VR K Z.δ F' H' x v → Q v H'
def VRs (K : PySem.W.Frag) (δ : DkS) (F H : Hp) : List Dv → List V → Prop := Paired (VR K δ F H)
def upA (Y : Fx) (K : PySem.W.Frag) (t : DTA) : TA := fun σ H Q => ∃ Z F ρ n R, SR Y K Z F H σ ρ n ∧ t ρ n R ∧
  ∀ xs n' F' H' vs, R xs n' → Gr Z.δ F H F' H' → Same F' H' → Z.δ.at_ K F' H' n' → VRs K Z.δ F' H' xs vs → Q vs H'
def upT (Y : Fx) (K : PySem.W.Frag) (t : DTT) : TT := fun σ H Q => ∃ Z F ρ n R, SR Y K Z F H σ ρ n ∧ t ρ n R ∧
  ∀ c n' F' H', R c n' → Gr Z.δ F H F' H' → Same F' H' → Z.δ.at_ K F' H' n' → Q c H'
/-- a fresh list -/
abbrev DTM := Rho → Wo → (List PyData → Wo → Prop) → Prop
def upM (Y : Fx) (K : PySem.W.Frag) (t : DTM) : TE := fun σ H Q => ∃ Z F ρ n R, SR Y K Z F H σ ρ n ∧ t ρ n R ∧
  ∀ ds n' F' H' p vs, R ds n' → Gr Z.δ F H F' H' → Same F' H' → Z.δ.at_ K F' H' n' → H p = none → F' p = none → H' p = some (.lst vs) → Rps K F' ds vs → Q (.ref p) H'
abbrev WE (Y : Fx) (X : Cx) (e : Expr) (t : DTE) : Prop := PE X e (up Y X.K t)
abbrev WA (Y : Fx) (X : Cx) (es : List Expr) (t : DTA) : Prop := PA X es (upA Y X.K t)
abbrev WT (Y : Fx) (X : Cx) (e : Expr) (t : DTT) : Prop := PT X e (upT Y X.K t)
abbrev ME (Y : Fx) (X : Cx) (e : Expr) (t : DTM) : Prop := PE X e (upM Y X.K t)
theorem pe_imp {X : Cx} {e : Expr} {t t' : TE} (h : PE X e t) (q : ∀ σ H Q, t' σ H Q → t σ H Q) : PE X e t' := ⟨fun p s σ H Q I w => h.run p s σ H Q I (q σ H Q w)⟩
theorem pa_imp {X : Cx} {es : List Expr} {t t' : TA} (h : PA X es t) (q : ∀ σ H Q, t' σ H Q → t σ H Q) : PA X es t' := ⟨fun c p s σ H Q I w => h.run c p s σ H Q I (q σ H Q w)⟩
theorem pt_imp {X : Cx} {e : Expr} {t t' : TT} (h : PT X e t) (q : ∀ σ H Q, t' σ H Q → t σ H Q) : PT X e t' := ⟨fun p s σ H Q I w => h.run p s σ H Q I (q σ H Q w)⟩
theorem ps_imp {X : Cx} {st : Stmt} {t t' : TS} (h : PS X st t) (q : ∀ D σ H, t' D σ H → t D σ H) : PS X st t' := ⟨fun p s σ H D I w => h.run p s σ H D I (q D σ H w)⟩
theorem pss_imp {X : Cx} {st : List Stmt} {t t' : TS} (h : PSs X st t) (q : ∀ D σ H, t' D σ H → t D σ H) : PSs X st t' := ⟨fun p s σ H D I w => h.run p s σ H D I (q D σ H w)⟩
theorem DkS.at_.fz {K : PySem.W.Frag} {δ : DkS} {F H : Hp} {n : Wo} {p : Addr} {o : HO} (h : δ.at_ K F H n) (hp : H p = some o) (ho : isIns o = false) (hF : F p = none) : δ.at_ K (upd F p o) H n :=
  ⟨h.1, ⟨fun a ob e => by
    obtain ⟨h1, dx, vs, h2, h3⟩ := h.2.1 a ob e
    have ne : a ≠ p := fun q => by
      rw [q, hp] at h2
      cases h2
      cases ho
    exact ⟨by rw [upd_ne ne]; exact h1, dx, vs, h2, h3.mono fun b u e => by rw [upd_ne (ne_of_none e hF)]; exact e⟩, fun a x e => (h.2.2 a x e).mono fun b u e => by rw [upd_ne (ne_of_none e hF)]; exact e⟩⟩
/-- a thing of one's own (no object) is changed -/
theorem DkS.at_.chg {K : PySem.W.Frag} {δ : DkS} {F H : Hp} {n : Wo} {p : Addr} {o u : HO} (h : δ.at_ K F H n) (na : p ∉ δ.own) (hp : H p = some o) (ho : isIns o = false) : δ.at_ K F (upd H p u) n :=
  ⟨δ.stay H _ n.n (fun b hb => upd_ne fun q => na (by rw [← q]; exact hb)) h.1, ⟨fun a ob e => by
    obtain ⟨h1, dx, vs, h2, h3⟩ := h.2.1 a ob e
    have ne : a ≠ p := fun q => by
      rw [q, hp] at h2
      cases h2
      cases ho
    exact ⟨h1, dx, vs, by rw [upd_ne ne]; exact h2, h3⟩, h.2.2⟩⟩
theorem DkS.at_.lay {K : PySem.W.Frag} {δ : DkS} {F H : Hp} {n : Wo} {p : Addr} {u : HO} (h : δ.at_ K F H n) (na : p ∉ δ.own) (hp : H p = none) : δ.at_ K F (upd H p u) n :=
  ⟨δ.stay H _ n.n (fun b hb => upd_ne fun q => na (by rw [← q]; exact hb)) h.1, ⟨fun a ob e => by
    obtain ⟨h1, dx, vs, h2, h3⟩ := h.2.1 a ob e
    exact ⟨h1, dx, vs, by rw [upd_ne (ne_of_none h2 hp)]; exact h2, h3⟩, h.2.2⟩⟩
theorem Gr.chg {δ : DkS} {F H F' H' : Hp} {p : Addr} {u : HO} (g : Gr δ F H F' H') (hp : H p = none) : Gr δ F H F' (upd H' p u) :=
  ⟨g.sF, g.nF, fun a o na e hi => by rw [upd_ne (ne_of_none e hp)]; exact g.kH a o na e hi, fun a C dx fs e => by rw [upd_ne (ne_of_none e hp)]; exact g.iH a C dx fs e, fun a e => by
    rw [upd_ne (fun q => e (by rw [q]; exact hp))]; exact g.dH a e⟩
/-- a fresh list, frozen -/
def dOfM (t : DTM) : DTE := fun ρ n R => t ρ n fun ds n' => R (.dat (.list ds)) n'
theorem freeze {K : PySem.W.Frag} {δ : DkS} {F H F' H' : Hp} {p : Addr} {vs : List V} {ds : List PyData} (g : Gr δ F H F' H') (hs : Same F' H') (hp : H p = none) (hF : F' p = none) (hH : H' p = some (.lst vs)) (r : Rps K F' ds vs) :
    Gr δ F H (upd F' p (.lst vs)) H' ∧ Same (upd F' p (.lst vs)) H' ∧ Rp K (upd F' p (.lst vs)) (.list ds) (.ref p) := by
  have s1 : Same F' (upd F' p (.lst vs)) := fun a o e => by rw [upd_ne (ne_of_none e hF)]; exact e
  refine ⟨⟨g.sF.trans s1, fun a h1 h2 => ?_, g.kH, g.iH, g.dH⟩, fun a o e => ?_, ?_⟩
  · rw [upd_ne (fun q => h1 (by rw [q]; exact hp))]; exact g.nF a h1 h2
  · by_cases q : a = p
    · subst q; rw [upd_same] at e; cases e; exact hH
    · rw [upd_ne q] at e; exact hs _ _ e
  · simp only [Rp]
    exact ⟨p, vs, rfl, upd_same, Rps.mono s1 ds vs r⟩
theorem we_ofM {X : Cx} {e : Expr} {t : DTM} (h : ME Y X e t) : WE Y X e (dOfM t) := pe_imp h fun σ H Q ⟨Z, F, ρ, n, R, r, ht, k⟩ =>
  ⟨Z, F, ρ, n, _, r, ht, fun ds n' F' H' p vs hR g hs hd hp hF hH hr => by
    obtain ⟨g2, s2, r2⟩ := freeze g hs hp hF hH hr
    exact k _ _ _ _ _ hR g2 s2 (hd.fz hH rfl hF) r2⟩
end DL
namespace DL
open PySem PySem.Spec PyProof.Rows L2
variable {X : Cx} {Y : Fx}
def dView (x : Dv) (R : Dv → Prop) : Prop :=
  match x with
  | .mt ds => R (.vw ds)
  | .md _ _ => False
  | y => R y
def dVar (i : Nat) : DTE := fun ρ n R => ∃ x, ρ[i]? = some (some x) ∧ dView x fun y => R y n
theorem we_var (i : Nat) {x : Str} {pos : Pos} (hN : X.N[i]? = some x := by rfl) (hv : Vis X.env.scope x := by first | exact Or.inl rfl | exact Or.inr (Or.inl rfl) | exact Or.inr (Or.inr rfl))
    (hd : (x == ("__debug__" : Str)) = false := by decide) (hcd : (x == ("__classdict__" : Str)) = false := by decide) : WE Y X (.Name x pos) (dVar i) :=
  pe_imp (pe_var hN hv hd hcd) fun σ H Q ⟨Z, F, ρ, n, R, r, ⟨y, e, hy⟩, k⟩ => by
    obtain ⟨v, e1, e2⟩ := r.slot i y e
    refine ⟨v, e1, ?_⟩
    cases y with
    | mt ds =>
      obtain ⟨a, vs, rfl, _, _, h2, h3, h4⟩ := e2
      exact k _ _ _ _ _ hy Gr.refl r.b.sub r.b.dk ⟨a, vs, rfl, h2, h3, h4⟩
    | dat d => exact k _ _ _ _ _ hy Gr.refl r.b.sub r.b.dk e2
    | vw ds => exact k _ _ _ _ _ hy Gr.refl r.b.sub r.b.dk e2
    | deck _ => exact k _ _ _ _ _ hy Gr.refl r.b.sub r.b.dk e2
    | md _ _ => exact hy.elim
def dC (d : PyData) : DTE := fun _ n R => R (.dat d) n
theorem we_c {e : Expr} {v : V} {d : PyData} (h : PE X e (tC v)) (hd : ∀ F, Rp X.K F d v) : WE Y X e (dC d) :=
  pe_imp h fun σ H Q ⟨Z, F, ρ, n, R, r, hr, k⟩ => k _ _ _ _ _ hr Gr.refl r.b.sub r.b.dk (hd F)
theorem we_int {i j pos} : WE Y X (.Constant (.int i) j pos) (dC (.int i)) := we_c pe_int fun _ => by simp [Rp]
theorem we_bl {i j pos} : WE Y X (.Constant (.bool i) j pos) (dC (.bool i)) := we_c pe_bl fun _ => by simp [Rp]
theorem we_non {j pos} : WE Y X (.Constant .none j pos) (dC .none) := we_c pe_non fun _ => by simp [Rp]
/-- a module's int -/
theorem we_gint {x : Str} {i : Int} {t : Tok} {pos : Pos} (hg : Gl X x) (hm : X.mg x = some (.int i t)) (hd : (x == ("__debug__" : Str)) = false := by decide) : WE Y X (.Name x pos) (dC (.int i)) :=
  we_c (pe_glob (v := .int i) hg hm ⟨_, rfl⟩ hd) fun _ => by simp [Rp]
def dNil : DTA := fun _ n R => R [] n
def dCons (t : DTE) (u : DTA) : DTA := fun ρ n R => t ρ n fun x n1 => u ρ n1 fun xs n2 => R (x :: xs) n2
theorem wa_nil : WA Y X [] dNil := pa_imp pa_nil fun σ H Q ⟨Z, F, ρ, n, R, r, hr, k⟩ => k _ _ _ _ _ hr Gr.refl r.b.sub r.b.dk .nil
theorem wa_cons {e : Expr} {es : List Expr} {t : DTE} {u : DTA} (ha : WE Y X e t) (hr : WA Y X es u) (hs : starEach (e :: es) X.env = (false, eval e X.env) :: starEach es X.env := by rfl) : WA Y X (e :: es) (dCons t u) :=
  pa_imp (pa_cons ha hr hs) fun σ H Q ⟨Z, F, ρ, n, R, r, ht, k⟩ =>
    ⟨Z, F, ρ, n, _, r, ht, fun x n1 F1 H1 v hx g1 s1 d1 w1 => ⟨Z, F1, ρ, n1, _, r.step g1 s1 d1, hx, fun xs n2 F2 H2 vs hxs g2 s2 d2 w2 =>
      k _ _ _ _ _ hxs (g1.trans g2) s2 d2 (.cons (w1.step g2) w2)⟩⟩
/-- all of them data -/
def needDs : List Dv → (List PyData → Prop) → Prop
  | [], R => R []
  | x :: xs, R => needD x fun d => needDs xs fun ds => R (d :: ds)
theorem needD_is {x : Dv} {R : PyData → Prop} (h : needD x R) : ∃ d, x = .dat d ∧ R d := by
  cases x with
  | dat d => exact ⟨d, rfl, h⟩
  | vw _ => exact h.elim
  | mt _ => exact h.elim
  | deck _ => exact h.elim
  | md _ _ => exact h.elim
theorem needDs_is {K : PySem.W.Frag} {δ : DkS} {F H : Hp} : ∀ {xs : List Dv} {vs : List V} {R : List PyData → Prop}, VRs K δ F H xs vs → needDs xs R → ∃ ds, R ds ∧ Rps K F ds vs
  | [], _, R, .nil, h => ⟨[], h, rps_nil⟩
  | x :: xs, _, R, .cons a b, h => by
    obtain ⟨d, rfl, h⟩ := needD_is h
    obtain ⟨ds, h1, h2⟩ := needDs_is b h
    exact ⟨d :: ds, h1, rps_cons a h2⟩
def dTup (t : DTA) : DTE := fun ρ n R => t ρ n fun xs n' => needDs xs fun ds => ds.length ≤ sizeLine ∧ R (.dat (.tuple ds)) n'
theorem we_tup {es : List Expr} {t : DTA} {x1} {pos : Pos} (h : WA Y X es t) : WE Y X (.Tuple es x1 pos) (dTup t) :=
  pe_imp (pe_tup h) fun σ H Q ⟨Z, F, ρ, n, R, r, ht, k⟩ => ⟨Z, F, ρ, n, _, r, ht, fun xs n1 F1 H1 vs hx g1 s1 d1 w1 => by
    obtain ⟨ds, ⟨hl, hR⟩, hr⟩ := needDs_is w1 hx
    refine ⟨by rw [← hr.length]; exact hl, fun p hp => ?_⟩
    obtain ⟨g2, s2⟩ := Gp.new (o := .tup vs) hp s1
    refine k _ _ _ _ _ hR (g1.trans g2.gr) s2 (g2.dk ((r.step g1 s1 d1).b)) ?_
    simp only [VR, Rp]
    exact ⟨p, vs, rfl, .inl upd_same, Rps.mono g2.sF ds vs hr⟩⟩
def mLst (t : DTA) : DTM := fun ρ n R => t ρ n fun xs n' => needDs xs fun ds => ds.length ≤ sizeLine ∧ R ds n'
theorem me_lst {es : List Expr} {t : DTA} {pos : Pos} (h : WA Y X es t) : ME Y X (.List es pos) (mLst t) :=
  pe_imp (pe_lst h) fun σ H Q ⟨Z, F, ρ, n, R, r, ht, k⟩ => ⟨Z, F, ρ, n, _, r, ht, fun xs n1 F1 H1 vs hx g1 s1 d1 w1 => by
    obtain ⟨ds, ⟨hl, hR⟩, hr⟩ := needDs_is w1 hx
    refine ⟨by rw [← hr.length]; exact hl, fun p hp => ?_⟩
    obtain ⟨g2, s2⟩ := Gp.newM (o := .lst vs) hp s1
    have hp0 : H p = none := by
      cases e : H p with
      | none => rfl
      | some o => exact absurd hp (g1.dH p (by rw [e]; nofun))
    exact k _ _ _ _ _ _ hR (g1.trans g2.gr) s2 (g2.dk ((r.step g1 s1 d1).b)) hp0 (s1.free hp) upd_same hr⟩
abbrev D2 := Dv → Dv → (PyData → Prop) → Prop
abbrev Back (K : PySem.W.Frag) (F H : Hp) (R : PyData → Prop) (Q : VK) : Prop := ∀ d F' H' v, R d → Gp F H F' H' → Same F' H' → Rp K F' d v → Q v H'
def BinOk (K : PySem.W.Frag) (r : R2) (o : D2) : Prop := ∀ δ F H x y v u R Q, Same F H → VR K δ F H x v → VR K δ F H y u → o x y R → Back K F H R Q → r v u H Q
theorem Back.here {K : PySem.W.Frag} {F H : Hp} {R : PyData → Prop} {Q : VK} (b : Back K F H R Q) (hs : Same F H) {d : PyData} {v : V} (h : R d) (r : Rp K F d v) : Q v H := b d F H v h Gp.refl hs r
theorem Back.int {K : PySem.W.Frag} {F H : Hp} {R : PyData → Prop} {Q : VK} (b : Back K F H R Q) (hs : Same F H) {i : Int} (h : R (.int i)) : Q (.int i) H := b.here hs h (by simp [Rp])
theorem Back.bl {K : PySem.W.Frag} {F H : Hp} {R : PyData → Prop} {Q : VK} (b : Back K F H R Q) (hs : Same F H) {i : Bool} (h : R (.bool i)) : Q (.bl i) H := b.here hs h (by simp [Rp])
theorem Back.tup {K : PySem.W.Frag} {F H : Hp} {R : PyData → Prop} {Q : VK} (b : Back K F H R Q) (hs : Same F H) {ds : List PyData} {vs : List V} (h : R (.tuple ds)) (r : Rps K F ds vs) {p : Addr} (hp : H p = none) : Q (.ref p) (upd H p (.tup vs)) := by
  obtain ⟨g, s⟩ := Gp.new (o := .tup vs) hp hs
  refine b _ _ _ _ h g s ?_
  simp only [Rp]
  exact ⟨p, vs, rfl, .inl upd_same, Rps.mono g.sF ds vs r⟩
theorem Back.lst {K : PySem.W.Frag} {F H : Hp} {R : PyData → Prop} {Q : VK} (b : Back K F H R Q) (hs : Same F H) {ds : List PyData} {vs : List V} (h : R (.list ds)) (r : Rps K F ds vs) {p : Addr} (hp : H p = none) : Q (.ref p) (upd H p (.lst vs)) := by
  obtain ⟨g, s⟩ := Gp.new (o := .lst vs) hp hs
  refine b _ _ _ _ h g s ?_
  simp only [Rp]
  exact ⟨p, vs, rfl, upd_same, Rps.mono g.sF ds vs r⟩
def dBin (o : D2) (t u : DTE) : DTE := fun ρ n R => t ρ n fun x n1 => u ρ n1 fun y n2 => o x y fun z => R (.dat z) n2
/-- the two operands, then o -/
theorem two {K : PySem.W.Frag} {r : R2} {o : D2} {t u : DTE} (hr : BinOk K r o) : ∀ σ H Q, up Y K (dBin o t u) σ H Q → tOp r (up Y K t) (up Y K u) σ H Q := fun σ H Q ⟨Z, F, ρ, n, R, s, ht, k⟩ =>
  ⟨Z, F, ρ, n, _, s, ht, fun x n1 F1 H1 v hx g1 s1 d1 w1 => ⟨Z, F1, ρ, n1, _, s.step g1 s1 d1, hx, fun y n2 F2 H2 u hy g2 s2 d2 w2 =>
    hr Z.δ F2 H2 x y v u _ Q s2 (w1.step g2) w2 hy fun d F3 H3 v3 h3 g3 s3 w3 =>
      k _ _ _ _ _ h3 ((g1.trans g2).trans g3.gr) s3 (g3.dk (((s.step g1 s1 d1).step g2 s2 d2).b)) w3⟩⟩
theorem we_bin {op : Operator} {r : R2} {o : D2} {a b : Expr} {t u : DTE} {pos : Pos} (ho : OpR X (binaryOp op) r) (hr : BinOk X.K r o) (ha : WE Y X a t) (hb : WE Y X b u) : WE Y X (.BinOp a op b pos) (dBin o t u) :=
  pe_imp (pe_op ho ha hb) (two hr)
theorem we_cmp {op : CmpOp} {r : R2} {o : D2} {a b : Expr} {t u : DTE} {pos : Pos} (ho : OpR X (compareOp op) r) (hr : BinOk X.K r o) (ha : WE Y X a t) (hb : WE Y X b u) (hm : behindInMarks op b = false) : WE Y X (.Compare a [op] [b] pos) (dBin o t u) :=
  pe_imp (pe_cmpR ho ha hb hm) (two hr)
def dTst (t : DTE) : DTT := fun ρ n R => t ρ n fun x n1 => ∃ c, x = .dat (.bool c) ∧ R c n1
theorem tst {K : PySem.W.Frag} {te : TE} {t : DTE} (h : ∀ σ H Q, up Y K t σ H Q → te σ H Q) : ∀ σ H Q, upT Y K (dTst t) σ H Q → tTest te σ H Q := fun σ H Q ⟨Z, F, ρ, n, R, s, ht, k⟩ => by
  refine h _ _ _ ⟨Z, F, ρ, n, _, s, ht, fun x n1 F1 H1 v ⟨c, e, hx⟩ g1 s1 d1 w1 => ?_⟩
  subst e
  simp only [VR, Rp] at w1
  exact ⟨c, w1, k _ _ _ _ hx g1 s1 d1⟩
theorem wt_cmp {op : CmpOp} {r : R2} {o : D2} {a b : Expr} {t u : DTE} {pos : Pos} (ho : OpR X (compareOp op) r) (hr : BinOk X.K r o) (ha : WE Y X a t) (hb : WE Y X b u) (hm : behindInMarks op b = false) : WT Y X (.Compare a [op] [b] pos) (dTst (dBin o t u)) :=
  pt_imp (pt_cmpR ho ha hb hm) (tst (two hr))
def dChain (o o' : D2) (t u w : DTE) : DTE := fun ρ n R => t ρ n fun x n1 => u ρ n1 fun y n2 => o x y fun c => ∃ k, c = .bool k ∧ (if k = true then w ρ n2 fun z n3 => o' y z fun d => R (.dat d) n3 else R (.dat (.bool false)) n2)
theorem chn {K : PySem.W.Frag} {r r' : R2} {o o' : D2} {t u w : DTE} (hr : BinOk K r o) (hr' : BinOk K r' o') : ∀ σ H Q, up Y K (dChain o o' t u w) σ H Q → tChain r r' (up Y K t) (up Y K u) (up Y K w) σ H Q := fun σ H Q ⟨Z, F, ρ, n, R, s, ht, k⟩ =>
  ⟨Z, F, ρ, n, _, s, ht, fun x n1 F1 H1 v hx g1 s1 d1 w1 => ⟨Z, F1, ρ, n1, _, s.step g1 s1 d1, hx, fun y n2 F2 H2 u hy g2 s2 d2 w2 => by
    refine hr Z.δ F2 H2 x y v u _ _ s2 (w1.step g2) w2 hy fun d F3 H3 v3 ⟨c, e, h3⟩ g3 s3 w3 => ?_
    subst e
    simp only [Rp] at w3
    refine ⟨c, w3, ?_⟩
    have S3 := ((s.step g1 s1 d1).step g2 s2 d2).step g3.gr s3 (g3.dk (((s.step g1 s1 d1).step g2 s2 d2).b))
    cases c with
    | false => exact k _ _ _ _ _ h3 ((g1.trans g2).trans g3.gr) s3 S3.b.dk (by simp [VR, Rp])
    | true =>
      refine ⟨Z, F3, ρ, n2, _, S3, h3, fun z n4 F4 H4 v4 h4 g4 s4 d4 w4 => ?_⟩
      refine hr' Z.δ F4 H4 y z u v4 _ Q s4 ((w2.step g3.gr).step g4) w4 h4 fun d F5 H5 v5 h5 g5 s5 w5 => ?_
      exact k _ _ _ _ _ h5 ((((g1.trans g2).trans g3.gr).trans g4).trans g5.gr) s5 (g5.dk ((S3.step g4 s4 d4).b)) w5⟩⟩
theorem we_chain {op op' : CmpOp} {r r' : R2} {o o' : D2} {a b c : Expr} {t u w : DTE} {pos : Pos} (ho : OpR X (compareOp op) r) (ho' : OpR X (compareOp op') r') (hr : BinOk X.K r o) (hr' : BinOk X.K r' o') (ha : WE Y X a t) (hb : WE Y X b u) (hc : WE Y X c w)
    (hm : lastMarks [op, op'] [b, c] = false := by with_unfolding_all rfl) : WE Y X (.Compare a [op, op'] [b, c] pos) (dChain o o' t u w) :=
  pe_imp (pe_chain ho ho' ha hb hc hm) (chn hr hr')
def oI0 (g : Int → Int → PyData) : D2 := fun x y R =>
  match x, y with
  | .dat (.int i), .dat (.int j) => R (g i j)
  | _, _ => False
def oI (C : Int → Int → Prop) (g : Int → Int → PyData) : D2 := fun x y R =>
  match x, y with
  | .dat (.int i), .dat (.int j) => C i j ∧ R (g i j)
  | _, _ => False
theorem oI_is {C : Int → Int → Prop} {g : Int → Int → PyData} {x y : Dv} {R : PyData → Prop} (h : oI C g x y R) : ∃ i j, x = .dat (.int i) ∧ y = .dat (.int j) ∧ C i j ∧ R (g i j) := by
  unfold oI at h
  split at h
  · exact ⟨_, _, rfl, rfl, h⟩
  · exact h.elim
theorem oI0_is {g : Int → Int → PyData} {x y : Dv} {R : PyData → Prop} (h : oI0 g x y R) : ∃ i j, x = .dat (.int i) ∧ y = .dat (.int j) ∧ R (g i j) := by
  unfold oI0 at h
  split at h
  · exact ⟨_, _, rfl, rfl, h⟩
  · exact h.elim
section
variable {K : PySem.W.Frag}
theorem bi_I {C : Int → Int → Prop} {g : Int → Int → Int} : BinOk K (rI C fun i j => .int (g i j)) (oI C fun i j => .int (g i j)) := fun δ F H x y v u R Q hs hx hy h b => by
  obtain ⟨i, j, rfl, rfl, hc, hr⟩ := oI_is h
  simp only [VR, Rp] at hx hy
  exact ⟨i, j, hx, hy, hc, b.int hs hr⟩
theorem bi_B0 {g : Int → Int → Bool} : BinOk K (rI0 fun i j => .bl (g i j)) (oI0 fun i j => .bool (g i j)) := fun δ F H x y v u R Q hs hx hy h b => by
  obtain ⟨i, j, rfl, rfl, hr⟩ := oI0_is h
  simp only [VR, Rp] at hx hy
  exact ⟨i, j, hx, hy, b.bl hs hr⟩
end
end DL
namespace DL
open PySem PySem.Spec PyProof.Rows L2
variable {X : Cx} {Y : Fx}
section
variable {K : PySem.W.Frag} {F H : Hp}
mutual
theorem Rp.dp : ∀ (d : PyData) (v : V), d.canLay0 = true → Rp K H d v → Dp K H v d
  | .none, _, _, h => by simp only [Rp] at h; subst h; exact .non
  | .bool _, _, _, h => by simp only [Rp] at h; subst h; exact .bl _
  | .int _, _, _, h => by simp only [Rp] at h; subst h; exact .int _
  | .str _, _, _, h => by simp only [Rp] at h; subst h; exact .str _
  | .list ds, _, c, h => by
    simp only [Rp] at h
    obtain ⟨a, xs, rfl, h1, h2⟩ := h
    exact .lst (SqL.of h1) (Rps.dp ds xs (by simpa only [PyData.canLay0] using c) h2)
  | .tuple ds, _, c, h => by
    simp only [Rp] at h
    obtain ⟨a, xs, rfl, h1, h2⟩ := h
    exact .tup (sqtR h1) (Rps.dp ds xs (by simpa only [PyData.canLay0] using c) h2)
  | .dict _, _, c, _ => by simp [PyData.canLay0] at c
theorem Rps.dp : ∀ (ds : List PyData) (vs : List V), PyData.canLayAll0 ds = true → Rps K H ds vs → DpAll K H vs ds
  | [], _, _, h => by simp only [Rps] at h; subst h; exact .nil
  | d :: ds, _, c, h => by
    simp only [Rps] at h
    obtain ⟨v, r, rfl, h1, h2⟩ := h
    simp only [PyData.canLayAll0, Bool.and_eq_true] at c
    exact .cons (Rp.dp d v c.1 h1) (Rps.dp ds r c.2 h2)
end
end
/-- what may be compared: no dict, not too deep -/
abbrev Sh (d : PyData) : Prop := SeqAt.shaped d = true
def oEq (neg : Bool) : D2 := fun x y R => x.isDk = false ∧ y.isDk = false ∧ Sh x.toD ∧ Sh y.toD ∧ R (.bool (if neg then !PyData.eqv x.toD y.toD else PyData.eqv x.toD y.toD))
section
variable {K : PySem.W.Frag}
theorem bi_eq : BinOk K (rEqD K) (oEq false) := fun δ F H x y v u R Q hs hx hy ⟨n1, n2, s1, s2, hr⟩ b =>
  ⟨_, _, Rp.dp _ _ (SeqAt.canLay_of_shaped s1) (hx.rp hs n1), Rp.dp _ _ (SeqAt.canLay_of_shaped s2) (hy.rp hs n2), s1, s2, b.bl hs hr⟩
theorem bi_ne : BinOk K (rNeD K) (oEq true) := fun δ F H x y v u R Q hs hx hy ⟨n1, n2, s1, s2, hr⟩ b =>
  ⟨_, _, Rp.dp _ _ (SeqAt.canLay_of_shaped s1) (hx.rp hs n1), Rp.dp _ _ (SeqAt.canLay_of_shaped s2) (hy.rp hs n2), s1, s2, b.bl hs hr⟩
/-- x in a list -/
def oIn (neg : Bool) : D2 := fun x y R => x.isDk = false ∧ y.isDk = false ∧ ∃ ds, y.toD = .list ds ∧ Sh x.toD ∧ Sh (.list ds) ∧ R (.bool (if neg then !(ds.any fun z => PyData.eqv z x.toD) else ds.any fun z => PyData.eqv z x.toD))
theorem bi_notIn : BinOk K (rNotInD K) (oIn true) := fun δ F H x y v u R Q hs hx hy ⟨n1, n2, ds, e, s1, s2, hr⟩ b =>
  ⟨_, ds, Rp.dp _ _ (SeqAt.canLay_of_shaped s1) (hx.rp hs n1), Rp.dp _ _ (SeqAt.canLay_of_shaped s2) (e ▸ hy.rp hs n2), s1, s2, b.bl hs hr⟩
/-- is None, is not None; bools -/
def isN : PyData → Bool
  | .none => true
  | _ => false
def oIsN (neg : Bool) : D2 := fun x y R => y = .dat .none ∧ x.isDk = false ∧ R (.bool (if neg then !isN x.toD else isN x.toD))
theorem isN_of {F : Hp} {d : PyData} {v : V} (h : Rp K F d v) : isN d = decide (v = .non) := by
  cases d <;> simp only [Rp] at h
  case list => obtain ⟨a, xs, rfl, _⟩ := h; rfl
  case tuple => obtain ⟨a, xs, rfl, _⟩ := h; rfl
  case dict => rcases h with ⟨a, xs, rfl, _⟩ | ⟨a, _, rfl⟩ | ⟨a, _, _, _, rfl, _⟩ <;> rfl
  all_goals (subst h; rfl)
theorem bi_isN : BinOk K (fun x y H Q => y = .non ∧ Q (.bl (decide (x = .non))) H) (oIsN false) := fun δ F H x y v u R Q hs hx hy ⟨e, n, hr⟩ b => by
  subst e
  simp only [VR, Rp] at hy
  refine ⟨hy, b.bl hs ?_⟩
  rw [← isN_of (hx.rp hs n)]; exact hr
theorem bi_notN : BinOk K (fun x y H Q => y = .non ∧ Q (.bl (!decide (x = .non))) H) (oIsN true) := fun δ F H x y v u R Q hs hx hy ⟨e, n, hr⟩ b => by
  subst e
  simp only [VR, Rp] at hy
  refine ⟨hy, b.bl hs ?_⟩
  rw [← isN_of (hx.rp hs n)]; exact hr
/-- + : ints, tuples, lists -/
def oAdd : D2 := fun x y R =>
  match x.toD, y.toD with
  | .int i, .int j => R (.int (i + j))
  | .tuple xs, .tuple ys => xs.length + ys.length ≤ sizeLine ∧ R (.tuple (xs ++ ys))
  | .list xs, .list ys => xs.length + ys.length ≤ sizeLine ∧ R (.list (xs ++ ys))
  | _, _ => False
abbrev rAddA (K : PySem.W.Frag) : R2 := fun x y H Q => (rI0 (fun i j => .int (i + j)) x y H Q ∨ rCatA K x y H Q) ∨ rCat x y H Q
theorem or_addA : OpR X (binaryOp .Add) (rAddA X.K) := OpR.or (OpR.or op_add op_catA) op_cat
theorem notDeck_of {x : Dv} {d : PyData} (h : x.toD = d) (hd : d ≠ .none) : x.isDk = false := by
  cases x with
  | deck _ => exact absurd h.symm hd
  | _ => rfl
theorem bi_add : BinOk K (rAddA K) oAdd := fun δ F H x y v u R Q hs hx hy h b => by
  unfold oAdd at h
  split at h
  · rename_i i j e1 e2
    have r1 := hx.rp hs (notDeck_of e1 nofun); have r2 := hy.rp hs (notDeck_of e2 nofun)
    rw [e1] at r1; rw [e2] at r2
    simp only [Rp] at r1 r2
    exact .inl (.inl ⟨i, j, r1, r2, b.int hs h⟩)
  · rename_i xs ys e1 e2
    cases x with
    | dat d =>
      cases y with
      | dat d' =>
        simp only [Dv.toD] at e1 e2
        subst e1 e2
        simp only [VR, Rp] at hx hy
        obtain ⟨a1, l1, rfl, h1, p1⟩ := hx
        obtain ⟨a2, l2, rfl, h2, p2⟩ := hy
        have z1 := p1.length; have z2 := p2.length
        refine .inl (.inr ⟨a1, a2, l1, l2, rfl, rfl, sqtR (rdS hs h1), sqtR (rdS hs h2), by omega, fun e => ?_, fun _ e => ?_, fun _ _ p hp => ?_⟩)
        · subst e
          have : xs = [] := by simpa using z1
          subst this
          exact b.here hs h.2 (by simp only [Rp]; exact ⟨a2, l2, rfl, h2, p2⟩)
        · subst e
          have : ys = [] := by simpa using z2
          subst this
          exact b.here hs (by simpa using h.2) (by simp only [Rp]; exact ⟨a1, l1, rfl, h1, p1⟩)
        · exact b.tup hs h.2 (p1.append p2) hp
      | vw _ => simp [Dv.toD] at e2
      | mt _ => simp [Dv.toD] at e2
      | deck _ => simp [Dv.toD] at e2
      | md _ _ => simp [Dv.toD] at e2
    | vw _ => simp [Dv.toD] at e1
    | mt _ => simp [Dv.toD] at e1
    | deck _ => simp [Dv.toD] at e1
    | md _ _ => simp [Dv.toD] at e1
  · rename_i xs ys e1 e2
    have lst : ∀ {z : Dv} {w : V} {zs : List PyData}, VR K δ F H z w → z.toD = .list zs → ∃ a l, w = .ref a ∧ H a = some (.lst l) ∧ Rps K F zs l := by
      intro z w zs hz e
      cases z with
      | dat d =>
        simp only [Dv.toD] at e; subst e
        simp only [VR, Rp] at hz
        obtain ⟨a, l, e1, e2, e3⟩ := hz
        exact ⟨a, l, e1, hs _ _ e2, e3⟩
      | vw ds =>
        simp only [Dv.toD, PyData.list.injEq] at e; subst e
        obtain ⟨a, l, e1, e2, e3, _⟩ := hz
        exact ⟨a, l, e1, e2, e3⟩
      | mt _ => exact hz.elim
      | deck _ => simp [Dv.toD] at e
      | md _ _ => exact hz.elim
    obtain ⟨a1, l1, rfl, h1, p1⟩ := lst hx e1
    obtain ⟨a2, l2, rfl, h2, p2⟩ := lst hy e2
    have z1 := p1.length; have z2 := p2.length
    exact .inr ⟨a1, a2, l1, l2, rfl, rfl, h1, h2, by omega, fun p hp => b.lst hs h.2 (p1.append p2) hp⟩
  · exact h.elim
/-- the list that a value is -/
theorem VR.lst {δ : DkS} {F H : Hp} {z : Dv} {w : V} {zs : List PyData} (hs : Same F H) (hz : VR K δ F H z w) (e : z.toD = .list zs) : ∃ a l, w = .ref a ∧ H a = some (.lst l) ∧ Rps K F zs l := by
  cases z with
  | dat d =>
    simp only [Dv.toD] at e; subst e
    simp only [VR, Rp] at hz
    obtain ⟨a, l, e1, e2, e3⟩ := hz
    exact ⟨a, l, e1, hs _ _ e2, e3⟩
  | vw ds =>
    simp only [Dv.toD, PyData.list.injEq] at e; subst e
    obtain ⟨a, l, e1, e2, e3, _⟩ := hz
    exact ⟨a, l, e1, e2, e3⟩
  | mt _ => exact hz.elim
  | deck _ => simp [Dv.toD] at e
  | md _ _ => exact hz.elim
theorem VR.tpl {δ : DkS} {F H : Hp} {z : Dv} {w : V} {zs : List PyData} (hs : Same F H) (hz : VR K δ F H z w) (e : z.toD = .tuple zs) : ∃ a l, w = .ref a ∧ Rd F a (.tup l) ∧ Rps K F zs l := by
  cases z with
  | dat d =>
    simp only [Dv.toD] at e; subst e
    simpa only [VR, Rp] using hz
  | vw ds => simp [Dv.toD] at e
  | mt _ => exact hz.elim
  | deck _ => simp [Dv.toD] at e
  | md _ _ => exact hz.elim
/-- * : ints (one of them small), a list, a tuple by a number -/
def oMul : D2 := fun x y R =>
  match x.toD, y.toD with
  | .int i, .int j => CMul i j ∧ R (.int (i * j))
  | .list xs, .int k => -(2 ^ 63) ≤ k ∧ k < 2 ^ 63 ∧ xs.length * k.toNat ≤ sizeLine ∧ R (.list (List.replicate k.toNat xs).flatten)
  | _, _ => False
theorem Rps.at {F : Hp} {ds : List PyData} {vs : List V} (r : Rps K F ds vs) {i : Int} {d : PyData} (h : atI ds i = some d) : ∃ v, atI vs i = some v ∧ Rp K F d v := by
  unfold atI at h ⊢
  rw [← r.length]
  obtain ⟨j, e1, e2⟩ := Option.bind_eq_some_iff.mp h
  obtain ⟨v, e3, e4⟩ := r.get e2
  exact ⟨v, by rw [e1]; exact e3, e4⟩
def oIx : D2 := fun x y R =>
  match x.toD with
  | .list ds => ∃ i d, y = .dat (.int i) ∧ atI ds i = some d ∧ R d
  | .tuple ds => ∃ i d, y = .dat (.int i) ∧ atI ds i = some d ∧ R d
  | _ => False
theorem bi_ix : BinOk K (rIx K) oIx := fun δ F H x y v u R Q hs hx hy h b => by
  unfold oIx at h
  split at h
  · rename_i ds e
    obtain ⟨a, l, rfl, h1, h2⟩ := hx.lst hs e
    obtain ⟨i, d, rfl, h3, hr⟩ := h
    simp only [VR, Rp] at hy
    obtain ⟨w, e1, e2⟩ := h2.at h3
    exact .inl ⟨a, l, i, w, rfl, hy, SqL.of h1, e1, b.here hs hr e2⟩
  · rename_i ds e
    obtain ⟨a, l, rfl, h1, h2⟩ := hx.tpl hs e
    obtain ⟨i, d, rfl, h3, hr⟩ := h
    simp only [VR, Rp] at hy
    obtain ⟨w, e1, e2⟩ := h2.at h3
    exact .inr (.inl ⟨a, l, i, w, rfl, hy, sqtR (rdS hs h1), e1, b.here hs hr e2⟩)
  · exact h.elim
end
theorem we_ix {a b : Expr} {t u : DTE} {pos : Pos} (ha : WE Y X a t) (hb : WE Y X b u) (hs : PlainIx b) : WE Y X (.Subscript a b pos) (dBin oIx t u) := pe_imp (pe_ix ix_seq ha hb hs) (two bi_ix)
def cutG {α : Type} (xs : List α) (lo hi : Option Int) : List α := (xs.drop (HT.sIx xs.length 0 lo)).take (HT.sIx xs.length xs.length hi - HT.sIx xs.length 0 lo)
/-- xs[::-1] of a list -/
def oRevL (x : Dv) (R : PyData → Prop) : Prop := ∃ ds, x.toD = .list ds ∧ R (.list ds.reverse)
def dUn (o : Dv → (PyData → Prop) → Prop) (t : DTE) : DTE := fun ρ n R => t ρ n fun x n1 => o x fun d => R (.dat d) n1
theorem one {K : PySem.W.Frag} {r : V → Hp → VK → Prop} {o : Dv → (PyData → Prop) → Prop} {t : DTE} (hr : ∀ δ F H x v R Q, Same F H → VR K δ F H x v → o x R → Back K F H R Q → r v H Q) :
    ∀ σ H Q, up Y K (dUn o t) σ H Q → up Y K t σ H fun x H1 => r x H1 Q := fun σ H Q ⟨Z, F, ρ, n, R, s, ht, k⟩ =>
  ⟨Z, F, ρ, n, _, s, ht, fun x n1 F1 H1 v hx g1 s1 d1 w1 => hr Z.δ F1 H1 x v _ Q s1 w1 hx fun d F2 H2 v2 h2 g2 s2 w2 =>
    k _ _ _ _ _ h2 (g1.trans g2.gr) s2 (g2.dk ((s.step g1 s1 d1).b)) w2⟩
theorem we_revL {e : Expr} {t : DTE} {pos p1 p2 p3 : Pos} {k : Nat} (he : WE Y X e t) : WE Y X (.Subscript e (.Slice none none (some (.UnaryOp .USub (.Constant (.int 1) k p1) p2)) p3) pos) (dUn oRevL t) :=
  pe_imp (pe_revL he) (one (r := fun x H1 Q => ∃ a xs, x = .ref a ∧ SqL X.K H1 a xs ∧ ∀ p, H1 p = none → Q (.ref p) (upd H1 p (.lst xs.reverse))) fun δ F H x v R Q hs hx ⟨ds, e, hr⟩ b => by
    obtain ⟨a, xs, rfl, h1, h2⟩ := hx.lst hs e
    exact ⟨a, xs, rfl, SqL.of h1, fun p hp => b.lst hs hr h2.rev hp⟩)
def asB (x : Dv) (R : Bool → Prop) : Prop :=
  match x with
  | .dat (.bool c) => R c
  | _ => False
theorem asB_is {x : Dv} {R : Bool → Prop} (h : asB x R) : ∃ c, x = .dat (.bool c) ∧ R c := by
  unfold asB at h
  split at h
  · exact ⟨_, rfl, h⟩
  · exact h.elim
def dAnd (t u : DTE) : DTE := fun ρ n R => t ρ n fun x n1 => asB x fun c => if c = true then u ρ n1 R else R (.dat (.bool false)) n1
theorem we_one {op} {a : Expr} {t : DTE} {pos : Pos} (h : WE Y X a t) : WE Y X (.BoolOp op [a] pos) t := pe_one h
theorem we_and {a b : Expr} {rest : List Expr} {t u : DTE} {pos : Pos} (ha : WE Y X a t) (hb : WE Y X (.BoolOp .And (b :: rest) pos) u) : WE Y X (.BoolOp .And (a :: b :: rest) pos) (dAnd t u) :=
  pe_imp (pe_and ha hb) fun σ H Q ⟨Z, F, ρ, n, R, r, ht, k⟩ => ⟨Z, F, ρ, n, _, r, ht, fun x n1 F1 H1 v hx g1 s1 d1 w1 => by
    obtain ⟨c, rfl, hx⟩ := asB_is hx
    simp only [VR, Rp] at w1
    refine ⟨c, w1, ?_⟩
    cases c with
    | true => exact ⟨Z, F1, ρ, n1, _, r.step g1 s1 d1, hx, fun y n2 F2 H2 v2 hy g2 s2 d2 w2 => k _ _ _ _ _ hy (g1.trans g2) s2 d2 w2⟩
    | false => exact k _ _ _ _ _ hx g1 s1 d1 (by simp [VR, Rp])⟩
def oNot (x : Dv) (R : PyData → Prop) : Prop := asB x fun c => R (.bool (!c))
theorem we_not {a : Expr} {t : DTE} {pos : Pos} (ha : WE Y X a t) : WE Y X (.UnaryOp .Not a pos) (dUn oNot t) :=
  pe_imp (pe_not ha) (one (r := fun x H1 Q => ∃ c, x = .bl c ∧ Q (.bl (!c)) H1) fun δ F H x v R Q hs hx h b => by
    obtain ⟨c, rfl, hr⟩ := asB_is h
    simp only [VR, Rp] at hx
    exact ⟨c, hx, b.bl hs hr⟩)
def dIf (c : DTT) (t u : DTE) : DTE := fun ρ n R => c ρ n fun b n1 => if b = true then t ρ n1 R else u ρ n1 R
theorem we_if {c a b : Expr} {tc : DTT} {t u : DTE} {pos : Pos} (hc : WT Y X c tc) (ha : WE Y X a t) (hb : WE Y X b u) : WE Y X (.IfExp c a b pos) (dIf tc t u) :=
  pe_imp (pe_ifExp hc ha hb) fun σ H Q ⟨Z, F, ρ, n, R, r, ht, k⟩ => ⟨Z, F, ρ, n, _, r, ht, fun c n1 F1 H1 hx g1 s1 d1 => by
    cases c with
    | true => exact ⟨Z, F1, ρ, n1, _, r.step g1 s1 d1, hx, fun y n2 F2 H2 v2 hy g2 s2 d2 w2 => k _ _ _ _ _ hy (g1.trans g2) s2 d2 w2⟩
    | false => exact ⟨Z, F1, ρ, n1, _, r.step g1 s1 d1, hx, fun y n2 F2 H2 v2 hy g2 s2 d2 w2 => k _ _ _ _ _ hy (g1.trans g2) s2 d2 w2⟩⟩
abbrev WW (Y : Fx) (X : Cx) (e : Expr) (t : DTT) : Prop := PW X e (upT Y X.K t)
theorem pw_imp {e : Expr} {t t' : TT} (h : PW X e t) (q : ∀ σ H Q, t' σ H Q → t σ H Q) : PW X e t' := ⟨fun wh p s σ H Q I w => h.run wh p s σ H Q I (q σ H Q w)⟩
theorem wt_val {e : Expr} {t : DTE} (h : WE Y X e t) (he : ∀ whole, isTrue e X.env whole = (do let v ← whole; standAt e.pos; holding [v] (truthy v)) := by intro _; rfl) : WT Y X e (dTst t) :=
  pt_imp (pt_val h he) fun σ H Q ⟨Z, F, ρ, n, R, s, ht, k⟩ => ⟨Z, F, ρ, n, _, s, ht, fun x n1 F1 H1 v ⟨c, e, hx⟩ g1 s1 d1 w1 => by
    subst e
    simp only [VR, Rp] at w1
    exact ⟨c, w1, k _ _ _ _ hx g1 s1 d1⟩⟩
def oTru (x : Dv) (R : Bool → Prop) : Prop :=
  match x.toD with
  | .list ds => R (!ds.isEmpty)
  | .tuple ds => R (!ds.isEmpty)
  | .bool b => R b
  | .int i => R (i != 0)
  | _ => False
def dTru (t : DTE) : DTT := fun ρ n R => t ρ n fun x n1 => oTru x fun c => R c n1
theorem Rps.isEmpty {K : PySem.W.Frag} {F : Hp} {ds : List PyData} {vs : List V} (r : Rps K F ds vs) : ds.isEmpty = vs.isEmpty := by
  have h := r.length
  cases ds <;> cases vs <;> simp at h ⊢
theorem wt_tru {e : Expr} {t : DTE} (h : WE Y X e t) (he : ∀ whole, isTrue e X.env whole = (do let v ← whole; standAt e.pos; holding [v] (truthy v)) := by intro _; rfl) : WT Y X e (dTru t) :=
  pt_imp (pt_truth h he) fun σ H Q ⟨Z, F, ρ, n, R, s, ht, k⟩ => ⟨Z, F, ρ, n, _, s, ht, fun x n1 F1 H1 v hx g1 s1 d1 w1 => by
    unfold oTru at hx
    split at hx
    · rename_i ds e
      obtain ⟨a, xs, rfl, h1, h2⟩ := w1.lst s1 e
      exact ⟨_, .inl ⟨xs, SqL.of h1, rfl⟩, by rw [← h2.isEmpty]; exact k _ _ _ _ hx g1 s1 d1⟩
    · rename_i ds e
      obtain ⟨a, xs, rfl, h1, h2⟩ := w1.tpl s1 e
      exact ⟨_, .inr (.inl ⟨xs, sqtR (rdS s1 h1), rfl⟩), by rw [← h2.isEmpty]; exact k _ _ _ _ hx g1 s1 d1⟩
    · rename_i b e
      have r1 := w1.rp s1 (notDeck_of e nofun)
      rw [e] at r1; simp only [Rp] at r1; subst r1
      exact ⟨_, rfl, k _ _ _ _ hx g1 s1 d1⟩
    · rename_i i e
      have r1 := w1.rp s1 (notDeck_of e nofun)
      rw [e] at r1; simp only [Rp] at r1; subst r1
      exact ⟨_, rfl, k _ _ _ _ hx g1 s1 d1⟩
    · exact hx.elim⟩
def dTOr (t u : DTT) : DTT := fun ρ n R => t ρ n fun c n1 => if c = true then R true n1 else u ρ n1 R
def dTNot (t : DTT) : DTT := fun ρ n R => t ρ n fun c n1 => R (!c) n1
theorem ww_or1 {a : Expr} {t : DTT} {pos : Pos} (ha : WT Y X a t) : WW Y X (.BoolOp .Or [a] pos) t := pw_or1 ha
theorem ww_or {a b : Expr} {rest : List Expr} {t u : DTT} {pos : Pos} (ha : WT Y X a t) (hb : WW Y X (.BoolOp .Or (b :: rest) pos) u) : WW Y X (.BoolOp .Or (a :: b :: rest) pos) (dTOr t u) :=
  pw_imp (pw_or ha hb) fun σ H Q ⟨Z, F, ρ, n, R, r, ht, k⟩ => ⟨Z, F, ρ, n, _, r, ht, fun c n1 F1 H1 hx g1 s1 d1 => by
    cases c with
    | false => exact ⟨Z, F1, ρ, n1, _, r.step g1 s1 d1, hx, fun y n2 F2 H2 hy g2 s2 d2 => k _ _ _ _ hy (g1.trans g2) s2 d2⟩
    | true => exact k _ _ _ _ hx g1 s1 d1⟩
theorem wt_w {e : Expr} {t : DTT} (h : WW Y X e t) : WT Y X e t := h.pt
theorem wt_not {a : Expr} {t : DTT} {pos : Pos} (ha : WT Y X a t) : WT Y X (.UnaryOp .Not a pos) (dTNot t) :=
  pt_imp (pt_not ha) fun σ H Q ⟨Z, F, ρ, n, R, r, ht, k⟩ => ⟨Z, F, ρ, n, _, r, ht, fun c n1 F1 H1 hx g1 s1 d1 => k _ _ _ _ hx g1 s1 d1⟩
end DL
namespace DL
open PySem PySem.Spec PyProof.Rows L2
variable {X : Cx} {Y : Fx}
def VX (K : PySem.W.Frag) (Hs F H : Hp) : Dv → V → Prop
  | .dat d, v => Rp K F d v
  | .mt ds, v => ∃ p vs, v = .ref p ∧ Hs p = none ∧ F p = none ∧ H p = some (.lst vs) ∧ Rps K F ds vs
  | .md a ks, v => v = .ref a ∧ Hs a = none ∧ F a = none ∧ H a = some (.dK ks)
  | _, _ => False
def upX (Y : Fx) (K : PySem.W.Frag) (t : DTE) : TE := fun σ H Q => ∃ Z F ρ n R, SR Y K Z F H σ ρ n ∧ t ρ n R ∧
  ∀ x n' F' H' v, R x n' → Gr Z.δ F H F' H' → Same F' H' → Z.δ.at_ K F' H' n' → VX K H F' H' x v → Q v H'
abbrev XE (Y : Fx) (X : Cx) (e : Expr) (t : DTE) : Prop := PE X e (upX Y X.K t)
def xD (t : DTE) : DTE := fun ρ n R => t ρ n fun x n' => needD x fun d => R (.dat d) n'
def xM (t : DTM) : DTE := fun ρ n R => t ρ n fun ds n' => R (.mt ds) n'
theorem xe_d {e : Expr} {t : DTE} (h : WE Y X e t) : XE Y X e (xD t) := pe_imp h fun σ H Q ⟨Z, F, ρ, n, R, r, ht, k⟩ =>
  ⟨Z, F, ρ, n, _, r, ht, fun x n1 F1 H1 v hx g1 s1 d1 w1 => by
    obtain ⟨d, rfl, hx⟩ := needD_is hx
    exact k _ _ _ _ _ hx g1 s1 d1 w1⟩
theorem xe_m {e : Expr} {t : DTM} (h : ME Y X e t) : XE Y X e (xM t) := pe_imp h fun σ H Q ⟨Z, F, ρ, n, R, r, ht, k⟩ =>
  ⟨Z, F, ρ, n, _, r, ht, fun ds n1 F1 H1 p vs hx g1 s1 d1 a b c d => k _ _ _ _ _ hx g1 s1 d1 ⟨p, vs, rfl, a, b, c, d⟩⟩
theorem VX.step {K : PySem.W.Frag} {δ : DkS} {Hs F H F' H' : Hp} {x : Dv} {v : V} (hs : ∀ a, a ∈ δ.own → Hs a ≠ none) (g : Gr δ F H F' H') (h : VX K Hs F H x v) : VX K Hs F' H' x v := by
  cases x with
  | dat d => exact Rp.mono g.sF d v h
  | mt ds =>
    obtain ⟨p, vs, rfl, a, b, c, d⟩ := h
    exact ⟨p, vs, rfl, a, g.nF p (by rw [c]; nofun) b, g.kH p _ (fun q => hs p q a) c rfl, Rps.mono g.sF ds vs d⟩
  | vw _ => exact h
  | deck _ => exact h
  | md a ks =>
    obtain ⟨e, h1, h2, h3⟩ := h
    exact ⟨e, h1, g.nF a (by rw [h3]; nofun) h2, g.kH a _ (fun q => hs a q h1) h3 rfl⟩
section
variable {K : PySem.W.Frag} {Y Z : Fx} {F H : Hp} {σ : L2.St} {ρ : Rho} {n : Wo}
theorem SR.set (r : SR Y K Z F H σ ρ n) (i : Nat) {x : Dv} {v : V} {Hs : Hp} (hx : VX K Hs F H x v) (h0 : ∀ p, Hs p = none → Z.H0 p = none ∧ p ∉ Z.δ.own) (hi : ∀ p, Hs p = none → ∀ (j : Nat) (y : Dv), j ≠ i → ρ[j]? = some (some y) → y.isL = true → σ[j]? ≠ some (some (.ref p))) :
    SR Y K Z F H (σ.set i (some v)) (ρ.set i (some x)) n where
  b := r.b
  de := r.de
  he := r.he
  gr := r.gr
  len := by simp [r.len]
  slot := fun j y e => by
    by_cases q : i = j
    · subst q
      by_cases hl : i < ρ.length
      · rw [List.getElem?_set_self hl] at e
        cases e
        refine ⟨v, List.getElem?_set_self (by rw [← r.len]; exact hl), ?_⟩
        cases x with
        | dat d => exact hx
        | mt ds =>
          obtain ⟨p, vs, rfl, a, b, c, d⟩ := hx
          exact ⟨p, vs, rfl, (h0 p a).1, b, c, d, (h0 p a).2⟩
        | vw _ => exact hx.elim
        | deck _ => exact hx.elim
        | md a ks =>
          obtain ⟨e, h1, h2, h3⟩ := hx
          exact ⟨e, (h0 a h1).1, h2, h3, (h0 a h1).2⟩
      · rw [List.getElem?_eq_none (by rw [List.length_set]; omega)] at e
        cases e
    · rw [List.getElem?_set_ne q] at e
      obtain ⟨w, e1, e2⟩ := r.slot j y e
      exact ⟨w, by rw [List.getElem?_set_ne q]; exact e1, e2⟩
  apart := fun j k a ds y hjk e1 e2 e3 hy e4 => by
    by_cases q : i = j
    · subst q
      by_cases hl : i < ρ.length
      · rw [List.getElem?_set_self hl] at e1
        rw [List.getElem?_set_self (by rw [← r.len]; exact hl)] at e2
        cases e1; cases e2
        rw [List.getElem?_set_ne hjk] at e3 e4
        obtain ⟨p, vs, e5, a', b, c, d⟩ := hx
        cases e5
        exact hi _ a' k y (Ne.symm hjk) e3 hy e4
      · rw [List.getElem?_eq_none (by rw [List.length_set]; omega)] at e1
        cases e1
    · rw [List.getElem?_set_ne q] at e1 e2
      by_cases q2 : i = k
      · subst q2
        by_cases hl : i < ρ.length
        · rw [List.getElem?_set_self hl] at e3
          rw [List.getElem?_set_self (by rw [← r.len]; exact hl)] at e4
          cases e3; cases e4
          cases x with
          | dat d => simp [Dv.isL] at hy
          | mt ds' =>
            obtain ⟨p, vs, e5, a', b, c, d⟩ := hx
            cases e5
            exact hi _ a' j (.mt ds) hjk e1 rfl e2
          | vw _ => exact hx.elim
          | deck _ => exact hx.elim
          | md _ _ => simp [Dv.isL] at hy
        · rw [List.getElem?_eq_none (by rw [List.length_set]; omega)] at e3
          cases e3
      · rw [List.getElem?_set_ne q2] at e3 e4
        exact r.apart j k a ds y hjk e1 e2 e3 hy e4
/-- a slot that is a list's lies in the heap -/
theorem SR.inH (r : SR Y K Z F H σ ρ n) {j : Nat} {y : Dv} {p : Addr} (e : ρ[j]? = some (some y)) (hy : y.isL = true) (e2 : σ[j]? = some (some (.ref p))) : H p ≠ none := by
  obtain ⟨v, e3, e4⟩ := r.slot j y e
  rw [e2] at e3; cases e3
  cases y with
  | dat _ => simp [Dv.isL] at hy
  | deck _ => simp [Dv.isL] at hy
  | md _ _ => simp [Dv.isL] at hy
  | vw ds =>
    obtain ⟨a, vs, q, h, _⟩ := e4
    cases q; rw [h]; nofun
  | mt ds =>
    obtain ⟨a, vs, q, _, _, h, _⟩ := e4
    cases q; rw [h]; nofun
/-- .. where it was made in an expression that began at Hs -/
theorem SR.fresh (r : SR Y K Z F H σ ρ n) {p : Addr} (h : H p = none) : Z.H0 p = none ∧ p ∉ Z.δ.own := by
  have n1 : p ∉ Z.δ.own := fun q => (r.b.dkF p q).2 h
  refine ⟨?_, n1⟩
  cases e : Z.H0 p with
  | none => rfl
  | some o => exact absurd h (r.b.gD p (by rw [e]; nofun))
theorem SR.setX (r0 : SR Y K Z F H σ ρ n) {F' H' : Hp} {n' : Wo} (r : SR Y K Z F' H' σ ρ n') (i : Nat) {x : Dv} {v : V} (hx : VX K H F' H' x v) : SR Y K Z F' H' (σ.set i (some v)) (ρ.set i (some x)) n' :=
  r.set i hx (fun p h => r0.fresh h) fun p h j y _ e hy e2 => r0.inH e hy e2 h
end
structure DEnds where
  nx : Rho → Wo → Prop
  rt : PyData → Wo → Prop
  bk : Rho → Wo → Prop := fun _ _ => False
  ct : Rho → Wo → Prop := fun _ _ => False
abbrev DTS := DEnds → Rho → Wo → Prop
structure EndsOk (Y : Fx) (K : PySem.W.Frag) (Z : Fx) (E : DEnds) (D : Ends) : Prop where
  nx : ∀ F H σ ρ n, E.nx ρ n → SR Y K Z F H σ ρ n → D.nx σ H
  rt : ∀ d n F H v, E.rt d n → Base K Z F H n → Rp K F d v → D.rt v H
  bk : ∀ F H σ ρ n, E.bk ρ n → SR Y K Z F H σ ρ n → D.bk σ H
  ct : ∀ F H σ ρ n, E.ct ρ n → SR Y K Z F H σ ρ n → D.ct σ H
def upS (Y : Fx) (K : PySem.W.Frag) (t : DTS) : TS := fun D σ H => ∃ Z F ρ n E, SR Y K Z F H σ ρ n ∧ t E ρ n ∧ EndsOk Y K Z E D
abbrev DS (Y : Fx) (X : Cx) (st : Stmt) (t : DTS) : Prop := PS X st (upS Y X.K t)
abbrev DSs (Y : Fx) (X : Cx) (st : List Stmt) (t : DTS) : Prop := PSs X st (upS Y X.K t)
def dSkip : DTS := fun E ρ n => E.nx ρ n
def dSeq (t u : DTS) : DTS := fun E ρ n => t { E with nx := u E } ρ n
theorem dss_nil : DSs Y X [] dSkip := pss_imp pss_nil fun D σ H ⟨Z, F, ρ, n, E, r, ht, k⟩ => k.nx _ _ _ _ _ ht r
theorem dss_cons {st : Stmt} {rest : List Stmt} {t u : DTS} (h1 : DS Y X st t) (h2 : DSs Y X rest u) : DSs Y X (st :: rest) (dSeq t u) :=
  pss_imp (pss_cons h1 h2) fun D σ H ⟨Z, F, ρ, n, E, r, ht, k⟩ => ⟨Z, F, ρ, n, _, r, ht, ⟨fun F' H' σ' ρ' n' h r' => ⟨Z, F', ρ', n', E, r', h, k⟩, k.rt, k.bk, k.ct⟩⟩
theorem dss_one {st : Stmt} {t : DTS} (h : DS Y X st t) : DSs Y X [st] t := pss_one h
def dRet (t : DTE) : DTS := fun E ρ n => t ρ n fun x n' => needD x fun d => E.rt d n'
theorem ds_ret {e : Expr} {t : DTE} {pos : Pos} (he : WE Y X e t) : DS Y X (.Return (some e) pos) (dRet t) :=
  ps_imp (ps_ret he) fun D σ H ⟨Z, F, ρ, n, E, r, ht, k⟩ => ⟨Z, F, ρ, n, _, r, ht, fun x n1 F1 H1 v hx g1 s1 d1 w1 => by
    obtain ⟨d, rfl, hx⟩ := needD_is hx
    exact k.rt _ _ _ _ _ hx (r.b.step g1 s1 d1) w1⟩
def dIfS (c : DTT) (t u : DTS) : DTS := fun E ρ n => c ρ n fun b n' => if b = true then t E ρ n' else u E ρ n'
theorem ds_if {c : Expr} {a b : List Stmt} {tc : DTT} {t u : DTS} {pos : Pos} (hc : WT Y X c tc) (ha : DSs Y X a t) (hb : DSs Y X b u) : DS Y X (.If c a b pos) (dIfS tc t u) :=
  ps_imp (ps_if hc ha hb) fun D σ H ⟨Z, F, ρ, n, E, r, ht, k⟩ => ⟨Z, F, ρ, n, _, r, ht, fun c n1 F1 H1 hx g1 s1 d1 => by
    cases c with
    | true => exact ⟨Z, F1, ρ, n1, E, r.step g1 s1 d1, hx, k⟩
    | false => exact ⟨Z, F1, ρ, n1, E, r.step g1 s1 d1, hx, k⟩⟩
/-- name = value -/
def dAsg (i : Nat) (t : DTE) : DTS := fun E ρ n => t ρ n fun x n' => E.nx (ρ.set i (some x)) n'
theorem asg_im {i : Nat} {K : PySem.W.Frag} {t : DTE} : ∀ D σ H, upS Y K (dAsg i t) D σ H → tAsg (upX Y K t) (gName i) D σ H := fun D σ H ⟨Z, F, ρ, n, E, r, ht, k⟩ =>
  ⟨Z, F, ρ, n, _, r, ht, fun x n1 F1 H1 v hx g1 s1 d1 w1 => k.nx _ _ _ _ _ hx (r.setX (r.step g1 s1 d1) i w1)⟩
theorem ds_set {i : Nat} {x : Str} {e : Expr} {t : DTE} {pos pos' : Pos} (hN : X.N.Nodup) (hi : X.N[i]? = some x) (hx : Loc X.env.scope x) (he : XE Y X e t) (hs : swapsWith e (some (.Name x pos')) pos.line X.env = pure false := by rfl)
    (hf : X.fn x = true ∨ X.env.scope.names.lookup x = some .local := by first | exact .inl rfl | exact .inr rfl | assumption) : DS Y X (.Assign [.Name x pos'] e pos) (dAsg i t) := ps_imp (ps_set hN hi hx he hs hf) asg_im
/-- a, b = x, y -/
def dPar (i j : Nat) (t u : DTE) : DTS := fun E ρ n => t ρ n fun x n1 => u ρ n1 fun y n2 => E.nx ((ρ.set i (some x)).set j (some y)) n2
theorem par_set {K : PySem.W.Frag} {Y Z : Fx} {F H F1 H1 F2 H2 : Hp} {σ : L2.St} {ρ : Rho} {n n1 n2 : Wo} {i j : Nat} {x y : Dv} {v w : V} (hij : i ≠ j) (r : SR Y K Z F H σ ρ n) (r1 : SR Y K Z F1 H1 σ ρ n1) (r2 : SR Y K Z F2 H2 σ ρ n2) (g : Gr Z.δ F1 H1 F2 H2)
    (hx : VX K H F1 H1 x v) (hy : VX K H1 F2 H2 y w) : SR Y K Z F2 H2 ((σ.set i (some v)).set j (some w)) ((ρ.set i (some x)).set j (some y)) n2 := by
  have hx2 : VX K H F2 H2 x v := hx.step (fun a ha => (r.b.dkF a ha).2) g
  refine (r.setX r2 i hx2).set (Hs := H1) j hy (fun p h => r1.fresh h) fun p h l z hl e hz e2 => ?_
  by_cases q : i = l
  · subst q
    by_cases hlt : i < ρ.length
    · rw [List.getElem?_set_self hlt] at e
      rw [List.getElem?_set_self (by rw [← r.len]; exact hlt)] at e2
      cases e; cases e2
      cases x with
      | dat _ => simp [Dv.isL] at hz
      | mt ds =>
        obtain ⟨p', vs, q1, _, _, q2, _⟩ := hx
        cases q1
        rw [q2] at h; cases h
      | vw _ => exact hx.elim
      | deck _ => exact hx.elim
      | md _ _ => simp [Dv.isL] at hz
    · rw [List.getElem?_eq_none (by rw [List.length_set]; omega)] at e
      cases e
  · rw [List.getElem?_set_ne q] at e e2
    exact r1.inH e hz e2 h
def upX2 (Y : Fx) (K : PySem.W.Frag) (t u : DTE) : TA := tCons (upX Y K t) (tCons (upX Y K u) tNil)
theorem xa_two {a b : Expr} {t u : DTE} (ha : XE Y X a t) (hb : XE Y X b u) (hs : starEach [a, b] X.env = (false, eval a X.env) :: starEach [b] X.env := by rfl) (hs2 : starEach [b] X.env = (false, eval b X.env) :: starEach [] X.env := by rfl) : PA X [a, b] (upX2 Y X.K t u) :=
  pa_cons ha (pa_cons hb pa_nil hs2) hs
theorem ds_par {i j : Nat} {x y : Str} {a b : Expr} {t u : DTE} {px py pt pos : Pos} {kt k2 pt2} (hc : X.calm = true) (hN : X.N.Nodup) (hi : X.N[i]? = some x) (hj : X.N[j]? = some y) (hij : i ≠ j)
    (hx : X.env.scope.names.lookup x = some .local) (hy : X.env.scope.names.lookup y = some .local) (ha : XE Y X a t) (hb : XE Y X b u)
    (hw : swappedStores [.Tuple [.Name x px, .Name y py] kt pt] (.Tuple [a, b] k2 pt2) X.env = pure (some [x, y]))
    (hs : swapsWithSole [.Tuple [.Name x px, .Name y py] kt pt] (.Tuple [a, b] k2 pt2) pos.line X.env = pure false := by rfl)
    (h1 : starEach [a, b] X.env = (false, eval a X.env) :: starEach [b] X.env := by rfl) (h2 : starEach [b] X.env = (false, eval b X.env) :: starEach [] X.env := by rfl) :
    DS Y X (.Assign [.Tuple [.Name x px, .Name y py] kt pt] (.Tuple [a, b] k2 pt2) pos) (dPar i j t u) :=
  ps_imp (ps_par hc hN hi hj hij hx hy (xa_two ha hb h1 h2) hw hs) fun D σ H ⟨Z, F, ρ, n, E, r, ht, k⟩ =>
    ⟨Z, F, ρ, n, _, r, ht, fun x1 n1 F1 H1 v hx g1 s1 d1 w1 => ⟨Z, F1, ρ, n1, _, r.step g1 s1 d1, hx, fun y1 n2 F2 H2 w hy g2 s2 d2 w2 =>
      ⟨v, w, rfl, k.nx _ _ _ _ _ hy (par_set hij r (r.step g1 s1 d1) ((r.step g1 s1 d1).step g2 s2 d2) g2 w1 w2)⟩⟩⟩
end DL
namespace DL
open PySem PySem.Spec PyProof.Rows L2
variable {X : Cx} {Y : Fx}
structure ItOk (K : PySem.W.Frag) (J : It) (F1 : Hp) (xs : List PyData) : Prop where
  go : ∀ (i : Nat) H, Same F1 H → i < xs.length → J.go i H
  stop : ∀ (i : Nat) H, Same F1 H → xs.length ≤ i → J.stop i H
  yld : ∀ (i : Nat) H v H' x, J.yld i H v H' → Same F1 H → xs[i]? = some x → (H' = H ∧ Rp K F1 x v) ∨ ∃ T us ds, v = .ref T ∧ H T = none ∧ H' = upd H T (.tup us) ∧ x = .tuple ds ∧ Rps K F1 ds us
abbrev DSrc := Rho → Wo → (List PyData → Wo → Prop) → Prop
def upI (Y : Fx) (K : PySem.W.Frag) (t : DSrc) : TI := fun σ H R => ∃ Z F ρ n Q, SR Y K Z F H σ ρ n ∧ t ρ n Q ∧
  ∀ xs n' F' H' J, Q xs n' → Gr Z.δ F H F' H' → Same F' H' → Z.δ.at_ K F' H' n' → ItOk K J F' xs → R J H'
abbrev DI (Y : Fx) (X : Cx) (tg iter : Expr) (t : DSrc) : Prop := PI X tg iter (upI Y X.K t)
theorem pi_imp {tg iter : Expr} {t t' : TI} (h : PI X tg iter t) (q : ∀ σ H R, t' σ H R → t σ H R) : PI X tg iter t' := ⟨fun p s σ H R I w => h.run p s σ H R I (q σ H R w)⟩
/-- what yields in a heap where the data stands -/
theorem ItOk.use {K : PySem.W.Frag} {J : It} {F1 F H H' : Hp} {xs : List PyData} {i : Nat} {v : V} {x : PyData} (k : ItOk K J F1 xs) (h1 : Same F1 F) (hs : Same F H) (hy : J.yld i H v H') (hx : xs[i]? = some x) :
    ∃ F', Gp F H F' H' ∧ Same F' H' ∧ Rp K F' x v := by
  rcases k.yld i H v H' x hy (h1.trans hs) hx with ⟨rfl, r⟩ | ⟨T, us, ds, rfl, hT, rfl, rfl, r⟩
  · exact ⟨F, Gp.refl, hs, Rp.mono h1 x v r⟩
  · obtain ⟨g, s⟩ := Gp.new (o := .tup us) hT hs
    refine ⟨_, g, s, ?_⟩
    simp only [Rp]
    exact ⟨T, us, rfl, .inl upd_same, Rps.mono (h1.trans g.sF) ds us r⟩
theorem itOk_list {K : PySem.W.Frag} {F : Hp} {a : Addr} {vs : List V} {ds : List PyData} (h : F a = some (.lst vs)) (r : Rps K F ds vs) : ItOk K (Itl K a) F ds where
  go := fun i H s hi => ⟨vs, vs[i]'(by rw [← r.length]; exact hi), SqL.of (s _ _ h), by simp⟩
  stop := fun i H s hi => ⟨vs, SqL.of (s _ _ h), by rw [← r.length]; exact hi⟩
  yld := fun i H v H' x ⟨e, y⟩ s hx => by
    have h1 := y vs (SqL.of (s _ _ h))
    obtain ⟨w, e1, e2⟩ := r.get hx
    rw [h1] at e1; cases e1
    exact .inl ⟨e, e2⟩
theorem itOk_tup {K : PySem.W.Frag} {F : Hp} {a : Addr} {vs : List V} {ds : List PyData} (h : Rd F a (.tup vs)) (r : Rps K F ds vs) : ItOk K (Itt K a) F ds where
  go := fun i H s hi => ⟨vs, vs[i]'(by rw [← r.length]; exact hi), sqtR (rdS s h), by simp⟩
  stop := fun i H s hi => ⟨vs, sqtR (rdS s h), by rw [← r.length]; exact hi⟩
  yld := fun i H v H' x ⟨e, y⟩ s hx => by
    have h1 := y vs (sqtR (rdS s h))
    obtain ⟨w, e1, e2⟩ := r.get hx
    rw [h1] at e1; cases e1
    exact .inl ⟨e, e2⟩
/-- range -/
def rngD (lo : Int) (n : Nat) : List PyData := (List.range n).map fun (k : Nat) => PyData.int (lo + k)
theorem rngD_length {lo : Int} {n : Nat} : (rngD lo n).length = n := by simp [rngD]
theorem rngD_get {lo : Int} {n i : Nat} {x : PyData} (h : (rngD lo n)[i]? = some x) : x = .int (lo + (i : Int)) ∧ i < n := by
  unfold rngD at h
  rw [List.getElem?_map] at h
  cases e : (List.range n)[i]? with
  | none => rw [e] at h; cases h
  | some j =>
    rw [e] at h
    have hi : i < n := by simpa using (List.getElem?_eq_some_iff.mp e).1
    rw [List.getElem?_range hi] at e
    cases e; cases h
    exact ⟨rfl, hi⟩
theorem itOk_rng {K : PySem.W.Frag} {F : Hp} {lo : Int} {n : Nat} : ItOk K (Itr lo n) F (rngD lo n) where
  go := fun i H s hi => by rw [rngD_length] at hi; exact hi
  stop := fun i H s hi => by rw [rngD_length] at hi; exact hi
  yld := fun i H v H' x ⟨e, y⟩ s hx => by
    obtain ⟨h1, _⟩ := rngD_get hx
    exact .inl ⟨e, by rw [h1, y]; simp [Rp]⟩
def dRng1 (t : DTA) : DSrc := fun ρ n R => t ρ n fun xs n' => ∃ j : Int, xs = [.dat (.int j)] ∧ -(2 ^ 62) ≤ j ∧ j < 2 ^ 62 ∧ R (rngD 0 j.toNat) n'
theorem vrs1 {K : PySem.W.Frag} {δ : DkS} {F H : Hp} {i : Int} {vs : List V} (h : VRs K δ F H [.dat (.int i)] vs) : vs = [.int i] := by
  cases h with
  | cons a b =>
    cases b
    simp only [VR, Rp] at a; rw [a]
theorem vrs2 {K : PySem.W.Frag} {δ : DkS} {F H : Hp} {i j : Int} {vs : List V} (h : VRs K δ F H [.dat (.int i), .dat (.int j)] vs) : vs = [.int i, .int j] := by
  cases h with
  | cons a b =>
    simp only [VR, Rp] at a; rw [a, vrs1 b]
theorem di_range1 {tg a : Expr} {t : DTA} {p pos : Pos} (hg : Gl X "range") (hm : X.mg "range" = none) (ha : WA Y X [a] t) (hs : starEach [a] X.env = [(false, eval a X.env)] := by rfl) : DI Y X tg (.Call (.Name "range" p) [a] [] pos) (dRng1 t) :=
  pi_imp (pi_range1 hg hm ha hs) fun σ H R ⟨Z, F, ρ, n, Q, r, ht, k⟩ => ⟨Z, F, ρ, n, _, r, ht, fun xs n1 F1 H1 vs ⟨j, e, l, u, hx⟩ g1 s1 d1 w1 => by
    subst e
    exact ⟨j, vrs1 w1, l, u, k _ _ _ _ _ hx g1 s1 d1 itOk_rng⟩⟩
/-- enumerate of a list, zip of two lists, of two tuples -/
def enumD (ds : List PyData) : List PyData := ds.zipIdx.map fun p => .tuple [.int (p.2 : Nat), p.1]
theorem enumD_length {ds : List PyData} : (enumD ds).length = ds.length := by simp [enumD]
theorem enumD_get {ds : List PyData} {i : Nat} {x : PyData} (h : (enumD ds)[i]? = some x) : ∃ d, ds[i]? = some d ∧ x = .tuple [.int (i : Nat), d] := by
  unfold enumD at h
  rw [List.getElem?_map, List.getElem?_zipIdx] at h
  cases e : ds[i]? with
  | none => rw [e] at h; cases h
  | some d =>
    rw [e] at h
    simp at h
    exact ⟨d, rfl, h.symm⟩
theorem itOk_enum {K : PySem.W.Frag} {F : Hp} {a : Addr} {vs : List V} {ds : List PyData} (h : F a = some (.lst vs)) (r : Rps K F ds vs) : ItOk K (Ite K a) F (enumD ds) where
  go := fun i H s hi => by
    rw [enumD_length] at hi
    exact ⟨vs, vs[i]'(by rw [← r.length]; exact hi), SqL.of (s _ _ h), by simp⟩
  stop := fun i H s hi => ⟨vs, SqL.of (s _ _ h), by rw [← r.length, ← enumD_length]; exact hi⟩
  yld := fun i H v H' x ⟨T, y, e1, e2, e3, e4⟩ s hx => by
    obtain ⟨d, q1, q2⟩ := enumD_get hx
    obtain ⟨w, q3, q4⟩ := r.get q1
    rw [e4 vs (SqL.of (s _ _ h))] at q3; cases q3
    exact .inr ⟨T, _, _, e1, e2, e3, q2, rps_cons (by simp [Rp]) (rps_cons q4 rps_nil)⟩
abbrev DTG := PyData → Rho → (Rho → Prop) → Prop
structure GOk (K : PySem.W.Frag) (t : TG) (g : DTG) (sl : List Nat) : Prop where
  im : ∀ Y Z F H σ ρ n d v R Q, SR Y K Z F H σ ρ n → Rp K F d v → g d ρ R → (∀ σ' ρ', R ρ' → SR Y K Z F H σ' ρ' n → (∀ vs : List Nat, (∀ i ∈ sl, i ∈ vs) → wipe σ' vs = wipe σ vs) → Q σ' H) → t v σ H Q
def DG (X : Cx) (tg : Expr) (t : TG) (g : DTG) (sl : List Nat) : Prop := PG X tg t ∧ GOk X.K t g sl
def gN (i : Nat) : DTG := fun d ρ R => R (ρ.set i (some (.dat d)))
theorem wipe_set {σ : L2.St} {i : Nat} {x : Option V} : ∀ {vs : List Nat}, i ∈ vs → wipe (σ.set i x) vs = wipe σ vs
  | [], h => by simp at h
  | v :: vs, h => by
    unfold wipe
    by_cases q : i ∈ vs
    · rw [wipe_set q]
    · have e : i = v := by
        rcases List.mem_cons.mp h with e | e
        · exact e
        · exact absurd e q
      subst e
      have comm : ∀ us : List Nat, i ∉ us → wipe (σ.set i x) us = (wipe σ us).set i x := by
        intro us
        induction us with
        | nil => intro _; rfl
        | cons u us ih =>
          intro hu
          simp only [List.mem_cons, not_or] at hu
          unfold wipe
          rw [ih hu.2, List.set_comm _ _ hu.1]
      rw [comm vs q, List.set_set]
theorem gok_name {K : PySem.W.Frag} {i : Nat} : GOk K (gName i) (gN i) [i] := ⟨fun Y Z F H σ ρ n d v R Q r hr h k =>
  k _ _ h (r.set (Hs := H) i (x := .dat d) hr (fun p q => r.fresh q) fun p q l z _ e hz e2 => r.inH e hz e2 q) fun vs hv => wipe_set (hv i (by simp))⟩
def gT2 (i j : Nat) : DTG := fun d ρ R => ∃ a b, d = .tuple [a, b] ∧ R ((ρ.set i (some (.dat a))).set j (some (.dat b)))
theorem rps2 {K : PySem.W.Frag} {F : Hp} {a b : PyData} {vs : List V} (h : Rps K F [a, b] vs) : ∃ v w, vs = [v, w] ∧ Rp K F a v ∧ Rp K F b w := by
  simp only [Rps] at h
  obtain ⟨v, _, rfl, h1, w, _, rfl, h2, rfl⟩ := h
  exact ⟨v, w, rfl, h1, h2⟩
theorem SR.setD {K : PySem.W.Frag} {Y Z : Fx} {F H : Hp} {σ : L2.St} {ρ : Rho} {n : Wo} (r : SR Y K Z F H σ ρ n) (i : Nat) {d : PyData} {v : V} (h : Rp K F d v) : SR Y K Z F H (σ.set i (some v)) (ρ.set i (some (.dat d))) n :=
  r.set (Hs := H) i (x := .dat d) h (fun p q => r.fresh q) fun p q l z _ e hz e2 => r.inH e hz e2 q
theorem gok_two {K : PySem.W.Frag} {i j : Nat} : GOk K (gTup K 2 (gCons (gName i) (gCons (gName j) gNil))) (gT2 i j) [i, j] := ⟨fun Y Z F H σ ρ n d v R Q r hr h k => by
  obtain ⟨a, b, rfl, h⟩ := h
  simp only [Rp] at hr
  obtain ⟨p, xs, rfl, hp, hxs⟩ := hr
  obtain ⟨v, w, rfl, h1, h2⟩ := rps2 hxs
  refine ⟨p, _, rfl, sqtR (rdS r.b.sub hp), rfl, v, _, rfl, w, _, rfl, rfl, k _ _ h ((r.setD i h1).setD j h2) fun vs hv => ?_⟩
  rw [wipe_set (hv j (by simp)), wipe_set (hv i (by simp))]⟩
abbrev FStep := PyData → Rho → Wo → (Rho → Wo → Prop) → Prop
structure ForR (xs : List PyData) (ρ : Rho) (n : Wo) (step : FStep) (Q : Rho → Wo → Prop) : Prop where
  ex : ∃ I : Nat → Rho → Wo → Prop, I 0 ρ n ∧ (∀ (k : Nat) x ρ' n', xs[k]? = some x → I k ρ' n' → step x ρ' n' (I (k + 1))) ∧ ∀ ρ' n', I xs.length ρ' n' → Q ρ' n'
def dFor (s : DSrc) (g : DTG) (b : DTS) : DTS := fun E ρ n => s ρ n fun xs n1 => ForR xs ρ n1 (fun x ρ' n' K => g x ρ' fun ρ'' => b { E with nx := K, ct := K, bk := E.nx } ρ'' n') E.nx
theorem SR.base {K : PySem.W.Frag} {Y Z : Fx} {F0 H : Hp} {σ : L2.St} {ρ : Rho} {n : Wo} (r : SR Y K Z F0 H σ ρ n) : SR Y K { Z with F0 := F0 } F0 H σ ρ n :=
  ⟨⟨r.b.sub, r.b.dk, r.b.dkF, Same.refl _, fun a _ h => h, r.b.gH, r.b.gI⟩, r.de, r.he, r.gr, r.len, fun i x e => by
    obtain ⟨v, e1, e2⟩ := r.slot i x e
    refine ⟨v, e1, ?_⟩
    cases x <;> exact e2, r.apart⟩
theorem Base.back {K : PySem.W.Frag} {Z : Fx} {F1 H1 F H : Hp} {n1 n : Wo} (b1 : Base K Z F1 H1 n1) (b : Base K { Z with F0 := F1 } F H n) : Base K Z F H n :=
  ⟨b.sub, b.dk, b.dkF, b1.gF.trans b.gF, fun a h1 h2 => b.gN a h1 (b1.gN a h1 h2), b.gH, b.gI⟩
theorem SR.back {K : PySem.W.Frag} {Y Z : Fx} {F1 H1 F H : Hp} {σ : L2.St} {ρ : Rho} {n n1 : Wo} (b1 : Base K Z F1 H1 n1) (r : SR Y K { Z with F0 := F1 } F H σ ρ n) : SR Y K Z F H σ ρ n :=
  ⟨b1.back r.b, r.de, r.he, r.gr, r.len, fun i x e => by
    obtain ⟨v, e1, e2⟩ := r.slot i x e
    refine ⟨v, e1, ?_⟩
    cases x <;> exact e2, r.apart⟩
theorem ds_for {tg iter : Expr} {body : List Stmt} {s : DSrc} {t : TG} {g : DTG} {sl : List Nat} {b : DTS} {pos : Pos} (hp : PassesOwn (model X.prog X.w) X.A X.env X.xe) (hc : X.calm = true) (hi : DI Y X tg iter s) (hg : DG X tg t g sl) (hb : DSs Y X body b)
    (hs : ∀ x, foldedSetIterable iter X.env x = pure x := by intro _; rfl) : DS Y X (.For tg iter body [] pos) (dFor s g b) :=
  ps_imp (ps_for hp hc hi hg.1 hb hs) fun D σ H ⟨Z, F, ρ, n, E, r, ht, k⟩ => ⟨Z, F, ρ, n, _, r, ht, fun xs n1 F1 H1 J ⟨⟨I, h0, hstep, hend⟩⟩ g1 s1 d1 w1 => by
    have r1 := r.step g1 s1 d1
    refine ⟨fun i m σ H => m = xs.length - i ∧ i ≤ xs.length ∧ ∃ F' ρ' n', SR Y X.K { Z with F0 := F1 } F' H σ ρ' n' ∧ I i ρ' n', ⟨xs.length, by simp, Nat.zero_le _, F1, ρ, n1, r1.base, h0⟩, ?_⟩
    rintro i m σ2 H2 ⟨rfl, hi, F2, ρ2, n2, r2, h2⟩
    have sF : Same F1 F2 := r2.b.gF
    by_cases hlt : i < xs.length
    · refine .inr ⟨w1.go i H2 (sF.trans r2.b.sub) hlt, fun σ' H' => ∃ F' ρ' n', SR Y X.K { Z with F0 := F1 } F' H' σ' ρ' n' ∧ I (i + 1) ρ' n', fun σ' H' q => ⟨xs.length - (i + 1), by omega, rfl, hlt, q⟩, fun v H3 hy => ?_⟩
      obtain ⟨x, hx⟩ : ∃ x, xs[i]? = some x := ⟨xs[i], by simp [hlt]⟩
      obtain ⟨F3, g3, s3, r3⟩ := w1.use sF r2.b.sub hy hx
      have r2' := r2.step g3.gr s3 (g3.dk r2.b)
      refine hg.2.im _ _ _ _ _ _ _ _ _ _ _ r2' r3 (hstep i x ρ2 n2 hx h2) fun σ4 ρ4 h4 r4 _ => ?_
      refine ⟨_, F3, ρ4, n2, _, r4, h4, ⟨fun F5 H5 σ5 ρ5 n5 q r5 => ⟨F5, ρ5, n5, r5, q⟩, fun d n5 F5 H5 v5 q b5 => k.rt _ _ _ _ _ q (r1.b.back b5), fun F5 H5 σ5 ρ5 n5 q r5 => k.nx _ _ _ _ _ q (SR.back r1.b r5), fun F5 H5 σ5 ρ5 n5 q r5 => ⟨F5, ρ5, n5, r5, q⟩⟩⟩
    · have e : i = xs.length := by omega
      subst e
      exact .inl ⟨w1.stop _ H2 (sF.trans r2.b.sub) (Nat.le_refl _), k.nx _ _ _ _ _ (hend _ _ h2) (SR.back r1.b r2)⟩⟩
end DL
namespace DL
open PySem PySem.Spec PyProof.Rows L2
variable {X : Cx} {Y : Fx}
def wipeR (ρ : Rho) : List Nat → Rho
  | [] => ρ
  | v :: vs => (wipeR ρ vs).set v none
theorem wipeR_length (ρ : Rho) : ∀ vs : List Nat, (wipeR ρ vs).length = ρ.length
  | [] => rfl
  | v :: vs => by unfold wipeR; rw [List.length_set, wipeR_length ρ vs]
theorem wipeR_some {ρ : Rho} {i : Nat} {x : Dv} : ∀ {vs : List Nat}, (wipeR ρ vs)[i]? = some (some x) → ρ[i]? = some (some x) ∧ i ∉ vs
  | [], h => ⟨h, by simp⟩
  | v :: vs, h => by
    unfold wipeR at h
    by_cases hi : v = i
    · subst hi
      by_cases hv : v < (wipeR ρ vs).length
      · rw [List.getElem?_set_self hv] at h; cases h
      · rw [List.getElem?_eq_none (by simpa using hv)] at h; cases h
    · rw [List.getElem?_set_ne hi] at h
      obtain ⟨h1, h2⟩ := wipeR_some h
      exact ⟨h1, by simp only [List.mem_cons, not_or]; exact ⟨fun e => hi e.symm, h2⟩⟩
theorem SR.wipe {K : PySem.W.Frag} {Y Z : Fx} {F H : Hp} {σ : L2.St} {ρ : Rho} {n : Wo} (r : SR Y K Z F H σ ρ n) (vs : List Nat) : SR Y K Z F H (wipe σ vs) (wipeR ρ vs) n where
  b := r.b
  de := r.de
  he := r.he
  gr := r.gr
  len := by rw [wipe_length, wipeR_length, r.len]
  slot := fun i x e => by
    obtain ⟨e1, e2⟩ := wipeR_some e
    obtain ⟨v, e3, e4⟩ := r.slot i x e1
    exact ⟨v, by rw [wipe_out e2]; exact e3, e4⟩
  apart := fun i j a ds y hij e1 e2 e3 hy e4 =>
    r.apart i j a ds y hij (wipeR_some e1).1 (wipe_some e2).1 (wipeR_some e3).1 hy (wipe_some e4).1
theorem wipe_idem {σ : L2.St} : ∀ {vs : List Nat}, wipe (wipe σ vs) vs = wipe σ vs := by
  intro vs
  have sub : ∀ us : List Nat, (∀ i ∈ us, i ∈ vs) → wipe (wipe σ us) vs = wipe σ vs := by
    intro us
    induction us with
    | nil => intro _; rfl
    | cons u us ih =>
      intro h
      show wipe ((wipe σ us).set u none) vs = _
      rw [wipe_set (h u (by simp))]
      exact ih fun i hi => h i (by simp [hi])
  exact sub vs fun i h => h
abbrev CStep := PyData → List PyData → Wo → (List PyData → Wo → Prop) → Prop
structure CompR (xs : List PyData) (n : Wo) (step : CStep) (R : List PyData → Wo → Prop) : Prop where
  ex : ∃ I : Nat → List PyData → Wo → Prop, I 0 [] n ∧ (∀ (k : Nat) x acc m, xs[k]? = some x → I k acc m → step x acc m (I (k + 1))) ∧ ∀ acc m, I xs.length acc m → R acc m
def mComp (s : DSrc) (g : DTG) (tt : DTT) (te : DTE) (vs : List Nat) : DTM := fun ρ n R => s ρ n fun xs n1 => CompR xs n1 (fun x acc m K => g x (wipeR ρ vs) fun ρ' => tt ρ' m fun b m1 => if b = true then te ρ' m1 fun y m2 => needD y fun d => acc.length < sizeLine ∧ K (acc ++ [d]) m2 else K acc m1) R
abbrev WTs (Y : Fx) (X : Cx) (ifs : List Expr) (t : DTT) : Prop := PTs X ifs (upT Y X.K t)
theorem pts_imp {ifs : List Expr} {t t' : TT} (h : PTs X ifs t) (q : ∀ σ H Q, t' σ H Q → t σ H Q) : PTs X ifs t' := ⟨fun p s σ H Q I w => h.run p s σ H Q I (q σ H Q w)⟩
def dYes : DTT := fun _ n R => R true n
theorem wts_nil : WTs Y X [] dYes := pts_imp pts_nil fun σ H Q ⟨Z, F, ρ, n, R, r, hr, k⟩ => k _ _ _ _ hr Gr.refl r.b.sub r.b.dk
theorem wts_one {c : Expr} {t : DTT} (h : WT Y X c t) : WTs Y X [c] t := pts_one h
/-- .. as data, as a list of one's own -/
theorem lc_dat {K : PySem.W.Frag} {t : DTM} : ∀ σ H Q, upX Y K (xD (dOfM t)) σ H Q → upM Y K t σ H Q := fun σ H Q ⟨Z, F, ρ, n, R, r, ht, k⟩ => ⟨Z, F, ρ, n, _, r, ht, fun ds n1 F1 H1 p vs hx g1 s1 d1 a b c d => by
  obtain ⟨g2, s2, r2⟩ := freeze g1 s1 a b c d
  exact k _ _ _ _ _ hx g2 s2 (d1.fz c rfl b) r2⟩
theorem SR.mut {K : PySem.W.Frag} {Y Z : Fx} {F H : Hp} {σ : L2.St} {ρ : Rho} {n : Wo} (r : SR Y K Z F H σ ρ n) {i : Nat} {ds es : List PyData} {a : Addr} {us : List V} (e : ρ[i]? = some (some (.mt ds))) (e1 : σ[i]? = some (some (.ref a))) (hr : Rps K F es us) :
    SR Y K Z F (upd H a (.lst us)) σ (ρ.set i (some (.mt es))) n := by
  obtain ⟨v, q1, a', ws, rfl, h0, hF, hH, hrr, na⟩ := r.slot i _ e
  rw [e1] at q1; cases q1
  have hi : i < ρ.length := (List.getElem?_eq_some_iff.mp e).1
  have hk : ∀ b o, b ≠ a → H b = some o → upd H a (.lst us) b = some o := fun b o q h => by rw [upd_ne q]; exact h
  refine ⟨⟨fun b o q => hk b o (ne_of_none q hF) (r.b.sub _ _ q), r.b.dk.chg na hH rfl, fun b hb => ⟨(r.b.dkF b hb).1, by rw [upd_ne fun q => na (by rw [← q]; exact hb)]; exact (r.b.dkF b hb).2⟩, r.b.gF, r.b.gN, fun b o q1 q2 q3 => hk b o (ne_of_none q2 h0) (r.b.gH b o q1 q2 q3), fun b C dx fs q => by rw [upd_ne (ne_of_none q h0)]; exact r.b.gI b C dx fs q⟩, r.de, r.he, r.gr.chg (by rw [← r.he]; exact h0), by simp [r.len], fun j y q => ?_, fun j l b ds' y hjl q1 q2 q3 hy q4 => ?_⟩
  · by_cases z : i = j
    · subst z
      rw [List.getElem?_set_self hi] at q
      cases q
      exact ⟨_, e1, a, us, rfl, h0, hF, upd_same, hr, na⟩
    · rw [List.getElem?_set_ne z] at q
      obtain ⟨w, w1, w2⟩ := r.slot j y q
      refine ⟨w, w1, ?_⟩
      cases y with
      | dat d => exact w2
      | vw es' =>
        obtain ⟨b, us', rfl, p1, p2, p3⟩ := w2
        exact ⟨b, us', rfl, hk b _ (fun zz => r.apart i j a ds (.vw es') z e e1 q rfl (by rw [w1, zz])) p1, p2, p3⟩
      | mt es' =>
        obtain ⟨b, us', rfl, p1, p2, p3, p4, p5⟩ := w2
        exact ⟨b, us', rfl, p1, p2, hk b _ (fun zz => r.apart i j a ds (.mt es') z e e1 q rfl (by rw [w1, zz])) p3, p4, p5⟩
      | deck _ => exact w2
      | md b ks =>
        obtain ⟨q1, q2, q3, q4, q5⟩ := w2
        exact ⟨q1, q2, q3, hk b _ (fun zz => by rw [zz, hH] at q4; cases q4) q4, q5⟩
  · have old : ∀ (k : Nat) (x : Dv), (ρ.set i (some (.mt es)))[k]? = some (some x) → x.isL = true → ∃ x', ρ[k]? = some (some x') ∧ x'.isL = true ∧ (∀ ds', x = .mt ds' → ∃ ds'', x' = .mt ds'') := fun k x q hx => by
      by_cases z : i = k
      · subst z
        rw [List.getElem?_set_self hi] at q
        cases q
        exact ⟨_, e, rfl, fun _ _ => ⟨_, rfl⟩⟩
      · rw [List.getElem?_set_ne z] at q
        exact ⟨x, q, hx, fun ds' h => ⟨ds', h⟩⟩
    obtain ⟨x1, p1, p2, p3⟩ := old j _ q1 rfl
    obtain ⟨ds'', rfl⟩ := p3 _ rfl
    obtain ⟨x2, p4, p5, _⟩ := old l _ q3 hy
    exact r.apart j l b ds'' x2 hjl p1 q2 p4 p5 q4
/-- the list in slot i -/
def atMt (i : Nat) (ρ : Rho) (R : List PyData → Prop) : Prop := ∃ ds, ρ[i]? = some (some (.mt ds)) ∧ R ds
def dApp (i : Nat) (t : DTE) : DTS := fun E ρ n => atMt i ρ fun ds => t ρ n fun x n' => needD x fun d => ds.length < sizeLine ∧ E.nx (ρ.set i (some (.mt (ds ++ [d])))) n'
theorem SR.own {K : PySem.W.Frag} {Y Z : Fx} {F H : Hp} {σ : L2.St} {ρ : Rho} {n : Wo} (r : SR Y K Z F H σ ρ n) {i : Nat} {ds : List PyData} (e : ρ[i]? = some (some (.mt ds))) : ∃ a vs, σ[i]? = some (some (.ref a)) ∧ H a = some (.lst vs) ∧ Rps K F ds vs := by
  obtain ⟨v, q1, a, ws, rfl, h0, hF, hH, hrr, na⟩ := r.slot i _ e
  exact ⟨a, ws, q1, hH, hrr⟩
section
variable {i : Nat} {o e : Expr} {t : DTE} {apos cpos pos : Pos}
theorem ds_append (ho : PE X o (tVar i)) (he : WE Y X e t)
    (hbase : attributeBase o "append" X.env (eval o X.env) = eval o X.env := by rfl)
    (hfew : ((backTo cpos (starEach [e] X.env)).all (fun x => !x.1) && (backToKw cpos (keywordEach [] X.env)).all (fun x => x.1.isSome)
      && decide (([e] : List Expr).length + ([] : List Keyword).length + (if ([] : List Keyword).isEmpty then 0 else 1) < 30)) = true := by rfl)
    (hline : (apos.endLine == cpos.line) = true := by rfl) (hst : starEach [e] X.env = (false, eval e X.env) :: starEach [] X.env := by rfl) (hplain : (backTo cpos (starEach [] X.env)).any (·.1) = false := by rfl)
    (hs : swapsWith (.Call (.Attribute o "append" apos) [e] [] cpos) none pos.line X.env = pure false := by rfl) : DS Y X (.Expr (.Call (.Attribute o "append" apos) [e] [] cpos) pos) (dApp i t) :=
  ps_imp (ps_expr (pe_bm PySem.F.plainAttrs_list PySem.F.slot_list_append PySem.F.type_list_append mt_append ho (pa_cons he pa_nil hst) hbase hfew hline hst hplain) hs) fun D σ H ⟨Z, F, ρ, n, E, r, ⟨ds, e0, ht⟩, k⟩ => by
    obtain ⟨a, vs, q1, q2, q3⟩ := r.own e0
    refine ⟨_, q1, .inl ⟨rfl, vs, SqL.of q2⟩, Z, F, ρ, n, _, r, ht, fun x n1 F1 H1 v hx g1 s1 d1 w1 => ?_⟩
    obtain ⟨d, rfl, hl, hx⟩ := needD_is hx
    have r1 := r.step g1 s1 d1
    obtain ⟨a', vs', q4, q5, q6⟩ := r1.own e0
    rw [q1] at q4; cases q4
    exact ⟨a, vs', _, rfl, rfl, q5, by rw [← q6.length]; exact hl, k.nx _ _ _ _ _ hx (r1.mut e0 q1 (q6.append (rps_cons w1 rps_nil)))⟩
/-- x.remove(k) of ints -/
def dRem (i : Nat) (t : DTE) : DTS := fun E ρ n => atMt i ρ fun ds => t ρ n fun x n' => ∃ (ns : List Int) (k : Int), ds = ns.map PyData.int ∧ x = .dat (.int k) ∧ k ∈ ns ∧ E.nx (ρ.set i (some (.mt ((ns.erase k).map PyData.int)))) n'
theorem first_at {ns : List Int} {k : Int} (h : k ∈ ns) : ∃ j, ns[j]? = some k ∧ (∀ m : Nat, m < j → ns[m]? ≠ some k) ∧ ns.eraseIdx j = ns.erase k := by
  induction ns with
  | nil => simp at h
  | cons a r ih =>
    by_cases e : a = k
    · subst e
      exact ⟨0, rfl, fun m hm => absurd hm (Nat.not_lt_zero _), by simp⟩
    · have hr : k ∈ r := by
        rcases List.mem_cons.mp h with q | q
        · exact absurd q.symm e
        · exact q
      obtain ⟨j, h1, h2, h3⟩ := ih hr
      refine ⟨j + 1, by simpa using h1, fun m hm => ?_, ?_⟩
      · cases m with
        | zero => simpa using e
        | succ m => simpa using h2 m (by omega)
      · rw [List.eraseIdx_cons_succ, h3, List.erase_cons_tail (by simpa using e)]
theorem ds_remove (ho : PE X o (tVar i)) (he : WE Y X e t)
    (hbase : attributeBase o "remove" X.env (eval o X.env) = eval o X.env := by rfl)
    (hfew : ((backTo cpos (starEach [e] X.env)).all (fun x => !x.1) && (backToKw cpos (keywordEach [] X.env)).all (fun x => x.1.isSome)
      && decide (([e] : List Expr).length + ([] : List Keyword).length + (if ([] : List Keyword).isEmpty then 0 else 1) < 30)) = true := by rfl)
    (hline : (apos.endLine == cpos.line) = true := by rfl) (hst : starEach [e] X.env = (false, eval e X.env) :: starEach [] X.env := by rfl) (hplain : (backTo cpos (starEach [] X.env)).any (·.1) = false := by rfl)
    (hs : swapsWith (.Call (.Attribute o "remove" apos) [e] [] cpos) none pos.line X.env = pure false := by rfl) : DS Y X (.Expr (.Call (.Attribute o "remove" apos) [e] [] cpos) pos) (dRem i t) :=
  ps_imp (ps_expr (pe_bm PySem.F.plainAttrs_list PySem.F.slot_list_remove PySem.F.type_list_remove mt_remove ho (pa_cons he pa_nil hst) hbase hfew hline hst hplain) hs) fun D σ H ⟨Z, F, ρ, n, E, r, ⟨ds, e0, ht⟩, k⟩ => by
    obtain ⟨a, vs, q1, q2, q3⟩ := r.own e0
    refine ⟨_, q1, .inl ⟨rfl, vs, SqL.of q2⟩, Z, F, ρ, n, _, r, ht, fun x n1 F1 H1 v ⟨ns, z, e1, e2, hm, hx⟩ g1 s1 d1 w1 => ?_⟩
    subst e1 e2
    simp only [VR, Rp] at w1
    subst w1
    have r1 := r.step g1 s1 d1
    obtain ⟨a', vs', q4, q5, q6⟩ := r1.own e0
    rw [q1] at q4; cases q4
    rw [q6.ints] at q5
    obtain ⟨j, h1, h2, h3⟩ := first_at hm
    refine ⟨a, ns, z, j, rfl, rfl, q5, h1, h2, ?_⟩
    rw [h3]
    exact k.nx _ _ _ _ _ hx (r1.mut e0 q1 (rps_ints _))
theorem Rps.set {K : PySem.W.Frag} {F : Hp} : ∀ {ds : List PyData} {vs : List V} (j : Nat) {d : PyData} {v : V}, Rps K F ds vs → Rp K F d v → Rps K F (ds.set j d) (vs.set j v)
  | [], _, _, _, _, h, _ => by simp only [Rps] at h; subst h; simp [Rps]
  | d :: ds, _, 0, d', v', h, h' => by
    simp only [Rps] at h
    obtain ⟨v, r, rfl, h1, h2⟩ := h
    exact rps_cons h' h2
  | d :: ds, _, j + 1, d', v', h, h' => by
    simp only [Rps] at h
    obtain ⟨v, r, rfl, h1, h2⟩ := h
    exact rps_cons h1 (Rps.set j h2 h')
end
end DL
namespace DL
open PySem PySem.Spec PyProof.Rows L2
variable {X : Cx} {Y : Fx}
abbrev DC := List Dv → (PyData → Prop) → Prop
def CallOk (K : PySem.W.Frag) (r : List V → Hp → VK → Prop) (o : DC) : Prop := ∀ δ F H xs vs R Q, Same F H → VRs K δ F H xs vs → o xs R → Back K F H R Q → r vs H Q
def dCall (o : DC) (t : DTA) : DTE := fun ρ n R => t ρ n fun xs n1 => o xs fun d => R (.dat d) n1
theorem cal {K : PySem.W.Frag} {r : List V → Hp → VK → Prop} {o : DC} {t : DTA} (ho : CallOk K r o) : ∀ σ H Q, up Y K (dCall o t) σ H Q → tCB r (upA Y K t) σ H Q := fun σ H Q ⟨Z, F, ρ, n, R, s, ht, k⟩ =>
  ⟨Z, F, ρ, n, _, s, ht, fun xs n1 F1 H1 vs hx g1 s1 d1 w1 => ho Z.δ F1 H1 xs vs _ Q s1 w1 hx fun d F2 H2 v2 h2 g2 s2 w2 =>
    k _ _ _ _ _ h2 (g1.trans g2.gr) s2 (g2.dk ((s.step g1 s1 d1).b)) w2⟩
section
variable {x : Str} {p pos : Pos} {e : Expr} {es : List Expr} {id T : String} {r : List V → Hp → VK → Prop} {o : DC} {t : DTA}
theorem we_callB (hc : CallR X (.builtin id) r) (ho : CallOk X.K r o) (hg : Gl X x) (hm : X.mg x = none) (hv : bootBuiltins x = some (.builtin id)) (ha : WA Y X (e :: es) t) (hn : x ≠ "__name__" := by decide) (hdb : (x == ("__debug__" : Str)) = false := by decide)
    (he : starEach (e :: es) X.env = (false, eval e X.env) :: starEach es X.env := by rfl) (hpl : (backTo pos (starEach es X.env)).any (·.1) = false := by rfl) : WE Y X (.Call (.Name x p) (e :: es) [] pos) (dCall o t) :=
  pe_imp (pe_callB hc hg hm hv ha hn hdb he hpl) (cal ho)
theorem we_callTy (hc : CallR X (.type T) r) (ho : CallOk X.K r o) (hg : Gl X x) (hm : X.mg x = none) (hv : bootBuiltins x = some (.type T)) (ha : WA Y X (e :: es) t) (hn : x ≠ "__name__" := by decide) (hdb : (x == ("__debug__" : Str)) = false := by decide)
    (he : starEach (e :: es) X.env = (false, eval e X.env) :: starEach es X.env := by rfl) (hpl : (backTo pos (starEach es X.env)).any (·.1) = false := by rfl) : WE Y X (.Call (.Name x p) (e :: es) [] pos) (dCall o t) :=
  pe_imp (pe_callTy hc hg hm hv ha hn hdb he hpl) (cal ho)
abbrev DCM := List Dv → (List PyData → Prop) → Prop
def CallOkM (K : PySem.W.Frag) (r : List V → Hp → VK → Prop) (o : DCM) : Prop := ∀ δ F H xs vs R Q, Same F H → VRs K δ F H xs vs → o xs R → (∀ ds us p, R ds → H p = none → Rps K F ds us → Q (.ref p) (upd H p (.lst us))) → r vs H Q
def mCall (o : DCM) (t : DTA) : DTM := fun ρ n R => t ρ n fun xs n1 => o xs fun d => R d n1
theorem calM {K : PySem.W.Frag} {r : List V → Hp → VK → Prop} {o : DCM} {t : DTA} (ho : CallOkM K r o) : ∀ σ H Q, upM Y K (mCall o t) σ H Q → tCB r (upA Y K t) σ H Q := fun σ H Q ⟨Z, F, ρ, n, R, s, ht, k⟩ =>
  ⟨Z, F, ρ, n, _, s, ht, fun xs n1 F1 H1 vs hx g1 s1 d1 w1 => ho Z.δ F1 H1 xs vs _ Q s1 w1 hx fun ds us p h2 hp hr => by
    obtain ⟨g2, s2⟩ := Gp.newM (o := .lst us) hp s1
    have hp0 : H p = none := by
      cases e : H p with
      | none => rfl
      | some o => exact absurd hp (g1.dH p (by rw [e]; nofun))
    exact k _ _ _ _ _ _ h2 (g1.trans g2.gr) s2 (g2.dk ((s.step g1 s1 d1).b)) hp0 (s1.free hp) upd_same hr⟩
theorem me_callB (hc : CallR X (.builtin id) r) {o : DCM} (ho : CallOkM X.K r o) (hg : Gl X x) (hm : X.mg x = none) (hv : bootBuiltins x = some (.builtin id)) (ha : WA Y X (e :: es) t) (hn : x ≠ "__name__" := by decide) (hdb : (x == ("__debug__" : Str)) = false := by decide)
    (he : starEach (e :: es) X.env = (false, eval e X.env) :: starEach es X.env := by rfl) (hpl : (backTo pos (starEach es X.env)).any (·.1) = false := by rfl) : ME Y X (.Call (.Name x p) (e :: es) [] pos) (mCall o t) :=
  pe_imp (pe_callB hc hg hm hv ha hn hdb he hpl) (calM ho)
theorem me_callTy (hc : CallR X (.type T) r) {o : DCM} (ho : CallOkM X.K r o) (hg : Gl X x) (hm : X.mg x = none) (hv : bootBuiltins x = some (.type T)) (ha : WA Y X (e :: es) t) (hn : x ≠ "__name__" := by decide) (hdb : (x == ("__debug__" : Str)) = false := by decide)
    (he : starEach (e :: es) X.env = (false, eval e X.env) :: starEach es X.env := by rfl) (hpl : (backTo pos (starEach es X.env)).any (·.1) = false := by rfl) : ME Y X (.Call (.Name x p) (e :: es) [] pos) (mCall o t) :=
  pe_imp (pe_callTy hc hg hm hv ha hn hdb he hpl) (calM ho)
end
section
variable {K : PySem.W.Frag}
theorem vr1 {δ : DkS} {F H : Hp} {x : Dv} {vs : List V} (h : VRs K δ F H [x] vs) : ∃ v, vs = [v] ∧ VR K δ F H x v := by
  cases h with
  | cons a b => cases b; exact ⟨_, rfl, a⟩
theorem vr2 {δ : DkS} {F H : Hp} {x y : Dv} {vs : List V} (h : VRs K δ F H [x, y] vs) : ∃ v w, vs = [v, w] ∧ VR K δ F H x v ∧ VR K δ F H y w := by
  cases h with
  | cons a b =>
    obtain ⟨w, rfl, h2⟩ := vr1 b
    exact ⟨_, w, rfl, a, h2⟩
/-- a sequence's items, whichever it is -/
def seqD : PyData → Option (List PyData)
  | .list ds => some ds
  | .tuple ds => some ds
  | _ => none
theorem VR.seq {δ : DkS} {F H : Hp} {x : Dv} {v : V} {ds : List PyData} (hs : Same F H) (h : VR K δ F H x v) (e : seqD x.toD = some ds) : ∃ a vs, v = .ref a ∧ (H a = some (.lst vs) ∨ Rd H a (.tup vs)) ∧ Rps K F ds vs := by
  cases q : x.toD with
  | list es =>
    rw [q] at e; cases e
    obtain ⟨a, l, e1, e2, e3⟩ := h.lst hs q
    exact ⟨a, l, e1, .inl e2, e3⟩
  | tuple es =>
    rw [q] at e; cases e
    obtain ⟨a, l, e1, e2, e3⟩ := h.tpl hs q
    exact ⟨a, l, e1, .inr (rdS hs e2), e3⟩
  | _ => rw [q] at e; cases e
def oLen : DC := fun xs R => ∃ x ds, xs = [x] ∧ seqD x.toD = some ds ∧ R (.int ds.length)
theorem ck_len : CallOk K (fun xs H Q => ∃ p ys, xs = [.ref p] ∧ (SqL K H p ys ∨ SqT K H p ys) ∧ Q (.int ys.length) H) oLen := fun δ F H xs vs R Q hs hv ⟨x, ds, e, e2, hr⟩ b => by
  subst e
  obtain ⟨v, rfl, h1⟩ := vr1 hv
  obtain ⟨a, us, rfl, h2, h3⟩ := h1.seq hs e2
  exact ⟨a, us, rfl, h2.imp SqL.of sqtR, b.int hs (by rw [← h3.length]; exact hr)⟩
def oInt : DC := fun xs R => match xs with
  | [.dat (.int i)] => R (.int i)
  | [.dat (.bool k)] => R (.int (if k then 1 else 0))
  | _ => False
theorem ck_int : CallOk K (fun xs H Q => (∃ i, xs = [.int i] ∧ Q (.int i) H) ∨ ∃ k, xs = [.bl k] ∧ Q (.int (if k then 1 else 0)) H) oInt := fun δ F H xs vs R Q hs hv h b => by
  unfold oInt at h
  split at h
  · exact .inl ⟨_, vrs1 hv, b.int hs h⟩
  · obtain ⟨v, rfl, h1⟩ := vr1 hv
    simp only [VR, Rp] at h1
    subst h1
    exact .inr ⟨_, rfl, b.int hs h⟩
  · exact h.elim
/-- sum, max, min of ints -/
def oSum : DC := fun xs R => ∃ x, ∃ ns : List Int, xs = [x] ∧ seqD x.toD = some (ns.map .int) ∧ R (.int ns.sum)
/-- tuple(x), list(x) -/
def oTuple : DC := fun xs R => ∃ x ds, xs = [x] ∧ seqD x.toD = some ds ∧ R (.tuple ds)
theorem ck_tuple : CallOk K (fun xs H Q => ∃ p ys, xs = [.ref p] ∧ ((SqL K H p ys ∧ ∀ l, H l = none → Q (.ref l) (upd H l (.tup ys))) ∨ (SqT K H p ys ∧ Q (.ref p) H))) oTuple := fun δ F H xs vs R Q hs hv ⟨x, ds, e, e2, hr⟩ b => by
  subst e
  obtain ⟨v, rfl, h1⟩ := vr1 hv
  cases q : x.toD with
  | list es =>
    rw [q] at e2; cases e2
    obtain ⟨a, l, rfl, e2, e3⟩ := h1.lst hs q
    exact ⟨a, l, rfl, .inl ⟨SqL.of e2, fun p hp => b.tup hs hr e3 hp⟩⟩
  | tuple es =>
    rw [q] at e2; cases e2
    obtain ⟨a, l, rfl, e2, e3⟩ := h1.tpl hs q
    exact ⟨a, l, rfl, .inr ⟨sqtR (rdS hs e2), b.here hs hr (by simp only [Rp]; exact ⟨a, l, rfl, e2, e3⟩)⟩⟩
  | _ => rw [q] at e2; cases e2
def oList : DCM := fun xs R => ∃ x ds, xs = [x] ∧ seqD x.toD = some ds ∧ R ds
theorem ck_list : CallOkM K (fun xs H Q => ∃ p ys, xs = [.ref p] ∧ (SqL K H p ys ∨ SqT K H p ys) ∧ ∀ l, H l = none → Q (.ref l) (upd H l (.lst ys))) oList := fun δ F H xs vs R Q hs hv ⟨x, ds, e, e2, hr⟩ b => by
  subst e
  obtain ⟨v, rfl, h1⟩ := vr1 hv
  obtain ⟨a, us, rfl, h2, h3⟩ := h1.seq hs e2
  exact ⟨a, us, rfl, h2.imp SqL.of sqtR, fun p hp => b _ _ _ hr hp h3⟩
/-- sorted of ints -/
def oSortI : DCM := fun xs R => ∃ x, ∃ ns : List Int, xs = [x] ∧ x.toD = .list (ns.map .int) ∧ ∀ ns' : List Int, ns'.Perm ns → ns'.Pairwise (· ≤ ·) → R (ns'.map .int)
theorem ck_sortI : CallOkM K (rSortedI K) oSortI := fun δ F H xs vs R Q hs hv ⟨x, ns, e, e2, hr⟩ b => by
  subst e
  obtain ⟨v, rfl, h1⟩ := vr1 hv
  obtain ⟨a, us, rfl, h2, h3⟩ := h1.lst hs e2
  rw [h3.ints] at h2
  exact ⟨a, ns, rfl, SqL.of h2, fun ns' p k1 k2 hp => b _ _ _ (hr ns' k1 k2) hp (rps_ints ns')⟩
/-- all, any of bools -/
def oAll : DC := fun xs R => ∃ x, ∃ bs : List Bool, xs = [x] ∧ x.toD = .list (bs.map .bool) ∧ R (.bool (bs.all id))
theorem Rps.bools {F : Hp} : ∀ {bs : List Bool} {vs : List V}, Rps K F (bs.map PyData.bool) vs → vs = bs.map V.bl
  | [], _, h => by simpa only [List.map_nil, Rps] using h
  | n :: ns, _, h => by
    simp only [List.map_cons, Rps, Rp] at h
    obtain ⟨v, r, rfl, rfl, h2⟩ := h
    rw [Rps.bools h2]; rfl
theorem ck_all : CallOk K (rAll K) oAll := fun δ F H xs vs R Q hs hv ⟨x, bs, e, e2, hr⟩ b => by
  subst e
  obtain ⟨v, rfl, h1⟩ := vr1 hv
  obtain ⟨a, us, rfl, h2, h3⟩ := h1.lst hs e2
  rw [h3.bools] at h2
  exact ⟨a, bs, rfl, SqL.of h2, b.bl hs hr⟩
end
abbrev DRg := Rho → Wo → (Int → Int → Wo → Prop) → Prop
def dRg1 (t : DTE) : DRg := fun ρ n R => t ρ n fun x n1 => ∃ j : Int, x = .dat (.int j) ∧ R 0 j n1
def upR (Y : Fx) (K : PySem.W.Frag) (t : DRg) : L2.St → Hp → (Int → Int → Hp → Prop) → Prop := fun σ H Q => ∃ Z F ρ n R, SR Y K Z F H σ ρ n ∧ t ρ n R ∧
  ∀ i j n' F' H', R i j n' → Gr Z.δ F H F' H' → Same F' H' → Z.δ.at_ K F' H' n' → Q i j H'
abbrev WR (Y : Fx) (X : Cx) (e : Expr) (t : DRg) : Prop := PRg X e (upR Y X.K t)
theorem wr_1 {a : Expr} {t : DTE} {p pos : Pos} (hg : Gl X "range") (hm : X.mg "range" = none) (ha : WE Y X a t) (na : starEach [a] X.env = (false, eval a X.env) :: starEach [] X.env := by rfl) : WR Y X (.Call (.Name "range" p) [a] [] pos) (dRg1 t) := by
  intro pins s σ H Q I ⟨Z, F, ρ, n, R, r, ht, k⟩
  refine prg_1 hg hm ha na pins s σ H Q I ⟨Z, F, ρ, n, _, r, ht, fun x n1 F1 H1 v ⟨j, e, hx⟩ g1 s1 d1 w1 => ?_⟩
  subst e
  simp only [VR, Rp] at w1
  exact ⟨j, w1, k _ _ _ _ _ hx g1 s1 d1⟩
theorem rps_rng {K : PySem.W.Frag} {F : Hp} (a b : Int) : Rps K F (rngD a (b - a).toNat) (rgV a b) := by
  have h := rps_ints (K := K) (F := F) ((List.range (b - a).toNat).map fun (k : Nat) => a + (k : Int))
  rw [List.map_map, List.map_map] at h
  exact h
def mLstRg (t : DRg) : DTM := fun ρ n R => t ρ n fun i j n1 => RgOk i j ∧ R (rngD i (j - i).toNat) n1
theorem me_listRg {e : Expr} {t : DRg} {p pos : Pos} (hc : X.calm = true) (hg : Gl X "list") (hm : X.mg "list" = none) (he : WR Y X e t) (na : starEach [e] X.env = (false, eval e X.env) :: starEach [] X.env := by rfl) : ME Y X (.Call (.Name "list" p) [e] [] pos) (mLstRg t) :=
  pe_imp (pe_listRg hc hg hm he na) fun σ H Q ⟨Z, F, ρ, n, R, r, ht, k⟩ => ⟨Z, F, ρ, n, _, r, ht, fun i j n1 F1 H1 ⟨h1, h2⟩ g1 s1 d1 => ⟨h1, fun q hq => by
    obtain ⟨g2, s2⟩ := Gp.newM (o := .lst (rgV i j)) hq s1
    have hp0 : H q = none := by
      cases e : H q with
      | none => rfl
      | some o => exact absurd hq (g1.dH q (by rw [e]; nofun))
    exact k _ _ _ _ _ _ h2 (g1.trans g2.gr) s2 (g2.dk ((r.step g1 s1 d1).b)) hp0 (s1.free hq) upd_same (rps_rng i j)⟩⟩
structure FnG (P : Program) (w : World) (K : PySem.W.Frag) (mg : Str → Option Value) (base : Heap) (k : Nat) (f : Addr) (fd : FuncData) (ps : List Str) (sp : Sp) : Prop where
  len : ∀ vs H Q E, sp vs H Q E → vs.length = ps.length
  run : ∀ (A : Around) (outer : List Env) (s : Shared) (H : Hp) (args : Args) (us : List Value) (vs : List V) (Q : VK), A.guards = some [] → Room k A → Env0 P w K mg base A outer s H →
    BindsTo s fd args (ps.zip us) → Vals vs us → sp vs H Q E0 → codeAny (model P w) A (.call (.ref f) args) (CR CX0 outer P w H s Q E0) s
theorem FnG.mono {P : Program} {w : World} {K : PySem.W.Frag} {mg : Str → Option Value} {base : Heap} {j k : Nat} {f : Addr} {fd : FuncData} {ps : List Str} {sp : Sp} (F : FnG P w K mg base j f fd ps sp) (h : j ≤ k) : FnG P w K mg base k f fd ps sp :=
  ⟨F.len, fun A outer s H args us vs Q hg hr => F.run A outer s H args us vs Q hg (hr.mono h)⟩
/-- a def, by its body -/
theorem fng_of {P : Program} {w : World} {K : PySem.W.Frag} {mg : Str → Option Value} {base : Heap} {x qual : Str} {st : Stmt} {f : Addr} {fd : FuncData} {N ps : List Str} {k : Nat} {sp : Sp} (F : Fun K x qual st f fd) (S : FnScope N ps (defScope st))
    (len : ∀ vs H Q E, sp vs H Q E → vs.length = ps.length)
    (hb : ∀ (cdv : Value) (A : Around) (outer : List Env) (s : Shared) (H : Hp) (vs : List V) (Q : VK), A.guards = some [] → Room k (A.deeper (envOfC qual (defScope st) s.heap.objs.size f cdv)) → sp vs H Q E0 →
      ∃ t, PSs (cxOf CX0 P w K mg base N qual (defScope st) f cdv A outer s H E0).nox (defBody st) t ∧ t { nx := fun _ H' => Q .non H', rt := Q } (start N vs) H) : FnG P w K mg base (k + 1) f fd ps sp := by
  refine ⟨len, fun A outer s H args us vs Q hgd hr e0 hbi rv hsp => ?_⟩
  obtain ⟨oc, od, kV, doc, pm, an, cdv, ct, osl, rfl, lk, hcd⟩ := F.ex
  have hl := len _ _ _ _ hsp
  have kin : K.In s.heap := e0.mod.kin.keeps fun b o e => (e0.bs b o e).1
  have lim : s.heap.NoLimit := e0.mod.nolimit.keeps fun b o e => (e0.bs b o e).1
  refine Att.call_fn kin lim lk hcd hr.depth hbi (List.all_eq_true.mpr fun ⟨y, u⟩ hy => ?_) (fun s1 x => ?_) S.co S.gen S.kind
  · rcases S.par y (List.of_mem_zip hy).1 with q | q <;> simp [q]
  · obtain ⟨t, ht, hq⟩ := hb cdv A outer s H vs Q hgd (hr.deeper _) hsp
    have I := inv_start (CX := CX0) (P := P) (w := w) (E := E0) S hr.hd e0 hl rv x
    refine wpAny_mono (ht.run [] s1 (start N vs) H _ (I.wish _) hq) (fun fl s' hs => ?_) fun e s' hs => hs.elim
    have fin : ∀ {σ' : L2.St} {H' : Hp} {v : V} {u : Value}, Inv (cxOf CX0 P w K mg base N qual (defScope st) f cdv A outer s H E0) [] σ' H' s' → RelV v u → Q v H' → CE outer P w H s Q u s' :=
      fun J r q => ⟨_, _, J.os, J.bare, J.base, J.hok, r, q⟩
    cases fl with
    | ret u =>
      obtain ⟨v, σ', H', J, r, q⟩ := hs
      exact fin J.unwish r q
    | next =>
      obtain ⟨σ', H', J, q⟩ := hs
      exact fin (v := V.non) (u := Value.none) J.unwish rfl q
    | brk => obtain ⟨_, _, _, q⟩ := hs; exact q.elim
    | cont => obtain ⟨_, _, _, q⟩ := hs; exact q.elim
theorem run_g {mg' : Unit} {k : Nat} {f : Addr} {fd : FuncData} {ps : List Str} {sp : Sp} {pins : List (Addr × Obj)} {σ : L2.St} {H : Hp} {s : Shared} {Q : VK} {us : List Value} {vs : List V} (F : FnG X.prog X.w X.K X.mg X.base k f fd ps sp) (hgd : X.A.guards = some []) (hr : Room k X.A) (hb : Binds X.K fd ps [])
    (I : Inv X pins σ H s) (r : Vals vs us) (h : sp vs H Q E0) : wpAny (model X.prog X.w) X.A (call (.ref f) us) (EP X pins σ Q) X.xe s := by
  have hl : (us ++ []).length = ps.length := by rw [List.append_nil, ← r.length]; exact F.len _ _ _ _ h
  have hbi := hb s us I.kIn hl
  rw [List.append_nil] at hbi
  refine wpAny_call (codeAny_mono (F.run X.A X.stack s H ⟨us, []⟩ us vs Q hgd hr I.env0 hbi r h) fun q s' hq => ?_)
  cases q with
  | error e => exact hq.elim
  | ok fl =>
    cases fl with
    | ret u => exact I.after hq
    | next => exact hq.elim
    | brk => exact hq.elim
    | cont => exact hq.elim
theorem pe_callg {k : Nat} {f : Addr} {fd : FuncData} {ps : List Str} {sp : Sp} {x : Str} {p pos : Pos} {e : Expr} {es : List Expr} {t : TA} (F : FnG X.prog X.w X.K X.mg X.base k f fd ps sp) (hgd : X.A.guards = some []) (hr : Room k X.A) (hg : Gl X x) (hm : X.mg x = some (.ref f)) (hk : PySem.W.keepIn X.K (.ref f) = true) (hb : Binds X.K fd ps [])
    (ha : PA X (e :: es) t) (hdb : (x == ("__debug__" : Str)) = false := by decide) (he : starEach (e :: es) X.env = (false, eval e X.env) :: starEach es X.env := by rfl) (hpl : (backTo pos (starEach es X.env)).any (·.1) = false := by rfl) :
    PE X (.Call (.Name x p) (e :: es) [] pos) (fun σ H Q => t σ H fun vs H1 => sp vs H1 Q E0) :=
  ⟨fun pins s σ H Q I h => wpAny_Call_Name_kw (ld_glob I hg hm (PySem.W.callWith_K (h₀ := X.base) I.ok.mod.kin hk (thn (ha.run pos pins s σ H _ I h) fun us s1 ⟨vs, H1, I1, r, q⟩ => ⟨I1.kIn, run_g (mg' := ()) F hgd hr hb I1 r q⟩) he hpl) hdb)⟩
abbrev DSpec := List Dv → Wo → (PyData → Wo → Prop) → Prop
def spD (K : PySem.W.Frag) (m : Nat) (c : DSpec) : Sp := fun vs H Q _ => ∃ δ F as n R, as.length = m ∧ VRs K δ F H as vs ∧ Same F H ∧ δ.at_ K F H n ∧ (∀ a, a ∈ δ.own → F a = none ∧ H a ≠ none) ∧ c as n R ∧
  ∀ d n' F' H' v, R d n' → Gr δ F H F' H' → Same F' H' → δ.at_ K F' H' n' → Rp K F' d v → Q v H'
def dFn (m : Nat) (c : DSpec) (t : DTA) : DTE := fun ρ n R => t ρ n fun as n1 => as.length = m ∧ c as n1 fun d n2 => R (.dat d) n2
theorem we_fn {k m : Nat} {c : DSpec} {f : Addr} {fd : FuncData} {ps : List Str} {x : Str} {p pos : Pos} {e : Expr} {es : List Expr} {t : DTA} (F : FnG X.prog X.w X.K X.mg X.base k f fd ps (spD X.K m c)) (hgd : X.A.guards = some []) (hr : Room k X.A) (hg : Gl X x) (hm : X.mg x = some (.ref f)) (hk : PySem.W.keepIn X.K (.ref f) = true) (hb : Binds X.K fd ps [])
    (ha : WA Y X (e :: es) t) (hdb : (x == ("__debug__" : Str)) = false := by decide) (he : starEach (e :: es) X.env = (false, eval e X.env) :: starEach es X.env := by rfl) (hpl : (backTo pos (starEach es X.env)).any (·.1) = false := by rfl) :
    WE Y X (.Call (.Name x p) (e :: es) [] pos) (dFn m c t) :=
  pe_imp (pe_callg F hgd hr hg hm hk hb ha hdb he hpl) fun σ H Q ⟨Z, F, ρ, n, R, r, ht, k⟩ => ⟨Z, F, ρ, n, _, r, ht, fun as n1 F1 H1 vs ⟨hl, hx⟩ g1 s1 d1 w1 => by
    have b1 := r.b.step g1 s1 d1
    exact ⟨Z.δ, F1, as, n1, _, hl, w1, s1, d1, b1.dkF, hx, fun d n2 F2 H2 v h2 g2 s2 d2 w2 => k _ _ _ _ _ h2 (g1.trans g2) s2 d2 w2⟩⟩
def startR (N : List Str) (as : List Dv) : Rho := as.map some ++ List.replicate (N.length - as.length) none
theorem Base.gr {K : PySem.W.Frag} {Z : Fx} {F H : Hp} {n : Wo} (h0 : ∀ a, a ∈ Z.δ.own → Z.F0 a = none ∧ Z.H0 a ≠ none) (b : Base K Z F H n) : Gr Z.δ Z.F0 Z.H0 F H :=
  ⟨b.gF, b.gN, b.gH, b.gI, fun a h => b.gD a h⟩
theorem vrs_get {K : PySem.W.Frag} {δ : DkS} {F H : Hp} : ∀ {as : List Dv} {vs : List V} {i : Nat} {x : Dv}, VRs K δ F H as vs → as[i]? = some x → ∃ v, vs[i]? = some v ∧ VR K δ F H x v
  | _, _, i, x, .nil, e => by simp at e
  | _, _, 0, x, .cons a b, e => by
    simp at e; subst e
    exact ⟨_, rfl, a⟩
  | _, _, i + 1, x, .cons a b, e => by
    obtain ⟨v, e1, e2⟩ := vrs_get (i := i) b (by simpa using e)
    exact ⟨v, by simpa using e1, e2⟩
theorem sr_start {K : PySem.W.Frag} {δ : DkS} {F H : Hp} {N : List Str} {as : List Dv} {vs : List V} {n : Wo} (w : VRs K δ F H as vs) (hs : Same F H) (hd : δ.at_ K F H n) (ho : ∀ a, a ∈ δ.own → F a = none ∧ H a ≠ none) : SR ⟨F, H, δ⟩ K ⟨F, H, δ⟩ F H (L2.start N vs) (startR N as) n := by
  have hl : as.length = vs.length := Paired.length w
  have get : ∀ (i : Nat) (x : Dv), (startR N as)[i]? = some (some x) → as[i]? = some x := fun i x e => by
    unfold startR at e
    by_cases hi : i < as.length
    · rw [List.getElem?_append_left (by simpa using hi), List.getElem?_map] at e
      cases q : as[i]? with
      | none => rw [q] at e; cases e
      | some y => rw [q] at e; cases e; rfl
    · rw [List.getElem?_append_right (by simpa using hi), List.getElem?_replicate] at e
      split at e <;> cases e
  refine ⟨⟨hs, hd, ho, Same.refl _, fun _ _ h => h, fun _ _ _ h _ => h, fun _ _ _ _ h => ⟨_, h⟩⟩, rfl, rfl, Gr.refl, by unfold L2.start startR; simp [hl], fun i x e => ?_, fun i j a ds y _ e _ _ _ _ => ?_⟩
  · obtain ⟨v, e1, e2⟩ := vrs_get w (get i x e)
    refine ⟨v, ?_, ?_⟩
    · unfold L2.start
      have hi : i < vs.length := (List.getElem?_eq_some_iff.mp e1).1
      rw [List.getElem?_append_left (by simpa using hi), List.getElem?_map, e1]; rfl
    · cases x with
      | mt ds => exact e2.elim
      | dat d => exact e2
      | vw ds => exact e2
      | deck _ => exact e2
      | md _ _ => exact e2.elim
  · obtain ⟨v, e1, e2⟩ := vrs_get w (get i _ e)
    exact e2.elim
/-- THE RULE for a def: its body over data -/
theorem fnd {P : Program} {w : World} {K : PySem.W.Frag} {mg : Str → Option Value} {base : Heap} {x qual : Str} {st : Stmt} {f : Addr} {fd : FuncData} {N ps : List Str} {k : Nat} (c : DSpec) (F : Fun K x qual st f fd) (S : FnScope N ps (defScope st))
    (hb : ∀ (cdv : Value) (A : Around) (outer : List Env) (s : Shared) (H : Hp), A.guards = some [] → Room k (A.deeper (envOfC qual (defScope st) s.heap.objs.size f cdv)) → ∀ Y : Fx,
      ∃ t, DSs Y (cxOf CX0 P w K mg base N qual (defScope st) f cdv A outer s H E0).nox (defBody st) t ∧ ∀ as n R, as.length = ps.length → c as n R → t { nx := fun _ n' => R .none n', rt := R } (startR N as) n) : FnG P w K mg base (k + 1) f fd ps (spD K ps.length c) := by
  refine fng_of F S (fun vs H Q E ⟨δ, Fz, as, n, R, hl, w1, _⟩ => by rw [← Paired.length w1]; exact hl) fun cdv A outer s H vs Q hgd hr ⟨δ, Fz, as, n, R, hl, w1, s1, d1, o1, hc, hk⟩ => ?_
  obtain ⟨t, h1, h2⟩ := hb cdv A outer s H hgd hr ⟨Fz, H, δ⟩
  refine ⟨_, h1, ⟨Fz, H, δ⟩, Fz, startR N as, n, _, sr_start w1 s1 d1 o1, h2 as n R hl hc, ⟨fun F' H' σ' ρ' n' q r' => hk _ _ _ _ _ q (Base.gr o1 r'.b) r'.b.sub r'.b.dk (by simp [Rp]), fun d n' F' H' v q b q2 => hk _ _ _ _ _ q (Base.gr o1 b) b.sub b.dk q2, fun _ _ _ _ _ q _ => q.elim, fun _ _ _ _ _ q _ => q.elim⟩⟩
end DL
namespace DL
open PySem PySem.Spec PyProof.Rows L2
variable {X : Cx} {Y : Fx}
mutual
def sz : PyData → Nat
  | .none => 4
  | .bool _ => 5
  | .int i => i.natAbs.log2 + 4
  | .str s => 10 * s.length + 2
  | .list ds => szs ds + 3
  | .tuple ds => szs ds + 3
  | .dict kvs => szk kvs + 3
def szs : List PyData → Nat
  | [] => 0
  | d :: ds => sz d + 2 + szs ds
def szk : List (PyData × PyData) → Nat
  | [] => 0
  | (a, b) :: r => sz a + sz b + 4 + szk r
end
theorem slen_append (a b : Str) : (a ++ b).length = a.length + b.length := strLen_append a b
theorem textFrom_le : ∀ (ts : List Str) (k : Nat) (acc : Str), (textFrom k acc ts).length ≤ acc.length + (ts.map fun t => t.length + 2).sum
  | [], k, acc => by show acc.length ≤ _; simp
  | t :: r, k, acc => by
    have h := textFrom_le r (k + 1) (acc ++ (if k > 0 then ", " else "" : String) ++ t)
    have e : (acc ++ (if k > 0 then ", " else "" : String) ++ t).length ≤ acc.length + 2 + t.length := by
      rw [slen_append, slen_append]
      by_cases hk : k > 0
      · rw [if_pos hk]; exact Nat.le_of_eq rfl
      · rw [if_neg hk]; show acc.length + 0 + t.length ≤ _; omega
    show (textFrom (k + 1) (acc ++ (if k > 0 then ", " else "" : String) ++ t) r).length ≤ _
    simp only [List.map_cons, List.sum_cons]
    omega
theorem piled_le (ts : List Str) : piled ts = (ts.map fun t => t.length + 2).sum := by
  unfold piled
  induction ts with
  | nil => rfl
  | cons t r ih => simp [List.map_cons, List.sum_cons] at ih ⊢ <;> omega
theorem join_le (ts : List Str) : (Str.join ", " ts).length ≤ (ts.map fun t => t.length + 2).sum := by
  by_cases h : ts = []
  · subst h; exact Nat.le_refl 0
  · have := join_length_add ts h
    rw [piled_le] at this
    omega
theorem tupleText_le (ts : List Str) : (tupleText ts).length ≤ 3 + (ts.map fun t => t.length + 2).sum := by
  unfold tupleText
  rw [slen_append, slen_append]
  have h := join_le ts
  have h1 : (("(" : String) : Str).length = 1 := rfl
  split
  · have : ((",)" : String) : Str).length = 2 := rfl
    omega
  · have : ((")" : String) : Str).length = 1 := rfl
    omega
theorem listText_le (ts : List Str) : (listText ts).length ≤ 3 + (ts.map fun t => t.length + 2).sum := by
  unfold listText
  rw [slen_append]
  have h := textFrom_le ts 0 "["
  have h1 : (("[" : String) : Str).length = 1 := rfl
  have h2 : (("]" : String) : Str).length = 1 := rfl
  omega
theorem int_text_le (i : Int) : (Str.ofString (toString i)).length ≤ i.natAbs.log2 + 4 := by
  rw [PySem.ofString_length]
  have := PySem.int_text_length_le (a := i) (k := i.natAbs.log2 + 1) (by omega) (by omega)
  omega
mutual
theorem shown_le : ∀ d : PyData, d.canLay0 = true → d.shown.length ≤ sz d
  | .none, _ => by simp only [PyData.shown, sz]; decide
  | .bool b, _ => by cases b <;> (simp only [PyData.shown, sz]; decide)
  | .int i, _ => by simp only [PyData.shown, sz]; exact int_text_le i
  | .str s, h => by
    simp only [PyData.shown, sz]
    simp only [PyData.canLay0, PyData.strOk, Array.all_eq_true'] at h
    exact PySem.StrLaws.reprText_len s fun c hc => by
      have q := h c (by simpa using hc)
      simp at q; omega
  | .list ds, h => by
    simp only [PyData.shown, sz]
    have := shownAll_le ds (by simpa only [PyData.canLay0] using h)
    have := listText_le (PyData.shownAll ds)
    omega
  | .tuple ds, h => by
    simp only [PyData.shown, sz]
    have := shownAll_le ds (by simpa only [PyData.canLay0] using h)
    have := tupleText_le (PyData.shownAll ds)
    omega
  | .dict _, h => by simp [PyData.canLay0] at h
theorem shownAll_le : ∀ ds : List PyData, PyData.canLayAll0 ds = true → ((PyData.shownAll ds).map fun t => t.length + 2).sum ≤ szs ds
  | [], _ => by simp [PyData.shownAll, szs]
  | d :: ds, h => by
    simp only [PyData.canLayAll0, Bool.and_eq_true] at h
    have h1 := shown_le d h.1
    have h2 := shownAll_le ds h.2
    simp only [PyData.shownAll, szs, List.map_cons, List.sum_cons]
    omega
end
/-- what may be shown and compared -/
structure Tame (m k : Nat) (d : PyData) : Prop where
  sh : d.showable = true
  cl : d.canLay0 = true
  dp : d.depth ≤ k
  le : sz d ≤ m
theorem Tame.mono {m k m' k' : Nat} {d : PyData} (h : Tame m k d) (h1 : m ≤ m') (h2 : k ≤ k') : Tame m' k' d := ⟨h.sh, h.cl, Nat.le_trans h.dp h2, Nat.le_trans h.le h1⟩
theorem Tame.shaped {m k : Nat} {d : PyData} (h : Tame m k d) (hk : k ≤ 64) : Sh d := by
  unfold Sh SeqAt.shaped
  rw [Bool.and_eq_true]
  exact ⟨h.cl, decide_eq_true (Nat.le_trans h.dp hk)⟩
theorem tame_int {i : Int} {m : Nat} (h : i.natAbs < 2 ^ m) (hm : m ≤ 1000) (h0 : 0 < m) : Tame (m + 3) 0 (.int i) := by
  have hl : i.natAbs.log2 < m := by
    by_cases q : i.natAbs = 0
    · rw [q]; simpa using h0
    · exact (Nat.log2_lt q).mpr h
  exact ⟨by simp only [PyData.showable]; exact decide_eq_true (by omega), rfl, Nat.zero_le _, by simp only [sz]; omega⟩
theorem tame_str {s : Str} (h : PyData.strOk s = true) : Tame (10 * s.length + 2) 0 (.str s) := ⟨rfl, h, Nat.le_refl _, Nat.le_refl _⟩
theorem canAll {ds : List PyData} (h : ∀ d ∈ ds, d.canLay0 = true) : PyData.canLayAll0 ds = true := by
  induction ds with
  | nil => rfl
  | cons d ds ih => simp only [PyData.canLayAll0, Bool.and_eq_true]; exact ⟨h d (by simp), ih fun e he => h e (by simp [he])⟩
theorem showAll {ds : List PyData} (h : ∀ d ∈ ds, d.showable = true) : PyData.showableAll ds = true := by
  induction ds with
  | nil => rfl
  | cons d ds ih => simp only [PyData.showableAll, Bool.and_eq_true]; exact ⟨h d (by simp), ih fun e he => h e (by simp [he])⟩
theorem depthAll_le {k : Nat} {ds : List PyData} (h : ∀ d ∈ ds, d.depth ≤ k) : PyData.depthAll ds ≤ k := by
  induction ds with
  | nil => exact Nat.zero_le _
  | cons d ds ih => simp only [PyData.depthAll]; exact Nat.max_le.mpr ⟨h d (by simp), ih fun e he => h e (by simp [he])⟩
def tyD : PyData → String
  | .none => "NoneType"
  | .bool _ => "bool"
  | .int _ => "int"
  | .str _ => "str"
  | .list _ => "list"
  | .tuple _ => "tuple"
  | .dict _ => "dict"
def isiB (s t : String) : Bool := s == t || (s == "bool" && t == "int")
theorem tyD_of {K : PySem.W.Frag} {H : Hp} {d : PyData} {v : V} (h : Rp K H d v) (hn : isRefD d = false) : TyX K H v (.type (tyD d)) := by
  cases d <;> simp only [Rp] at h
  case none => subst h; exact .base .non
  case bool => subst h; exact .base (.bl _)
  case int => subst h; exact .base (.int _)
  case str => subst h; exact .base (.str _)
  case list => obtain ⟨a, xs, rfl, h1, _⟩ := h; exact .base (.lst h1)
  case tuple => obtain ⟨a, xs, rfl, h1, _⟩ := h; exact h1.elim (fun h => .base (.tup h)) fun ⟨o, q⟩ => .fTuple q
  case dict =>
    rcases h with ⟨a, xs, rfl, h1, _⟩ | ⟨a, e, rfl⟩ | ⟨_, _, _, e, _⟩
    · exact .base (.dK h1)
    · rw [e] at hn; cases hn
    · rw [e] at hn; cases hn
def isTy (t : String) : Prop := t = "int" ∨ t = "bool" ∨ t = "str" ∨ t = "tuple" ∨ t = "list"
theorem kit_isi {K : PySem.W.Frag} {t : String} (h : isTy t) (d : PyData) : PySem.W.kitOne K (.type (tyD d)) (.type t) = some (isiB (tyD d) t) := by
  rcases h with rfl | rfl | rfl | rfl | rfl <;> cases d <;> (simp only [tyD]; exact kit_ty (by decide +kernel))
def isDR (x : Dv) : Bool := x.isDk || isRefD x.toD
theorem isDR_dk {x : Dv} (h : isDR x = false) : x.isDk = false := (Bool.or_eq_false_iff.mp h).1
theorem isDR_rf {x : Dv} (h : isDR x = false) : isRefD x.toD = false := (Bool.or_eq_false_iff.mp h).2
def oIsi (t : String) (x : Dv) (R : PyData → Prop) : Prop := isDR x = false ∧ R (.bool (isiB (tyD x.toD) t))
theorem we_isi {e : Expr} {t : DTE} {T : String} {y : Str} {p p2 pos : Pos} (hT : isTy T) (hg : Gl X "isinstance") (hm : X.mg "isinstance" = none) (he : WE Y X e t) (hgT : Gl X y) (hmT : X.mg y = none) (hv : bootBuiltins y = some (.type T)) (hn : y ≠ "__name__" := by decide) (hdb : (y == ("__debug__" : Str)) = false := by decide)
    (h1 : starEach [e, .Name y p2] X.env = (false, eval e X.env) :: starEach [.Name y p2] X.env := by rfl) (h2 : starEach [.Name y p2] X.env = (false, eval (.Name y p2) X.env) :: starEach [] X.env := by rfl) (hpl : (backTo pos (starEach [.Name y p2] X.env)).any (·.1) = false := by rfl) :
    WE Y X (.Call (.Name "isinstance" p) [e, .Name y p2] [] pos) (dUn (oIsi T) t) :=
  pe_imp (pe_callB call_isi hg hm PyProof.Rows.boot_isinstance (pa_cons he (pa_cons (pe_bltn (v := .ty T) hgT hmT hv rfl hn hdb) pa_nil h2) h1) (by decide) (by decide) h1 hpl)
    (one (r := fun x H1 Q => rIsi X.K [x, .ty T] H1 Q) fun δ F H x v R Q hs hx ⟨hd, hr⟩ b => ⟨v, .ty T, _, _, _, rfl, .ty T, tyD_of (hx.rp hs (isDR_dk hd)) (isDR_rf hd), kit_isi hT _, b.bl hs hr⟩)
end DL
namespace DL
open PySem PySem.Spec PyProof.Rows L2
variable {X : Cx} {Y : Fx}
section
variable {prog : Program} {w : World} {A : Around} {E : Value → Shared → Prop} {s : Shared} {l : Addr} {its : List Value} {ns : List Int} {xs : Array (Int × Tok)} {Q : Value → Shared → Prop}
theorem iter_tupI {Q : Value → Shared → Prop} (hl : s.heap.IsTuple l (intItems xs))
    (h : ∀ s₂ : Shared, s₂ = { s with heap := s.heap.push { cls := .type "tuple_iterator", data := .fields #[.ref l, .int 0 0] } } →
      (s₂.heap.IsTupleIter s.heap.objs.size l 0 ∧ s₂.heap.IsTuple l (intItems xs)) → (∀ b ∈ [s.heap.objs.size, l], b < s₂.heap.objs.size) → l ≠ s.heap.objs.size → Q (.ref s.heap.objs.size) s₂) :
    wpAny (model prog w) A (pyIter (.ref l)) Q E s := by
  obtain ⟨o, e1, e2⟩ := id hl
  have hlt : l < s.heap.objs.size := Heap.lt_size e1
  refine wpAny_pyIter_tuple hl (h _ rfl ⟨⟨_, Heap.get?_push_size _ rfl, rfl, rfl⟩, ⟨o, Heap.get?_push_of_some _ e1, e2⟩⟩ (fun b hb => ?_) (Nat.ne_of_lt hlt))
  have hsz : ∀ (o : Obj), (s.heap.push o).objs.size = s.heap.objs.size + 1 := fun o => Heap.size_push _ _
  rw [hsz]
  rcases List.mem_cons.mp hb with e | hb
  · rw [e]; exact Nat.lt_succ_self _
  · rw [List.mem_singleton.mp hb]; exact Nat.lt_succ_of_lt hlt
theorem kept_tup {h' : Heap} (hk : ∀ b o, b ∉ [s.heap.objs.size] → (s.heap.push { cls := .type "tuple_iterator", data := .fields #[.ref l, .int 0 0] }).get? b = some o → h'.get? b = some o) :
    ∀ b o, s.heap.get? b = some o → h'.get? b = some o := fun b o e => by
  refine hk b o (fun hm => ?_) (Heap.get?_push_of_some _ e)
  have q := Heap.lt_size e
  rw [List.mem_singleton.mp hm] at q
  exact absurd q (Nat.lt_irrefl _)
theorem sum_tupI (hh : A.handled = none) (hl : s.heap.IsTuple l its.toArray) (hi : IntsAre its ns)
    (h : ∀ h' tk t', (∀ b o, s.heap.get? b = some o → h'.get? b = some o) → Q (.int ns.sum t') { s with heap := h', toks := tk }) : wpAny (model prog w) A (call (.builtin "sum") [.ref l]) Q E s := by
  obtain ⟨xs, e⟩ := hi.allInts.items
  have hn : numsOf (intItems xs).toList = ns := by rw [← e]; exact hi.numsOf
  rw [nums_intItems] at hn
  rw [e] at hl
  refine call_sum_walkG (iter_tupI hl fun s₂ e st hfp hlI => ?_)
  subst e
  refine ⟨_, _, _, _, _, _, numAt xs, rfl, Walks.tuple (A := A.in1) hh _ l hlI (intItems xs), st, hfp, (fun _ _ => intItems_at), fun h' tk t' hk => ?_⟩
  have q := h h' tk t' (kept_tup hk)
  have e2 : preSum (numAt xs) xs.size = ns.sum := by rw [preSum_eq, List.take_of_length_le (by simp), hn]
  rw [← e2] at q
  simpa [intItems] using q
theorem max_tupI (hh : A.handled = none) (hl : s.heap.IsTuple l its.toArray) (hi : IntsAre its ns) (hne : 0 < ns.length)
    (h : ∀ h' tk M t', (∀ b o, s.heap.get? b = some o → h'.get? b = some o) → M ∈ ns → (∀ a, a ∈ ns → a ≤ M) → Q (.int M t') { s with heap := h', toks := tk }) : wpAny (model prog w) A (call (.builtin "max") [.ref l]) Q E s := by
  obtain ⟨xs, e⟩ := hi.allInts.items
  have hn : numsOf (intItems xs).toList = ns := by rw [← e]; exact hi.numsOf
  rw [nums_intItems] at hn
  subst hn
  rw [e] at hl
  have hsz : 0 < xs.size := by simpa using hne
  refine call_max_walk (iter_tupI hl fun s₂ e st hfp hlI => ?_)
  subst e
  refine ⟨_, _, _, _, _, _, _, rfl, Walks.tuple (A := A.in1) hh _ l hlI (intItems xs), st, hfp, by simpa [intItems] using hsz, CmpOf.ints_gt (numAt xs) (fun _ _ => intItems_at), fun v h' tk hP hk => ?_⟩
  have hv : (intItems xs)[argBest (fun i j => decide (numAt xs i > numAt xs j)) (xs.size - 1)]? = some v := by simpa [intItems] using hP
  obtain ⟨t, rfl⟩ := intItems_at hv
  obtain ⟨h1, h2⟩ := argBest_gt (numAt xs) (xs.size - 1)
  refine h h' tk _ t (kept_tup hk) ?_ fun a ha => ?_
  · rw [numAt_eq]; exact PySem.getD_mem (by rw [List.length_map, Array.length_toList]; omega)
  · obtain ⟨j, hj, rfl⟩ := mem_getD ha
    rw [List.length_map, Array.length_toList] at hj
    rw [← numAt_eq]; exact h2 j (by omega)
theorem min_tupI (hh : A.handled = none) (hl : s.heap.IsTuple l its.toArray) (hi : IntsAre its ns) (hne : 0 < ns.length)
    (h : ∀ h' tk M t', (∀ b o, s.heap.get? b = some o → h'.get? b = some o) → M ∈ ns → (∀ a, a ∈ ns → M ≤ a) → Q (.int M t') { s with heap := h', toks := tk }) : wpAny (model prog w) A (call (.builtin "min") [.ref l]) Q E s := by
  obtain ⟨xs, e⟩ := hi.allInts.items
  have hn : numsOf (intItems xs).toList = ns := by rw [← e]; exact hi.numsOf
  rw [nums_intItems] at hn
  subst hn
  rw [e] at hl
  have hsz : 0 < xs.size := by simpa using hne
  refine call_min_walk (iter_tupI hl fun s₂ e st hfp hlI => ?_)
  subst e
  refine ⟨_, _, _, _, _, _, _, rfl, Walks.tuple (A := A.in1) hh _ l hlI (intItems xs), st, hfp, by simpa [intItems] using hsz, CmpOf.ints_lt (numAt xs) (fun _ _ => intItems_at), fun v h' tk hP hk => ?_⟩
  have hv : (intItems xs)[argBest (fun i j => decide (numAt xs i < numAt xs j)) (xs.size - 1)]? = some v := by simpa [intItems] using hP
  obtain ⟨t, rfl⟩ := intItems_at hv
  obtain ⟨h1, h2⟩ := argBest_lt (numAt xs) (xs.size - 1)
  refine h h' tk _ t (kept_tup hk) ?_ fun a ha => ?_
  · rw [numAt_eq]; exact PySem.getD_mem (by rw [List.length_map, Array.length_toList]; omega)
  · obtain ⟨j, hj, rfl⟩ := mem_getD ha
    rw [List.length_map, Array.length_toList] at hj
    rw [← numAt_eq]; exact h2 j (by omega)
end
section
def rSumA (H : Hp) (vs : List V) (Q : VK) : Prop := ∃ (a : Addr) (ns : List Int), vs = [V.ref a] ∧ (H a = some (.lst (ns.map V.int)) ∨ Rd H a (.tup (ns.map V.int))) ∧ Q (.int ns.sum) H
theorem call_sumA (hc : X.calm = true) : CallR X (.builtin "sum") (fun vs H Q => rSumA H vs Q) := by
  intro pins s σ H vs us Q I r ⟨a, ns, e, hs, q⟩
  subst e
  rw [Vals.ref1 r]
  rcases hs with hs | hs
  · obtain ⟨its, rv, hl, _⟩ := I.list (SqL.of hs)
    exact sum_raw (I.ok.hd hc) hl.isList rv.ints fun h' tk t' hk => ⟨.int _, H, I.kept hk, ⟨_, rfl⟩, q⟩
  · obtain ⟨its, rv, hl, _⟩ := I.tuple (sqtR hs)
    exact sum_tupI (I.ok.hd hc) (show s.heap.IsTuple a its.toArray from hl) rv.ints fun h' tk t' hk => ⟨.int _, H, I.kept hk, ⟨_, rfl⟩, q⟩
def rBest (ge : Int → Int → Prop) (H : Hp) (vs : List V) (Q : VK) : Prop := ∃ (a : Addr) (ns : List Int), vs = [V.ref a] ∧ (H a = some (.lst (ns.map V.int)) ∨ Rd H a (.tup (ns.map V.int))) ∧ 0 < ns.length ∧ ∀ m, m ∈ ns → (∀ y, y ∈ ns → ge m y) → Q (.int m) H
def rMax2 (H : Hp) (vs : List V) (Q : VK) : Prop := (∃ i j, vs = [V.int i, V.int j] ∧ Q (.int (if j > i then j else i)) H) ∨ rBest (fun m y => y ≤ m) H vs Q
def rMin2 (H : Hp) (vs : List V) (Q : VK) : Prop := (∃ i j, vs = [V.int i, V.int j] ∧ Q (.int (if j < i then j else i)) H) ∨ rBest (fun m y => m ≤ y) H vs Q
theorem call_maxA (hc : X.calm = true) : CallR X (.builtin "max") (fun vs H Q => rMax2 H vs Q) := by
  refine CallR.or (call_max2 hc) ?_
  intro pins s σ H vs us Q I r ⟨a, ns, e, hs, hne, q⟩
  subst e
  rw [Vals.ref1 r]
  rcases hs with hs | hs
  · obtain ⟨its, rv, hl, _⟩ := I.list (SqL.of hs)
    exact max_raw (I.ok.hd hc) hl.isList rv.ints hne fun h' tk m t' hk h1 h2 => ⟨.int _, H, I.kept hk, ⟨_, rfl⟩, q m h1 h2⟩
  · obtain ⟨its, rv, hl, _⟩ := I.tuple (sqtR hs)
    exact max_tupI (I.ok.hd hc) (show s.heap.IsTuple a its.toArray from hl) rv.ints hne fun h' tk m t' hk h1 h2 => ⟨.int _, H, I.kept hk, ⟨_, rfl⟩, q m h1 h2⟩
theorem call_minA (hc : X.calm = true) : CallR X (.builtin "min") (fun vs H Q => rMin2 H vs Q) := by
  refine CallR.or (call_min2 hc) ?_
  intro pins s σ H vs us Q I r ⟨a, ns, e, hs, hne, q⟩
  subst e
  rw [Vals.ref1 r]
  rcases hs with hs | hs
  · obtain ⟨its, rv, hl, _⟩ := I.list (SqL.of hs)
    exact min_raw (I.ok.hd hc) hl.isList rv.ints hne fun h' tk m t' hk h1 h2 => ⟨.int _, H, I.kept hk, ⟨_, rfl⟩, q m h1 h2⟩
  · obtain ⟨its, rv, hl, _⟩ := I.tuple (sqtR hs)
    exact min_tupI (I.ok.hd hc) (show s.heap.IsTuple a its.toArray from hl) rv.ints hne fun h' tk m t' hk h1 h2 => ⟨.int _, H, I.kept hk, ⟨_, rfl⟩, q m h1 h2⟩
variable {K : PySem.W.Frag}
theorem seq_ints {δ : DkS} {F H : Hp} {x : Dv} {v : V} {ns : List Int} (hs : Same F H) (h : VR K δ F H x v) (e : seqD x.toD = some (ns.map .int)) : ∃ a, v = .ref a ∧ (H a = some (.lst (ns.map V.int)) ∨ Rd H a (.tup (ns.map V.int))) := by
  obtain ⟨a, us, rfl, h2, h3⟩ := h.seq hs e
  rw [h3.ints] at h2
  exact ⟨a, rfl, h2⟩
theorem ck_sum : CallOk K (fun vs H Q => rSumA H vs Q) oSum := fun δ F H xs vs R Q hs hv ⟨x, ns, e, e2, hr⟩ b => by
  subst e
  obtain ⟨v, rfl, h1⟩ := vr1 hv
  obtain ⟨a, rfl, h2⟩ := seq_ints hs h1 e2
  exact ⟨a, ns, rfl, h2, b.int hs hr⟩
def oMax : DC := fun xs R => match xs with
  | [.dat (.int i), .dat (.int j)] => R (.int (if j > i then j else i))
  | [x] => ∃ ns : List Int, seqD x.toD = some (ns.map .int) ∧ 0 < ns.length ∧ ∀ m, m ∈ ns → (∀ y, y ∈ ns → y ≤ m) → R (.int m)
  | _ => False
def oMin : DC := fun xs R => match xs with
  | [.dat (.int i), .dat (.int j)] => R (.int (if j < i then j else i))
  | [x] => ∃ ns : List Int, seqD x.toD = some (ns.map .int) ∧ 0 < ns.length ∧ ∀ m, m ∈ ns → (∀ y, y ∈ ns → m ≤ y) → R (.int m)
  | _ => False
theorem ck_max : CallOk K (fun vs H Q => rMax2 H vs Q) oMax := fun δ F H xs vs R Q hs hv h b => by
  unfold oMax at h
  split at h
  · exact .inl ⟨_, _, vrs2 hv, b.int hs h⟩
  · obtain ⟨ns, e2, hne, hr⟩ := h
    obtain ⟨v, rfl, h1⟩ := vr1 hv
    obtain ⟨a, rfl, h2⟩ := seq_ints hs h1 e2
    exact .inr ⟨a, ns, rfl, h2, hne, fun m k1 k2 => b.int hs (hr m k1 k2)⟩
  · exact h.elim
theorem ck_min : CallOk K (fun vs H Q => rMin2 H vs Q) oMin := fun δ F H xs vs R Q hs hv h b => by
  unfold oMin at h
  split at h
  · exact .inl ⟨_, _, vrs2 hv, b.int hs h⟩
  · obtain ⟨ns, e2, hne, hr⟩ := h
    obtain ⟨v, rfl, h1⟩ := vr1 hv
    obtain ⟨a, rfl, h2⟩ := seq_ints hs h1 e2
    exact .inr ⟨a, ns, rfl, h2, hne, fun m k1 k2 => b.int hs (hr m k1 k2)⟩
  · exact h.elim
end
def oEqA (neg : Bool) : D2 := fun x y R =>
  match x.toD, y.toD with
  | .str s, .str t => R (.bool (if neg then !decide (s = t) else decide (s = t)))
  | d, e => x.isDk = false ∧ y.isDk = false ∧ Sh d ∧ Sh e ∧ R (.bool (if neg then !PyData.eqv d e else PyData.eqv d e))
theorem or_eqA (hu : X.A.units + 64 < cLine) : OpR X (compareOp .Eq) (fun x y H Q => rEqD X.K x y H Q ∨ rEq x y H Q) := OpR.or (op_eqD hu) op_eq
theorem or_neA (hu : X.A.units + 64 < cLine) : OpR X (compareOp .NotEq) (fun x y H Q => rNeD X.K x y H Q ∨ rNe x y H Q) := OpR.or (op_neD hu) op_ne
section
variable {K : PySem.W.Frag}
theorem VR.str {δ : DkS} {F H : Hp} {x : Dv} {v : V} {s : Str} (hs : Same F H) (h : VR K δ F H x v) (e : x.toD = .str s) : v = .str s := by
  have r := h.rp hs (notDeck_of e nofun)
  rw [e] at r
  simpa only [Rp] using r
theorem bi_eqA : BinOk K (fun x y H Q => rEqD K x y H Q ∨ rEq x y H Q) (oEqA false) := fun δ F H x y v u R Q hs hx hy h b => by
  unfold oEqA at h
  split at h
  · rename_i s t e1 e2
    have r1 := hx.str hs e1; have r2 := hy.str hs e2
    subst r1 r2
    refine .inr ⟨rfl, b.bl hs ?_⟩
    have e : decide (V.str s = V.str t) = decide (s = t) := by
      by_cases q : s = t
      · subst q; simp
      · rw [decide_eq_false q, decide_eq_false fun z => q (V.str.inj z)]
    rw [e]; exact h
  · exact .inl (bi_eq δ F H x y v u R Q hs hx hy h b)
theorem bi_neA : BinOk K (fun x y H Q => rNeD K x y H Q ∨ rNe x y H Q) (oEqA true) := fun δ F H x y v u R Q hs hx hy h b => by
  unfold oEqA at h
  split at h
  · rename_i s t e1 e2
    have r1 := hx.str hs e1; have r2 := hy.str hs e2
    subst r1 r2
    refine .inr ⟨rfl, b.bl hs ?_⟩
    have e : decide (V.str s = V.str t) = decide (s = t) := by
      by_cases q : s = t
      · subst q; simp
      · rw [decide_eq_false q, decide_eq_false fun z => q (V.str.inj z)]
    rw [e]; exact h
  · exact .inl (bi_ne δ F H x y v u R Q hs hx hy h b)
theorem or_mulA : OpR X (binaryOp .Mult) (fun x y H Q => rI CMul (fun i j => .int (i * j)) x y H Q ∨ rRep x y H Q) := OpR.or op_mul op_rep
theorem bi_mul : BinOk K (fun x y H Q => rI CMul (fun i j => .int (i * j)) x y H Q ∨ rRep x y H Q) oMul := fun δ F H x y v u R Q hs hx hy h b => by
  unfold oMul at h
  split at h
  · rename_i i j e1 e2
    have r1 := hx.rp hs (notDeck_of e1 nofun); have r2 := hy.rp hs (notDeck_of e2 nofun)
    rw [e1] at r1; rw [e2] at r2
    simp only [Rp] at r1 r2
    exact .inl ⟨i, j, r1, r2, h.1, b.int hs h.2⟩
  · rename_i xs k e1 e2
    have r2 := hy.rp hs (notDeck_of e2 nofun)
    rw [e2] at r2
    simp only [Rp] at r2
    obtain ⟨a, l, rfl, h1, h2⟩ := hx.lst hs e1
    obtain ⟨k1, k2, k3, hr⟩ := h
    refine .inr ⟨a, k, l, rfl, r2, h1, k1, k2, by rw [← h2.length]; exact k3, ?_⟩
    have rep : ∀ m : Nat, Rps K F (List.replicate m xs).flatten (List.replicate m l).flatten := fun m => by
      induction m with
      | zero => exact rps_nil
      | succ m ih => rw [List.replicate_succ, List.replicate_succ, List.flatten_cons, List.flatten_cons]; exact h2.append ih
    exact fun p hp => b.lst hs hr (rep k.toNat) hp
  · exact h.elim
end
end DL
namespace DL
open PySem PySem.Spec PyProof.Rows L2
/-- at the law's entry only the script may be tracked, as a thing that nobody writes -/
def entryH (K : PySem.W.Frag) (a : Addr) (o : Obj) (vs : List V) : Hp := fun b => if b = a ∧ K.lookup a = none then some (.frz o (.lst vs)) else none
theorem entry_some {K : PySem.W.Frag} {a b : Addr} {o : Obj} {vs : List V} {u : HO} (h : entryH K a o vs b = some u) : b = a ∧ K.lookup a = none ∧ u = .frz o (.lst vs) := by
  unfold entryH at h
  by_cases q : b = a ∧ K.lookup a = none
  · rw [if_pos q] at h; cases h; exact ⟨q.1, q.2, rfl⟩
  · rw [if_neg q] at h; cases h
theorem entry_none {K : PySem.W.Frag} {a b : Addr} {o : Obj} {vs : List V} (h : b ≠ a) : entryH K a o vs b = none := if_neg fun q => h q.1
def spLaw (K : PySem.W.Frag) : Sp := fun vs H Q _ => ∃ (a : Addr) (ns : List Int), vs = [.ref a] ∧ SqL K H a (ns.map V.int) ∧ ns.length ≤ 63 ∧ (∀ b, H b = none ∨ ∃ o xs, H b = some (.frz o (.lst xs))) ∧ ∀ H', Q (.bl true) H'
theorem law_g {P : Program} {w : World} {K : PySem.W.Frag} {mg mb : Str → Option Value} {k : Nat} {fa a : Addr} {fd : FuncData} {x : Str} {s₁ : Shared} {vs : List Value} {ns : List Int}
    (KX : K.In s₁.heap) (hns : s₁.heap.Ns mainGlobals mg) (hb : s₁.heap.Ns builtinsNs mb) (hbb : ∀ x : Str, x ≠ "__name__" → mb x = bootBuiltins x) (hlim : s₁.heap.NoLimit) (hg : s₁.gens = #[])
    (ha : s₁.heap.get? a = some { cls := .type "list", data := .seq vs.toArray }) (hi : IntsAre vs ns) (hl : ns.length ≤ 63) (hr : Room k callerA)
    (F : ∀ base : Heap, K.In base → base.Ns mainGlobals mg → FnG P w K mg base k fa fd [x] (spLaw K)) (hbind : ∀ (s : Shared) (u : Value), BindsTo s fd ⟨[u], []⟩ [(x, u)]) :
    codeAny (model P w) callerA (.call (.ref fa) ⟨[.ref a], []⟩) (fun r s' => r = .ok (.ret (.bool true)) ∧ PySem.OldK s₁.heap s'.heap ∧ s'.os = s₁.os ∧ AllBare s'.gens) s₁ := by
  let ob : Obj := { cls := .type "list", data := .seq vs.toArray }
  let H := entryH K a ob (ns.map V.int)
  have rv := vals_ints hi
  have hl2 : ns.length ≤ sizeLine := Nat.le_trans hl (by decide)
  have only : ∀ b, H b = none ∨ ∃ o xs, H b = some (.frz o (.lst xs)) := fun b => by
    cases q : H b with
    | none => exact .inl rfl
    | some u => obtain ⟨_, _, rfl⟩ := entry_some q; exact .inr ⟨_, _, rfl⟩
  have script : SqL K H a (ns.map V.int) := by
    cases q : K.lookup a with
    | none => exact .inl (.inr ⟨ob, if_pos ⟨rfl, q⟩⟩)
    | some o =>
      have e := KX a o q
      rw [ha] at e
      cases e
      exact .inr ⟨_, vs.toArray, _, q, rfl, rfl, rfl, by rw [List.size_toArray, hi.length]; exact hl2, by simpa using rv⟩
  have hok : HOk P w H s₁.heap := fun b u q => by
    obtain ⟨rfl, _, rfl⟩ := entry_some q
    exact ⟨ha, by rw [List.length_map]; exact hl2, vs, _, rv, ha⟩
  have keepB : ∀ {b : Addr} {o : Obj}, s₁.heap.get? b = some o → H b = none → (hidT s₁.heap H).get? b = some o := fun e n => hidT_get e n
  have keepN : ∀ {b : Addr} {m : Str → Option Value}, s₁.heap.Ns b m → (hidT s₁.heap H).Ns b m := fun {b m} ⟨o, es, ep, e, d, r⟩ => by
    refine ⟨o, es, ep, keepB e (entry_none fun q => ?_), d, r⟩
    subst q
    rw [ha] at e; cases e; cases d
  have keepK : K.In (hidT s₁.heap H) := fun b o e => keepB (KX b o e) (by
    cases q : H b with
    | none => rfl
    | some u =>
      obtain ⟨rfl, q2, _⟩ := entry_some q
      rw [q2] at e; cases e)
  have lim2 : (hidT s₁.heap H).NoLimit := by
    obtain ⟨mc, h1, h2⟩ := hlim
    exact ⟨mc, keepN h1, h2⟩
  have e0 : Env0 P w K mg (hidT s₁.heap H) callerA [] s₁ H := by
    refine ⟨rfl, ⟨keepK, keepN hns, ⟨mb, keepN hb, hbb⟩, lim2⟩, fun b o e => of_hidT e, Nat.le_of_eq (hidT_size _ _), trivial, fun b hm => ?_, hok, .of_eq hg⟩
    exact absurd (show b ∈ ([] : List Addr) from hm) (by simp)
  have run := (F _ keepK (keepN hns)).run callerA [] s₁ H ⟨[.ref a], []⟩ [.ref a] [.ref a] (fun v _ => v = .bl true) rfl hr e0 (hbind s₁ (.ref a)) (.cons rfl .nil) ⟨a, ns, rfl, script, hl, only, fun _ => rfl⟩
  refine codeAny_mono run fun r s' h => ?_
  match r, h with
  | .ok (.ret u), ⟨v, H', os, bare, un, hok', r', q⟩ =>
    have q' : v = .bl true := q
    subst q'
    obtain rfl : u = Value.bool true := r'
    refine ⟨rfl, PySem.OldK.of_keep fun b o e => ?_, os, bare⟩
    cases q : H b with
    | none => exact un.keep b o e q (fun z => absurd (show b ∈ ([] : List Addr) from z) (by simp)) (by simp)
    | some u =>
      obtain ⟨rfl, _, rfl⟩ := entry_some q
      have e2 := (hok' b _ (un.frzs b _ _ q)).1
      rw [ha] at e; cases e
      exact e2
/-- the goal that the head leaves -/
theorem walk_g {l : PySem.W.OpenLaw} {k : Nat} {q : Program} {loose : List Str} {XP : (Str → Option Value) → Heap → Prop} {YP : World → Heap → Prop} {d : DefRec} {K : Params → PySem.W.Frag} {x : Str}
    (hn : l.most = some 63) (hdf : d.params.defaults = []) (hr : Room k callerA) (hY : ∀ (w : World) (h : Heap), YP w h → (K w.params).In h)
    (F : ∀ (w : World) (mg : Str → Option Value) (fa : Addr) (h : Heap), (K w.params).In h → h.Ns mainGlobals mg → mg d.name = some (.ref fa) →
      ∃ fd : FuncData, (∀ (s : Shared) (u : Value), BindsTo s fd ⟨[u], []⟩ [(x, u)]) ∧ ∀ base : Heap, (K w.params).In base → base.Ns mainGlobals mg → FnG l.prog w (K w.params) mg base k fa fd [x] (spLaw (K w.params))) :
    PySem.W.WalkO q loose XP YP l.row.toRowW d [] (fun f vs => PySem.call f vs) :=
  Att.attach_call hn hdf fun w s₀ s₁ mg mb fa o pm cd doc a vs ns G Y ho hd hcd hmg hobj hints hlen hg => by
    have KX := hY w _ Y
    obtain ⟨fd, hb, hF⟩ := F w mg fa _ KX G.T.g hmg
    exact law_g KX G.T.g G.T.b G.T.builtins G.T.nolimit hg hobj hints hlen hr hF hb
end DL
namespace DL
open PySem PySem.Spec PyProof.Rows L2
variable {X : Cx} {Y : Fx}
def oNeg (x : Dv) (R : PyData → Prop) : Prop :=
  match x with
  | .dat (.int i) => R (.int (-i))
  | _ => False
theorem we_neg {a : Expr} {t : DTE} {pos : Pos} (ha : WE Y X a t) : WE Y X (.UnaryOp .USub a pos) (dUn oNeg t) :=
  pe_imp (pe_un un_neg ha) (one (r := fun x H1 Q => rU (fun i => .int (-i)) x H1 Q) fun δ F H x v R Q hs hx h b => by
    unfold oNeg at h
    split at h
    · simp only [VR, Rp] at hx
      exact ⟨_, hx, b.int hs h⟩
    · exact h.elim)
/-- a, b = e -/
def dAsgG (g : DTG) (t : DTE) : DTS := fun E ρ n => t ρ n fun x n' => needD x fun d => g d ρ fun ρ' => E.nx ρ' n'
theorem ds_asgG {tg e : Expr} {t : DTE} {tG : TG} {g : DTG} {sl : List Nat} {pos : Pos} (he : WE Y X e t) (hg : DG X tg tG g sl) (hs : swapsWithSole [tg] e pos.line X.env = pure false := by rfl) (hw : swappedStores [tg] e X.env = pure none := by rfl)
    (h1 : (assignEach [tg] X.env).map (·.2) = [assign tg X.env] := by rfl) : DS Y X (.Assign [tg] e pos) (dAsgG g t) :=
  ps_imp (ps_asg he hg.1 hs hw h1) fun D σ H ⟨Z, F, ρ, n, E, r, ht, k⟩ => ⟨Z, F, ρ, n, _, r, ht, fun x n1 F1 H1 v hx g1 s1 d1 w1 => by
    obtain ⟨d, rfl, hx⟩ := needD_is hx
    exact hg.2.im _ _ _ _ _ _ _ _ _ _ _ (r.step g1 s1 d1) w1 hx fun σ' ρ' h r' _ => k.nx _ _ _ _ _ h r'⟩
/-- a loop over a list or a tuple -/
theorem pi_seq {tg l : Expr} {tl : TE} (hl : PE X l tl) : PI X tg l (fun σ H R => tl σ H fun x H1 => ∃ a, x = .ref a ∧ ((∃ xs, H1 a = some (.lst xs) ∧ R (Itl X.K a) H1) ∨ ∃ xs, Rd H1 a (.tup xs) ∧ R (Itt X.K a) H1)) :=
  ⟨fun pins s σ H R I h => thn (hl.run pins s σ H _ I h) fun v s1 ⟨x, H1, I1, r1, a, e, q⟩ => by
    subst e
    cases r1
    have fresh : ∀ b ∈ [s1.heap.objs.size], FpOk X pins H1 b := fun b hb => by
      rw [List.mem_singleton.mp hb]
      exact I1.fpOk (Nat.le_refl _) (I1.hok.fresh (Nat.le_refl _))
    rcases q with ⟨xs, hq, q⟩ | ⟨xs, hq, q⟩
    · obtain ⟨its, rv, p, hz⟩ := I1.list (SqL.of hq)
      exact wpAny_pyIter_list p.isList ⟨_, [s1.heap.objs.size], _, _, H1, rfl, I1.kept (t' := s1.toks) fun b o e => Heap.get?_push_of_some _ e, turn_list a _, ⟨_, Heap.get?_push_size _ rfl, rfl, rfl⟩, fresh, q⟩
    · obtain ⟨its, rv, p, hz⟩ := I1.tuple (sqtR hq)
      exact wpAny_pyIter_tuple (show s1.heap.IsTuple a its.toArray from p) ⟨_, [s1.heap.objs.size], _, _, H1, rfl, I1.kept (t' := s1.toks) fun b o e => Heap.get?_push_of_some _ e, turn_tuple a _, ⟨_, Heap.get?_push_size _ rfl, rfl, rfl⟩, fresh, q⟩⟩
def dSrcS (t : DTE) : DSrc := fun ρ n R => t ρ n fun x n' => needD x fun d => ∃ ds, seqD d = some ds ∧ R ds n'
theorem di_seq {tg e : Expr} {t : DTE} (he : WE Y X e t) : DI Y X tg e (dSrcS t) := pi_imp (pi_seq he) fun σ H R ⟨Z, F, ρ, n, Q, r, ht, k⟩ =>
  ⟨Z, F, ρ, n, _, r, ht, fun x n1 F1 H1 v hx g1 s1 d1 w1 => by
    obtain ⟨d, rfl, hx⟩ := needD_is hx
    obtain ⟨ds, e, hx2⟩ : ∃ ds, seqD d = some ds ∧ _ := hx
    cases d with
    | list es =>
      cases e
      simp only [VR, Rp] at w1
      obtain ⟨a, vs, rfl, h1, h2⟩ := w1
      exact ⟨a, rfl, .inl ⟨vs, s1 _ _ h1, k _ _ _ _ _ hx2 g1 s1 d1 (itOk_list h1 h2)⟩⟩
    | tuple es =>
      cases e
      simp only [VR, Rp] at w1
      obtain ⟨a, vs, rfl, h1, h2⟩ := w1
      exact ⟨a, rfl, .inr ⟨vs, rdS s1 h1, k _ _ _ _ _ hx2 g1 s1 d1 (itOk_tup h1 h2)⟩⟩
    | _ => cases e⟩
def Has (P : Program) (w : World) (K : PySem.W.Frag) (mg : Str → Option Value) (base : Heap) (x : Str) (k : Nat) (ps : List Str) (c : DSpec) : Prop :=
  ∃ f fd, mg x = some (.ref f) ∧ PySem.W.keepIn K (.ref f) = true ∧ Binds K fd ps [] ∧ FnG P w K mg base k f fd ps (spD K ps.length c)
theorem we_has {k : Nat} {c : DSpec} {ps : List Str} {x : Str} {p pos : Pos} {e : Expr} {es : List Expr} {t : DTA} (h : Has X.prog X.w X.K X.mg X.base x k ps c) (hgd : X.A.guards = some []) (hr : Room k X.A) (hg : Gl X x)
    (ha : WA Y X (e :: es) t) (hdb : (x == ("__debug__" : Str)) = false := by decide) (he : starEach (e :: es) X.env = (false, eval e X.env) :: starEach es X.env := by rfl) (hpl : (backTo pos (starEach es X.env)).any (·.1) = false := by rfl) :
    WE Y X (.Call (.Name x p) (e :: es) [] pos) (dFn ps.length c t) := by
  obtain ⟨f, fd, h1, h2, h3, h4⟩ := h
  exact we_fn h4 hgd hr hg h1 h2 h3 ha hdb he hpl
theorem compR_fm {α : Type} (xs : List α) (enc : α → PyData) (p : α → Bool) (f : α → PyData) {n : Wo} {step : CStep} {R : List PyData → Wo → Prop} (hz : xs.length < sizeLine)
    (h : ∀ x ∈ xs, ∀ acc K, acc.length < sizeLine → K (if p x = true then acc ++ [f x] else acc) n → step (enc x) acc n K) (hR : R ((xs.filter p).map f) n) : CompR (xs.map enc) n step R := by
  refine ⟨fun k acc m => m = n ∧ acc = ((xs.take k).filter p).map f, ⟨rfl, rfl⟩, ?_, ?_⟩
  · rintro k x acc m hx ⟨rfl, rfl⟩
    rw [List.getElem?_map] at hx
    obtain ⟨z, hz2, rfl⟩ := Option.map_eq_some_iff.mp hx
    have hk : k < xs.length := (List.getElem?_eq_some_iff.mp hz2).1
    refine h z (List.mem_of_getElem? hz2) _ _ ?_ ⟨rfl, ?_⟩
    · rw [List.length_map]
      have := List.length_filter_le p (xs.take k)
      rw [List.length_take] at this
      omega
    · have e : xs.take (k + 1) = xs.take k ++ [z] := by
        rw [List.take_add_one, hz2]; rfl
      rw [e, List.filter_append, List.map_append]
      cases q : p z <;> simp [q]
  · rintro acc m ⟨rfl, rfl⟩
    rw [List.length_map, List.take_length]
    exact hR
/-- .. with draws within: each item as P says, the deck d draws further a turn -/
theorem compR_dr {m : Nat} (xs : List PyData) (P : PyData → Prop) (d : Nat) {n : Wo} {step : CStep} {R : List PyData → Wo → Prop} (hl : xs.length = m) (hz : m < sizeLine)
    (h : ∀ (k : Nat) x, xs[k]? = some x → k < m → ∀ acc K, acc.length = k → (∀ y, P y → K (acc ++ [y]) (n + (k + 1) * d)) → step x acc (n + k * d) K) (hR : ∀ ys, ys.length = m → (∀ y ∈ ys, P y) → R ys (n + m * d)) : CompR xs n step R := by
  refine ⟨fun k acc q => q = n + k * d ∧ acc.length = k ∧ ∀ y ∈ acc, P y, ⟨Wo.add0 n d, rfl, fun _ hy => (nomatch hy)⟩, ?_, ?_⟩
  · rintro k x acc q hx ⟨rfl, h1, h2⟩
    have hk : k < m := by rw [← hl]; exact (List.getElem?_eq_some_iff.mp hx).1
    refine h k x hx hk acc _ h1 fun y hy => ⟨rfl, by simp [h1], fun z hz => ?_⟩
    rcases List.mem_append.mp hz with q | q
    · exact h2 z q
    · rw [List.mem_singleton.mp q]; exact hy
  · rintro acc q ⟨rfl, h1, h2⟩
    rw [hl]
    exact hR acc (by rw [h1, hl]) h2
theorem forR_inv {xs : List PyData} {ρ : Rho} {n : Wo} {step : FStep} {Q : Rho → Wo → Prop} (I : Nat → Rho → Wo → Prop) (h0 : I 0 ρ n) (hs : ∀ (k : Nat) x ρ' n', xs[k]? = some x → I k ρ' n' → step x ρ' n' (I (k + 1))) (he : ∀ ρ' n', I xs.length ρ' n' → Q ρ' n') : ForR xs ρ n step Q := ⟨I, h0, hs, he⟩
end DL
namespace DL
open PySem PySem.Spec PyProof.Rows L2
variable {X : Cx} {Y : Fx}
theorem ite_imp {c A B A' B' : Prop} [Decidable c] (h1 : A → A') (h2 : B → B') (h : if c then A else B) : if c then A' else B' := by
  by_cases q : c
  · rw [if_pos q] at h ⊢; exact h1 h
  · rw [if_neg q] at h ⊢; exact h2 h
/-- a comprehension of a test and an element that change nothing -/
theorem compR_p {α : Type} (xs : List α) (enc : α → PyData) (p : α → Bool) (f : α → PyData) {n : Wo} {step : CStep} {R : List PyData → Wo → Prop} (hz : xs.length < sizeLine)
    (h : ∀ x ∈ xs, ∀ acc K, (if p x = true then acc.length < sizeLine ∧ K (acc ++ [f x]) n else K acc n) → step (enc x) acc n K) (hR : R ((xs.filter p).map f) n) : CompR (xs.map enc) n step R :=
  compR_fm xs enc p f hz (fun x hx acc K ha hK => h x hx acc K (by
    by_cases q : p x = true
    · rw [if_pos q] at hK ⊢; exact ⟨ha, hK⟩
    · rw [if_neg q] at hK ⊢; exact hK)) hR
theorem compR_m {α : Type} (xs : List α) (enc : α → PyData) (f : α → PyData) {n : Wo} {step : CStep} {R : List PyData → Wo → Prop} (hz : xs.length < sizeLine)
    (h : ∀ x ∈ xs, ∀ acc K, acc.length < sizeLine → K (acc ++ [f x]) n → step (enc x) acc n K) (hR : R (xs.map f) n) : CompR (xs.map enc) n step R :=
  compR_fm xs enc (fun _ => true) f hz (fun x hx acc K ha hK => h x hx acc K ha (by simpa using hK)) (by rwa [List.filter_eq_self.mpr (fun _ _ => rfl)])
theorem atI_mem {α : Type} {xs : List α} {i : Int} (h0 : 0 ≤ i) (h1 : i < xs.length) : ∃ d, atI xs i = some d ∧ d ∈ xs := by
  have hi : i.toNat < xs.length := by omega
  refine ⟨xs[i.toNat], ?_, List.getElem_mem _⟩
  unfold atI ixN
  rw [if_pos h0, if_pos h1]
  simp [hi]
theorem rngD_mem {lo : Int} {n : Nat} {k : Nat} {x : PyData} (h : (rngD lo n)[k]? = some x) : x = .int (lo + (k : Int)) ∧ k < n := rngD_get h
theorem line1000 {n : Nat} (h : n ≤ 1000) : n ≤ sizeLine := Nat.le_trans h (by decide)
def Wo.z : Wo := ⟨0, fun _ => none, fun _ => none⟩
theorem pss_any {α : Type} {X : Cx} {st : List Stmt} {t : α → TS} (h : ∀ a, PSs X st (t a)) : PSs X st (fun D σ H => ∃ a, t a D σ H) := ⟨fun p s σ H D I ⟨a, w⟩ => (h a).run p s σ H D I w⟩
section
variable {P : Program} {w : World} {K : PySem.W.Frag} {mg : Str → Option Value} {base : Heap}
theorem law_start {N : List Str} {kd : Bool} {st1 : Stmt} {rest : List Stmt} {sLaw : Stmt} {f : Addr} {fd : FuncData} {k m : Nat} {spD0 : PySem.W.Frag → Sp}
    (F : Fun K "law" "law" sLaw f fd) (S : FnScope N ["script"] (defScope sLaw)) (hbody : defBody sLaw = st1 :: rest) (hN : N.length = m + 2)
    (hsp : ∀ (a : Addr) (ns : List Int) (H : Hp) (Q : VK), SqL K H a (ns.map V.int) → ns.length ≤ 63 → (∀ (H' : Hp) (δ : DkS) (p : Addr), Same H H' → IsDk kd δ p → δ.at0 H' 0 → (∀ b, b ∈ δ.own → H' b ≠ none) → Q (.ref p) H') → spD0 K [.ref a] H Q E0)
    (h : ∀ (cdv : Value) (A : Around) (outer : List Env) (s : Shared) (H : Hp), A.guards = some [] → Room k (A.deeper (envOfC "law" (defScope sLaw) s.heap.objs.size f cdv)) →
      PS (cxOf CX0 P w K mg base N "law" (defScope sLaw) f cdv A outer s H E0).nox st1 (tAsg (fun σ H Q => tCons (tVar 0) tNil σ H fun vs H1 => spD0 K vs H1 Q E0) (gName 1)) ∧
      ∀ Y : Fx, ∃ t, DSs Y (cxOf CX0 P w K mg base N "law" (defScope sLaw) f cdv A outer s H E0).nox rest t ∧ t { nx := fun _ _ => False, rt := fun d _ => d = .bool true } (none :: some (.deck kd) :: List.replicate m none) Wo.z) :
    FnG P w K mg base (k + 1) f fd ["script"] (spLaw K) := by
  refine fng_of F S (fun vs H Q E ⟨a, ns, e, _⟩ => by rw [e]; rfl) fun cdv A outer s H vs Q hgd hr ⟨a, ns, e, hS, hlen, _, hk⟩ => ?_
  subst e
  obtain ⟨h1, h0⟩ := h cdv A outer s H hgd hr
  rw [hbody]
  refine ⟨_, pss_cons h1 (pss_any fun Y => (h0 Y).choose_spec.1), ?_⟩
  have hst : L2.start N [V.ref a] = some (.ref a) :: none :: List.replicate m none := by
    unfold L2.start
    rw [hN]
    rfl
  refine ⟨.ref a, by rw [hst]; rfl, hsp a ns H _ hS hlen fun H' δ p hs hd hat hne => ?_⟩
  refine ⟨⟨fun _ => none, H', δ⟩, ?_⟩
  obtain ⟨h2, h3⟩ := (h0 ⟨fun _ => none, H', δ⟩).choose_spec
  refine ⟨⟨fun _ => none, H', δ⟩, fun _ => none, none :: some (.deck kd) :: List.replicate m none, Wo.z, _, ⟨⟨fun _ _ q => (by cases q), ⟨hat, fun _ _ e => (nomatch e), fun _ _ e => (nomatch e)⟩, fun b hb => ⟨rfl, hne b hb⟩, Same.refl _, fun _ _ q => q, fun _ _ _ q _ => q, fun _ _ _ _ q => ⟨_, q⟩⟩, rfl, rfl, Gr.refl, ?_, fun i x q => ?_, fun i j b ds y _ q _ _ _ _ => ?_⟩, h3, ⟨fun _ _ _ _ _ q _ => q.elim, fun d n' F2 H2 v q _ r => ?_, fun _ _ _ _ _ q _ => q.elim, fun _ _ _ _ _ q _ => q.elim⟩⟩
  · rw [hst]; simp
  · rw [hst]
    have rep : ∀ (j : Nat) (z : Dv), (List.replicate m (none : Option Dv))[j]? ≠ some (some z) := fun j z e => by
      rw [List.getElem?_replicate] at e
      split at e <;> cases e
    match i, q with
    | 1, q => cases q; exact ⟨.ref p, rfl, p, rfl, hd⟩
    | j + 2, q => exact absurd q (rep j x)
  · have rep : ∀ (j : Nat) (z : Dv), (List.replicate m (none : Option Dv))[j]? ≠ some (some z) := fun j z e => by
      rw [List.getElem?_replicate] at e
      split at e <;> cases e
    match i, q with
    | j + 2, q => exact absurd q (rep j _)
  · have q' : d = .bool true := q
    subst q'
    simp only [Rp] at r
    subst r
    exact hk _
end
end DL
namespace DL
open PySem PySem.Spec PyProof.Rows L2
open Sem (wp) in
open AutoSeq1 (wpAny_loadPart') in
theorem meets_enumT (l : Addr) (items : Array Value) (n : Nat) (dct : Option Addr) (sl : Array (Option Value)) :
    Meets (Builtin.«enumerate.__new__» ⟨[.type "enumerate", .ref l], []⟩) (fun _ R s => s.heap.get? l = some { cls := .type "tuple", dict := dct, data := .seq items n, slots := sl } ∧
      R (.ok (.ret (.ref (s.heap.push { cls := .type "tuple_iterator", data := .fields #[.ref l, .int 0 0] }).objs.size)))
        { s with heap := (s.heap.push { cls := .type "tuple_iterator", data := .fields #[.ref l, .int 0 0] }).push { cls := .type "enumerate", data := .fields #[.none, .bool false, .ref s.heap.objs.size, rawInt 0, .none, .none] } }) :=
  .of_wp fun prog w A R s h => by
    obtain ⟨hp, g, d, tk, os⟩ := s; obtain ⟨hl, h⟩ := h
    have hsub := sub_enumerate
    have hL : Heap.IsTuple (Shared.heap ⟨hp, g, d, tk, os⟩) l items := ⟨_, hl, rfl, n, rfl⟩
    wp_walk using wpAny_loadPart' hl
    refine wpAny_stack_any fun st => wpAny_pure ?_
    split
    · rename_i c _ _ _ _ _
      cases (c == Value.type "enumerate")
      · wp_walk using wpAny_loadPart' hl, wpAny_pyIter_tuple hL
        exact ⟨_, rfl, h⟩
      · wp_walk using wpAny_loadPart' hl, wpAny_pyIter_tuple hL
        exact ⟨_, rfl, h⟩
    · wp_walk using wpAny_loadPart' hl, wpAny_pyIter_tuple hL
      exact ⟨_, rfl, h⟩
section
variable {prog : Program} {w : World} {A : Around} {E : Value → Shared → Prop} {s : Shared}
theorem call_enumT {l : Addr} {items : Array Value} {Q : Value → Shared → Prop} (hL : s.heap.IsTuple l items)
    (h : ∀ h', IsEnum h' (s.heap.objs.size + 1) s.heap.objs.size 0 .none → h'.IsTupleIter s.heap.objs.size l 0 → (∀ b o, s.heap.get? b = some o → h'.get? b = some o) → Q (.ref (s.heap.objs.size + 1)) { s with heap := h' }) :
    wpAny (model prog w) A (call (.type "enumerate") [.ref l]) Q E s := by
  obtain ⟨⟨c, dct, dt, sl⟩, hl, hc, n, hd⟩ := hL
  replace hc : c = .type "tuple" := hc
  replace hd : dt = .seq items n := hd
  subst hc hd
  refine callType_new F.called_enumerate (by decide) (F.typeCall_enumerate_1 _) (F.newCall_enumerate_1 _) (fun obj => F.args_object_init_2 obj _) F.entry_enumerate_new (meets_enumT l items n dct sl) ⟨hl, ?_⟩
  have hz : (s.heap.push { cls := .type "tuple_iterator", data := .fields #[.ref l, .int 0 0] }).objs.size = s.heap.objs.size + 1 := Heap.size_push ..
  show _ ∧ _
  rw [hz]
  have he : IsEnum ((s.heap.push { cls := .type "tuple_iterator", data := .fields #[.ref l, .int 0 0] }).push { cls := .type "enumerate", data := .fields #[.none, .bool false, .ref s.heap.objs.size, rawInt 0, .none, .none] }) (s.heap.objs.size + 1) s.heap.objs.size 0 .none := by
    have z := Heap.get?_push_size (s.heap.push { cls := .type "tuple_iterator", data := .fields #[.ref l, .int 0 0] }) (o := { cls := .type "enumerate", data := .fields #[.none, .bool false, .ref s.heap.objs.size, rawInt 0, .none, .none] }) rfl
    rw [hz] at z; exact z
  exact ⟨⟨_, he, rfl⟩, h _ he ⟨_, Heap.get?_push_of_some _ (Heap.get?_push_size _ rfl), rfl, rfl⟩ fun b o x => Heap.get?_push_of_some _ (Heap.get?_push_of_some _ x)⟩
theorem enumT_end {e it t : Addr} {i : Nat} {c : Int} {items : Array Value} {old : Value} {Q : Option Value → Shared → Prop} (hh : A.handled = none) (he : IsEnum s.heap e it c old) (hit : s.heap.IsTupleIter it t i) (ht : s.heap.IsTuple t items) (hx : items[i]? = none)
    (hQ : ∀ h', Heap.ExtBut it s.heap h' → Q none { s with heap := h' }) : wpAny (model prog w) A (pyNext (.ref e)) Q E s := by
  have hT : s.TypeIs (.ref e) "enumerate" := ⟨_, he, rfl⟩
  unfold pyNext
  refine wpAny_bind (wpAny_attempt (wpAny_callSpecial?_slot (name := Str.ofString "__next__") hT F.slot_enumerate_next (wpAny_call_entry F.slot_enumerate_next hT F.entry_enumerate_next ?_ (F.args_enumerate_next_1 _))))
  show wpAny _ _ (field (.ref e) 2 >>= _) _ _ _
  refine wpAny_bind (wpAny_field he rfl (x := .ref it) rfl (wpAny_bind (wpAny_nextOf_tuple_end hh hit ht hx fun h' x he' ⟨o, ho, hc⟩ => ?_)))
  exact wpAny_bind (wpAny_isInstance (T := "StopIteration") (b := true) ⟨o, ho, hc⟩ isSubtype_stop (wpAny_pure (hQ _ he')))
end
/-- the tuple at a, each item in a new pair -/
def ItET (K : PySem.W.Frag) (a : Addr) : It :=
  ⟨fun i H => ∃ (xs : List V) (x : V), SqT K H a xs ∧ xs[i]? = some x, fun i H v H' => ∃ T x, v = .ref T ∧ H T = none ∧ H' = upd H T (.tup [.int (i : Nat), x]) ∧ ∀ xs, SqT K H a xs → xs[i]? = some x, fun i H => ∃ xs : List V, SqT K H a xs ∧ xs.length ≤ i⟩
theorem turn_enumT {P : Program} {w : World} {K : PySem.W.Frag} {elts : List Expr} {kk : Nat} {tpos : Pos} (a e it : Addr) (hai : a ≠ it) (hae : a ≠ e) :
    Turn P w K (.Tuple elts kk tpos) (ItET K a) [e, it] e (fun i h => (∃ old, IsEnum h e it ((i : Nat) : Int) old) ∧ h.IsTupleIter it a i ∧ e ≠ it) where
  mem := by simp
  obj := fun i h st b hb => by
    obtain ⟨⟨old, he⟩, ⟨o, ho, hc, hd⟩, _⟩ := st
    rcases (show b = e ∨ b = it by simpa using hb) with z | z
    · rw [z]; exact ⟨_, he, fun v q => nomatch q⟩
    · rw [z]; exact ⟨o, ho, fun v q => by rw [hd] at q; cases q⟩
  keep := fun i h h' st k => let ⟨⟨old, he⟩, hi, hne⟩ := st; ⟨⟨old, k e (by simp) _ he⟩, hi.at fun o q => k it (by simp) o q, hne⟩
  item := by
    intro X hP hw hK hc i pins s σ H E I hf st hg
    subst hP hw hK
    obtain ⟨⟨old, he⟩, hit, hne⟩ := st
    obtain ⟨xs, x, hq, hx⟩ := hg
    obtain ⟨its, rv, p, hz⟩ := I.tuple hq
    obtain ⟨u, hu, ru⟩ := rv.get hx
    have hel : e < s.heap.objs.size := Heap.lt_size he
    have hil : it < s.heap.objs.size := by obtain ⟨_, q, _⟩ := hit; exact Heap.lt_size q
    have hin : i < its.toArray.size := by
      have := (List.getElem?_eq_some_iff.mp hu).1
      simpa using this
    refine wpAny_pyNext_enum_itemC (fp := [it, a]) (Draws.tuple (A := X.A.in1) (I.ok.hd hc) it a hai its.toArray) he (i := i) ⟨hit, p⟩ hin hne (by simp; exact ⟨hne, Ne.symm hae⟩) fun y h' tk hy ho hst hT hsz hk => ?_
    have ey : y = u := by
      have : its.toArray[i]? = some u := by simpa using hu
      rw [hy] at this; exact Option.some.inj this
    subst ey
    refine ⟨_, rfl, wpAny_letOwnedTupleGo_enum (s := { s with heap := h', toks := tk + 1 }) ho fun h'' he' sb => ?_⟩
    have hT2 : h''.get? s.heap.objs.size = some { cls := .type "tuple", data := .seq #[.int i tk, y] } := (sb.2 _ (Nat.ne_of_gt hel)).trans hT
    have new : ObjOk X.prog X.w (upd H s.heap.objs.size (.tup [.int (i : Nat), x])) h'' s.heap.objs.size (.tup [.int (i : Nat), x]) := ⟨by show 2 ≤ sizeLine; decide, [.int i tk, y], .cons ⟨_, rfl⟩ (.cons ru .nil), ⟨_, hT2, rfl, _, rfl⟩⟩
    have I1 : Inv X pins σ (upd H s.heap.objs.size (.tup [.int (i : Nat), x])) { s with heap := h'', toks := tk + 1 } :=
      I.turnedNew (ch := [e, it]) (fun b ob hb q => (sb.2 b (fun z => hb (by simp [z]))).trans (hk b ob (fun z => hb (by simp [z])) (fun z => hb (by simp [z])) q)) hf (Nat.le_refl _) new
    refine ⟨.ref s.heap.objs.size, _, I1, rfl, ⟨_, x, rfl, I.hok.fresh (Nat.le_refl _), rfl, fun ys hy => by rw [I.tuple_inj hy hq]; exact hx⟩, ⟨⟨y, ?_⟩, hst.1.at fun o q => (sb.2 it (Ne.symm hne)).trans q, hne⟩, fun b hb => ?_⟩
    · rw [show ((i + 1 : Nat) : Int) = (i : Int) + 1 by omega]
      exact he'
    · have hb' : b < s.heap.objs.size := by
        rcases (show b = e ∨ b = it by simpa using hb) with z | z
        · rw [z]; exact hel
        · rw [z]; exact hil
      rw [upd_ne (Nat.ne_of_lt hb')]
      exact (hf b hb).1
  done := by
    intro X hP hw hK hc i pins s σ H E I hf st hg
    subst hP hw hK
    obtain ⟨⟨old, he⟩, hit, hne⟩ := st
    obtain ⟨xs, hq, hx⟩ := hg
    obtain ⟨its, rv, p, hz⟩ := I.tuple hq
    obtain ⟨f0, f1, f2, f3, f4, f5⟩ := hf it (by simp)
    have hl := rv.length
    exact enumT_end (A := X.A) (I.ok.hd hc) he hit p (by simp; omega) fun h' eb => ⟨rfl, I.turned (t' := s.toks) (fun b o hb q => eb b o hb q) f0 f1 f3 f4 f5⟩
  self := fun A i s Q E st h => let ⟨⟨_, he⟩, _⟩ := st; wpAny_pyIter_enum he h
/-- enumerate of a list or a tuple -/
def iEnA (K : PySem.W.Frag) (ta : TA) : TI := fun σ H R => ta σ H fun vs H1 => ∃ a, vs = [.ref a] ∧ ((∃ xs, H1 a = some (.lst xs) ∧ R (Ite K a) H1) ∨ ∃ xs, Rd H1 a (.tup xs) ∧ R (ItET K a) H1)
variable {X : Cx} {Y : Fx}
theorem pi_enA {e : Expr} {ta : TA} {p pos tpos : Pos} {elts : List Expr} {kk : Nat} (hg : Gl X "enumerate") (hm : X.mg "enumerate" = none) (ha : PA X [e] ta) (hs : starEach [e] X.env = [(false, eval e X.env)] := by rfl) :
    PI X (.Tuple elts kk tpos) (.Call (.Name "enumerate" p) [e] [] pos) (iEnA X.K ta) := ⟨fun pins s σ H R I h => by
  refine Call_ (ld_blt I hg hm boot_enumerate (PyProof.Rows.callWith_type1 (thn (ha.run pos pins s σ H _ I h) fun us s1 ⟨vs, H1, I1, r1, a, ex, q⟩ => ?_) hs rfl))
  subst ex
  cases r1 with
  | cons r rr =>
    cases rr
    cases r
    have fresh : ∀ b ∈ [s1.heap.objs.size + 1, s1.heap.objs.size], FpOk X pins H1 b := fun b hb => by
      have hle : s1.heap.objs.size ≤ b := by
        rcases (show b = s1.heap.objs.size + 1 ∨ b = s1.heap.objs.size by simpa using hb) with z | z <;> omega
      exact I1.fpOk hle (I1.hok.fresh hle)
    rcases q with ⟨xs, hq, q⟩ | ⟨xs, hq, q⟩
    · obtain ⟨its, rv, p', hz⟩ := I1.list (SqL.of hq)
      refine call_enumerate_list p'.isList fun h' he hit hsz hk => wpAny_pyIter_enum he ?_
      exact ⟨s1.heap.objs.size + 1, [s1.heap.objs.size + 1, s1.heap.objs.size], _, _, H1, rfl, I1.kept (t' := s1.toks) hk, turn_enum a (s1.heap.objs.size + 1) s1.heap.objs.size, ⟨⟨.none, he⟩, hit, Nat.succ_ne_self _⟩, fresh, q⟩
    · obtain ⟨its, rv, p', hz⟩ := I1.tuple (sqtR hq)
      obtain ⟨ol, hol, _⟩ := id (show s1.heap.IsTuple a its.toArray from p')
      have hlt := Heap.lt_size hol
      refine call_enumT (show s1.heap.IsTuple a its.toArray from p') fun h' he hit hk => wpAny_pyIter_enum he ?_
      exact ⟨s1.heap.objs.size + 1, [s1.heap.objs.size + 1, s1.heap.objs.size], _, _, H1, rfl, I1.kept (t' := s1.toks) hk, turn_enumT a (s1.heap.objs.size + 1) s1.heap.objs.size (Nat.ne_of_lt hlt) (Nat.ne_of_lt (Nat.lt_succ_of_lt hlt)), ⟨⟨.none, he⟩, hit, Nat.succ_ne_self _⟩, fresh, q⟩⟩
theorem itOk_enT {K : PySem.W.Frag} {F : Hp} {a : Addr} {vs : List V} {ds : List PyData} (h : Rd F a (.tup vs)) (r : Rps K F ds vs) : ItOk K (ItET K a) F (enumD ds) where
  go := fun i H s hi => by
    rw [enumD_length] at hi
    exact ⟨vs, vs[i]'(by rw [← r.length]; exact hi), sqtR (rdS s h), by simp⟩
  stop := fun i H s hi => ⟨vs, sqtR (rdS s h), by rw [← r.length, ← enumD_length]; exact hi⟩
  yld := fun i H v H' x ⟨T, y, e1, e2, e3, e4⟩ s hx => by
    obtain ⟨d, q1, q2⟩ := enumD_get hx
    obtain ⟨w, q3, q4⟩ := r.get q1
    rw [e4 vs (sqtR (rdS s h))] at q3; cases q3
    exact .inr ⟨T, _, _, e1, e2, e3, q2, rps_cons (by simp [Rp]) (rps_cons q4 rps_nil)⟩
def dEnA (t : DTA) : DSrc := fun ρ n R => t ρ n fun xs n' => ∃ d ds, xs = [.dat d] ∧ seqD d = some ds ∧ R (enumD ds) n'
theorem di_enumA {e : Expr} {t : DTA} {p pos tpos : Pos} {elts : List Expr} {kk : Nat} (hg : Gl X "enumerate") (hm : X.mg "enumerate" = none) (ha : WA Y X [e] t) (hs : starEach [e] X.env = [(false, eval e X.env)] := by rfl) :
    DI Y X (.Tuple elts kk tpos) (.Call (.Name "enumerate" p) [e] [] pos) (dEnA t) :=
  pi_imp (pi_enA hg hm ha hs) fun σ H R ⟨Z, F, ρ, n, Q, r, ht, k⟩ => ⟨Z, F, ρ, n, _, r, ht, fun xs n1 F1 H1 vs ⟨d, ds, e, e2, hx⟩ g1 s1 d1 w1 => by
    subst e
    obtain ⟨v, rfl, w2⟩ := vr1 w1
    have w3 : Rp X.K F1 d v := w2
    cases d with
    | list es =>
      cases e2
      simp only [Rp] at w3
      obtain ⟨a, vs, rfl, h1, h2⟩ := w3
      exact ⟨a, rfl, .inl ⟨vs, s1 _ _ h1, k _ _ _ _ _ hx g1 s1 d1 (itOk_enum h1 h2)⟩⟩
    | tuple es =>
      cases e2
      simp only [Rp] at w3
      obtain ⟨a, vs, rfl, h1, h2⟩ := w3
      exact ⟨a, rfl, .inr ⟨vs, rdS s1 h1, k _ _ _ _ _ hx g1 s1 d1 (itOk_enT h1 h2)⟩⟩
    | _ => cases e2⟩
end DL
namespace DL
open PySem PySem.Spec PyProof.Rows L2
variable {X : Cx} {Y : Fx}
theorem Rps.erase {K : PySem.W.Frag} {F : Hp} : ∀ {ds : List PyData} {vs : List V} (j : Nat), Rps K F ds vs → Rps K F (ds.eraseIdx j) (vs.eraseIdx j)
  | [], _, _, h => by simp only [Rps] at h; subst h; simp [Rps]
  | d :: ds, _, 0, h => by
    simp only [Rps] at h
    obtain ⟨v, r, rfl, h1, h2⟩ := h
    exact h2
  | d :: ds, _, j + 1, h => by
    simp only [Rps] at h
    obtain ⟨v, r, rfl, h1, h2⟩ := h
    exact rps_cons h1 (Rps.erase j h2)
theorem seqIx {z : Int} {n : Nat} (h0 : 0 ≤ z) (h1 : z < n) : seqIndex? z n = some z.toNat := by
  unfold seqIndex?
  have e : ¬ z < 0 := by omega
  simp only [e, if_false]
  rw [if_pos (by simp; exact ⟨h0, h1⟩)]
def prD (p : Int × Int) : PyData := .tuple [.int p.1, .int p.2]
def oSortP : DCM := fun xs R => ∃ x, ∃ ps : List (Int × Int), xs = [x] ∧ x.toD = .list (ps.map prD) ∧ ∀ qs : List (Int × Int), qs.Perm ps → qs.Pairwise (fun p q => p.1 < q.1 ∨ (p.1 = q.1 ∧ p.2 ≤ q.2)) → R (qs.map prD)
/-- sorted of a list of pairs of ints, frozen ones too -/
def rSortedPR (K : PySem.W.Frag) : List V → Hp → VK → Prop := fun vs H Q => ∃ (a : Addr) (xs : List V) (k : V → Int × Int), vs = [V.ref a] ∧ SqL K H a xs ∧ (∀ x ∈ xs, ∃ t, x = V.ref t ∧ Rd H t (.tup [.int (k x).1, .int (k x).2])) ∧
  ∀ ys p, SrtO.Srtd (ltP k) ys → SrtO.Stb (ltP k) ys xs → H p = none → Q (.ref p) (upd H p (.lst ys))
theorem cr_sortedPO {X : Cx} : CallR X (.builtin "sorted") (rSortedPR X.K) := by
  intro pins s σ H vs us Q I r h
  obtain ⟨a, xs, k, rfl, hs, hx, q⟩ := h
  obtain ⟨its, rv, hl, hz⟩ := I.list hs
  obtain ⟨u, rfl, ru⟩ := vals1 r
  obtain rfl : u = Value.ref a := ru
  obtain ⟨e1, e2⟩ := refs_back rv fun x m => by
    obtain ⟨t, e, _⟩ := hx x m
    exact ⟨t, e⟩
  refine SrtO.sorted_pairsO (k := fun u => k (backV u)) hl.isList (by rw [← rv.length]; exact hz) (fun v hv => ?_) fun h' d out h1 h2 kp hd hn => ?_
  · obtain ⟨t, rfl⟩ := e2 v hv
    have hm : V.ref t ∈ xs := by rw [e1]; exact List.mem_map.mpr ⟨_, hv, rfl⟩
    obtain ⟨t', e, ht⟩ := hx _ hm
    cases e
    obtain ⟨its2, r2, ⟨o, ho, hc, n, hd⟩, _⟩ := I.tuple (sqtR ht)
    obtain ⟨u1, u2, rfl, ri, rj⟩ := vals2 r2
    obtain ⟨t1, rfl⟩ := ri
    obtain ⟨t2, rfl⟩ := rj
    exact ⟨t, o, t1, t2, n, rfl, ho, hc, hd⟩
  · have h3 : ∀ u ∈ out, ∃ a, u = Value.ref a := fun u hu => e2 u (h2.perm.mem_iff.mp hu)
    obtain ⟨n, hn⟩ := hn
    have hb : SrtO.Stb (ltP k) (out.map backV) xs := by
      rw [e1]
      exact SrtO.Stb.map (ltP_swo k) backV h2
    refine ⟨.ref d, upd H d (.lst (out.map backV)), I.laid (t' := s.toks) kp hd ⟨?_, out, n, vals_back h3, hn⟩, rfl, q _ d (SrtO.srtd_map h1) hb (I.hok.fresh hd)⟩
    rw [hb.len]
    exact hz
def keyV (F : Hp) (x : V) : Int × Int := match x with
  | .ref t => match F t with
    | some (.tup [.int a, .int b]) => (a, b)
    | some (.frz _ (.tup [.int a, .int b])) => (a, b)
    | _ => (0, 0)
  | _ => (0, 0)
theorem key_of {K : PySem.W.Frag} {F : Hp} {p : Int × Int} {v : V} (h : Rp K F (prD p) v) : ∃ t, v = .ref t ∧ Rd F t (.tup [.int p.1, .int p.2]) ∧ keyV F v = p := by
  unfold prD at h
  simp only [Rp] at h
  obtain ⟨a, xs, rfl, h1, h2⟩ := h
  obtain ⟨u, w, rfl, h3, h4⟩ := rps2 h2
  simp only [Rp] at h3 h4
  subst h3 h4
  exact ⟨a, rfl, h1, by
    show (match F a with | some (.tup [.int x, .int y]) => (x, y) | some (.frz _ (.tup [.int x, .int y])) => (x, y) | _ => (0, 0)) = p
    rcases h1 with h1 | ⟨o, h1⟩ <;> rw [h1]⟩
theorem keys_of {K : PySem.W.Frag} {F : Hp} : ∀ {ps : List (Int × Int)} {vs : List V}, Rps K F (ps.map prD) vs → vs.map (keyV F) = ps ∧ ∀ v ∈ vs, Rp K F (prD (keyV F v)) v
  | [], _, h => by simp only [List.map_nil, Rps] at h; subst h; exact ⟨rfl, fun _ z => (nomatch z)⟩
  | p :: ps, _, h => by
    simp only [List.map_cons, Rps] at h
    obtain ⟨v, r, rfl, h1, h2⟩ := h
    obtain ⟨_, _, _, e⟩ := key_of h1
    obtain ⟨i1, i2⟩ := keys_of h2
    refine ⟨by rw [List.map_cons, e, i1], fun u hu => ?_⟩
    rcases List.mem_cons.mp hu with rfl | hu
    · rw [e]; exact h1
    · exact i2 u hu
theorem rps_keys {K : PySem.W.Frag} {F : Hp} : ∀ {vs : List V}, (∀ v ∈ vs, Rp K F (prD (keyV F v)) v) → Rps K F ((vs.map (keyV F)).map prD) vs
  | [], _ => rps_nil
  | v :: vs, h => rps_cons (h v (by simp)) (rps_keys fun u hu => h u (by simp [hu]))
theorem ck_sortP {K : PySem.W.Frag} : CallOkM K (rSortedPR K) oSortP := fun δ F H xs vs R Q hs hv ⟨x, ps, e, e2, hr⟩ b => by
  subst e
  obtain ⟨v, rfl, h1⟩ := vr1 hv
  obtain ⟨a, us, rfl, h2, h3⟩ := h1.lst hs e2
  obtain ⟨k1, k2⟩ := keys_of h3
  refine ⟨a, us, keyV F, rfl, SqL.of h2, fun x hx => ?_, fun ys p hsd hst hp => ?_⟩
  · obtain ⟨t, e3, e4, e5⟩ := key_of (k2 x hx)
    exact ⟨t, e3, rdS hs e4⟩
  · have hm : ∀ v ∈ ys, Rp K F (prD (keyV F v)) v := fun v hv => k2 v (hst.perm.mem_iff.mp hv)
    refine b ((ys.map (keyV F)).map prD) ys p (hr _ ?_ ?_) hp (rps_keys hm)
    · rw [← k1]; exact hst.perm.map _
    · rw [List.pairwise_map]
      refine List.Pairwise.imp (fun {u w} h => ?_) hsd
      have := SrtO.lexB_no.mp h
      omega
end DL
namespace DL
open PySem PySem.Spec PyProof.Rows L2
variable {X : Cx} {Y : Fx}
structure ItOkV (K : PySem.W.Frag) (δ : DkS) (J : It) (F1 H1 : Hp) (xs : List PyData) : Prop where
  go : ∀ (i : Nat) H, (∀ a o, a ∉ δ.own → H1 a = some o → isIns o = false → H a = some o) → Same F1 H → i < xs.length → J.go i H
  stop : ∀ (i : Nat) H, (∀ a o, a ∉ δ.own → H1 a = some o → isIns o = false → H a = some o) → Same F1 H → xs.length ≤ i → J.stop i H
  yld : ∀ (i : Nat) H v H' x, J.yld i H v H' → (∀ a o, a ∉ δ.own → H1 a = some o → isIns o = false → H a = some o) → ∀ F2, Same F1 F2 → Same F2 H → xs[i]? = some x → ∃ F3, Gp F2 H F3 H' ∧ Same F3 H' ∧ Rp K F3 x v
theorem ItOk.toV {K : PySem.W.Frag} {δ : DkS} {J : It} {F1 H1 : Hp} {xs : List PyData} (h : ItOk K J F1 xs) : ItOkV K δ J F1 H1 xs :=
  ⟨fun i H _ s q => h.go i H s q, fun i H _ s q => h.stop i H s q, fun i H v H' x hy _ F2 s1 s2 hx => h.use s1 s2 hy hx⟩
theorem itOkV_list {K : PySem.W.Frag} {δ : DkS} {F H1 : Hp} {a : Addr} {vs : List V} {ds : List PyData} (h : H1 a = some (.lst vs)) (na : a ∉ δ.own) (r : Rps K F ds vs) : ItOkV K δ (Itl K a) F H1 ds where
  go := fun i H k s hi => ⟨vs, vs[i]'(by rw [← r.length]; exact hi), SqL.of (k _ _ na h rfl), by simp⟩
  stop := fun i H k s hi => ⟨vs, SqL.of (k _ _ na h rfl), by rw [← r.length]; exact hi⟩
  yld := fun i H v H' x ⟨e, y⟩ k F2 s1 s2 hx => by
    have h1 := y vs (SqL.of (k _ _ na h rfl))
    obtain ⟨w, e1, e2⟩ := r.get hx
    rw [h1] at e1; cases e1
    subst e
    exact ⟨F2, Gp.refl, s2, Rp.mono s1 x v e2⟩
def upIv (Y : Fx) (K : PySem.W.Frag) (t : DSrc) : TI := fun σ H R => ∃ Z F ρ n Q, SR Y K Z F H σ ρ n ∧ t ρ n Q ∧
  ∀ xs n' F' H' J, Q xs n' → Gr Z.δ F H F' H' → Same F' H' → Z.δ.at_ K F' H' n' → ItOkV K Z.δ J F' H' xs → R J H'
abbrev DIv (Y : Fx) (X : Cx) (tg iter : Expr) (t : DSrc) : Prop := PI X tg iter (upIv Y X.K t)
theorem div_of {tg iter : Expr} {t : DSrc} (h : DI Y X tg iter t) : DIv Y X tg iter t := pi_imp h fun σ H R ⟨Z, F, ρ, n, Q, r, ht, k⟩ => ⟨Z, F, ρ, n, Q, r, ht, fun xs n' F' H' J q g s d w => k xs n' F' H' J q g s d w.toV⟩
def dSrcV (t : DTE) : DSrc := fun ρ n R => t ρ n fun x n' => ∃ ds, seqD x.toD = some ds ∧ R ds n'
theorem di_seqV {tg e : Expr} {t : DTE} (he : WE Y X e t) : DIv Y X tg e (dSrcV t) := pi_imp (pi_seq he) fun σ H R ⟨Z, F, ρ, n, Q, r, ht, k⟩ =>
  ⟨Z, F, ρ, n, _, r, ht, fun x n1 F1 H1 v ⟨ds, e, hx⟩ g1 s1 d1 w1 => by
    cases x with
    | dat d =>
      cases d with
      | list es =>
        cases e
        simp only [VR, Rp] at w1
        obtain ⟨a, vs, rfl, h1, h2⟩ := w1
        exact ⟨a, rfl, .inl ⟨vs, s1 _ _ h1, k _ _ _ _ _ hx g1 s1 d1 (itOk_list h1 h2).toV⟩⟩
      | tuple es =>
        cases e
        simp only [VR, Rp] at w1
        obtain ⟨a, vs, rfl, h1, h2⟩ := w1
        exact ⟨a, rfl, .inr ⟨vs, rdS s1 h1, k _ _ _ _ _ hx g1 s1 d1 (itOk_tup h1 h2).toV⟩⟩
      | _ => cases e
    | vw es =>
      cases e
      obtain ⟨a, vs, rfl, h1, h2, h3⟩ := w1
      exact ⟨a, rfl, .inl ⟨vs, h1, k _ _ _ _ _ hx g1 s1 d1 (itOkV_list h1 h3 h2)⟩⟩
    | mt es => exact w1.elim
    | deck b => cases e
    | md _ _ => exact w1.elim⟩
theorem comp_imv {K : PySem.W.Frag} {s : DSrc} {t : TG} {g : DTG} {sl : List Nat} {tt : DTT} {te : DTE} {vs : List Nat} (hg : GOk K t g sl) (hv : ∀ i ∈ sl, i ∈ vs) : ∀ σ H Q, upM Y K (mComp s g tt te vs) σ H Q → tLc (upIv Y K s) t (upT Y K tt) (up Y K te) vs σ H Q :=
  fun σ H Q ⟨Z, F, ρ, n, R, r, ht, k⟩ => ⟨Z, F, ρ, n, _, r, ht, fun xs n1 F1 H1 J ⟨⟨I, h0, hstep, hend⟩⟩ g1 s1 d1 w1 => by
    have r1 := r.step g1 s1 d1
    intro D hD
    have hD0 : H D = none := by
      cases e : H D with
      | none => rfl
      | some o => exact absurd hD (g1.dH D (by rw [e]; nofun))
    have nD : D ∉ Z.δ.own := fun q => (r1.b.dkF D q).2 hD
    refine ⟨fun i m H2 => m = xs.length - i ∧ i ≤ xs.length ∧ ∃ F2 acc n2 us, Gr Z.δ F1 H1 F2 H2 ∧ Same F2 H2 ∧ Z.δ.at_ K F2 H2 n2 ∧ F2 D = none ∧ H2 D = some (.lst us) ∧ Rps K F2 acc us ∧ I i acc n2, ⟨xs.length, by simp, Nat.zero_le _, ?_⟩, ?_⟩
    · obtain ⟨g2, s2⟩ := Gp.newM (o := .lst []) hD s1
      exact ⟨F1, [], n1, [], g2.gr, s2, g2.dk r1.b, s1.free hD, upd_same, rps_nil, h0⟩
    · rintro i m H2 ⟨rfl, hi, F2, acc, n2, us, g2, s2, d2, f2, hD2, ra, h2⟩
      by_cases hlt : i < xs.length
      · refine .inr ⟨w1.go i H2 g2.kH (g2.sF.trans s2) hlt, fun H' => ∃ F2 acc n2 us, Gr Z.δ F1 H1 F2 H' ∧ Same F2 H' ∧ Z.δ.at_ K F2 H' n2 ∧ F2 D = none ∧ H' D = some (.lst us) ∧ Rps K F2 acc us ∧ I (i + 1) acc n2, fun H' q => ⟨xs.length - (i + 1), by omega, rfl, hlt, q⟩, fun v H3 hy => ?_⟩
        obtain ⟨x, hx⟩ : ∃ x, xs[i]? = some x := ⟨xs[i], by simp [hlt]⟩
        obtain ⟨F3, g3, s3, r3⟩ := w1.yld i H2 v H3 x hy g2.kH F2 g2.sF s2 hx
        have gg3 := g2.trans (g3.gr (δ := Z.δ))
        have r2 := (r1.step g2 s2 d2)
        have d3 := g3.dk r2.b
        have rw3 := (r1.step gg3 s3 d3).wipe vs
        have hD3 : H3 D = some (.lst us) := g3.sH _ _ hD2
        have f3 : F3 D = none := g3.nF D (by rw [hD2]; nofun) f2
        refine hg.im _ _ _ _ _ _ _ _ _ _ _ rw3 r3 (hstep i x acc n2 hx h2) fun σ4 ρ4 h4 r4 hw => ⟨by rw [hw vs hv, wipe_idem], ?_⟩
        refine ⟨Z, F3, ρ4, n2, _, r4, h4, fun b m5 F5 H5 h5 g5 s5 d5 => ?_⟩
        have hD5 : H5 D = some (.lst us) := g5.kH _ _ nD hD3 rfl
        have f5 : F5 D = none := g5.nF D (by rw [hD3]; nofun) f3
        have ra5 : Rps K F5 acc us := Rps.mono (g3.sF.trans g5.sF) acc us ra
        cases b with
        | false => exact ⟨F5, acc, m5, us, gg3.trans g5, s5, d5, f5, hD5, ra5, h5⟩
        | true =>
          refine ⟨Z, F5, ρ4, m5, _, r4.step g5 s5 d5, h5, fun y m6 F6 H6 v6 h6 g6 s6 d6 w6 => ?_⟩
          obtain ⟨d, rfl, hl, h6⟩ := needD_is h6
          have hD6 : H6 D = some (.lst us) := g6.kH _ _ nD hD5 rfl
          have f6 : F6 D = none := g6.nF D (by rw [hD5]; nofun) f5
          have ra6 : Rps K F6 acc us := Rps.mono g6.sF acc us ra5
          refine ⟨us, hD6, by rw [← ra.length]; exact hl, F6, acc ++ [d], m6, us ++ [v6], ?_, ?_, ?_, f6, upd_same, ra6.append (rps_cons w6 rps_nil), h6⟩
          · have gg6 := (gg3.trans g5).trans g6
            exact gg6.chg hD
          · exact fun a o e => by rw [upd_ne (ne_of_none e f6)]; exact s6 _ _ e
          · exact d6.chg nD hD6 rfl
      · have e : i = xs.length := by omega
        subst e
        exact .inl ⟨w1.stop _ H2 g2.kH (g2.sF.trans s2) (Nat.le_refl _), k _ _ _ _ _ _ (hend _ _ h2) (g1.trans g2) s2 d2 hD0 f2 hD2 ra⟩⟩
theorem me_compV {elt tg iter : Expr} {ifs : List Expr} {scope : Scope} {own : List (Str × Nat)} {pos : Pos} {s : DSrc} {t : TG} {g : DTG} {sl : List Nat} {tt : DTT} {te : DTE} (hc : X.calm = true) (hN : X.N.Nodup) (hi : DIv Y X tg iter s) (ok : BlkOk X.N X.env.scope scope own)
    (hk : GOk X.K t g sl) (hg : ∀ (s : Shared) (H : Hp) (C : Addr) (cl : List (Str × Addr)) (fp : List Addr), PG (X.blk s H scope (compEnvC scope cl C X.env) fp) tg t) (ht : ∀ (s : Shared) (H : Hp) (C : Addr) (cl : List (Str × Addr)) (fp : List Addr), WTs Y (X.blk s H scope (compEnvC scope cl C X.env) fp) ifs tt)
    (he : ∀ (s : Shared) (H : Hp) (C : Addr) (cl : List (Str × Addr)) (fp : List Addr), WE Y (X.blk s H scope (compEnvC scope cl C X.env) fp) elt te) (hv : ∀ i ∈ sl, i ∈ own.map (·.2)) (hs : ∀ x, foldedSetIterable iter X.env x = pure x := by intro _; rfl) :
    ME Y X (.ListComp elt [⟨tg, iter, ifs, 0⟩] scope pos) (mComp s g tt te (own.map (·.2))) :=
  pe_imp (pe_lc hc hN hi ok hg ht he hs) (comp_imv hk hv)
/-- name = [..] on one line -/
theorem ds_setLcV {i : Nat} {y : Str} {py : Pos} {elt tg iter : Expr} {ifs : List Expr} {scope : Scope} {own : List (Str × Nat)} {pos spos : Pos} {s : DSrc} {t : TG} {g : DTG} {sl : List Nat} {tt : DTT} {te : DTE} {u : DTE} (hc : X.calm = true) (hN : X.N.Nodup) (hy : X.N[i]? = some y) (hyl : X.env.scope.names.lookup y = some .local)
    (hsw : swapsWith (.ListComp elt [⟨tg, iter, ifs, 0⟩] scope pos) (some (.Name y py)) spos.line X.env = pure true) (hi : DIv Y X tg iter s) (ok : BlkOk X.N X.env.scope scope own)
    (hk : GOk X.K t g sl) (hg : ∀ (s : Shared) (H : Hp) (C : Addr) (cl : List (Str × Addr)) (fp : List Addr), PG (X.blk s H scope (compEnvC scope cl C X.env) fp) tg t) (ht : ∀ (s : Shared) (H : Hp) (C : Addr) (cl : List (Str × Addr)) (fp : List Addr), WTs Y (X.blk s H scope (compEnvC scope cl C X.env) fp) ifs tt)
    (he : ∀ (s : Shared) (H : Hp) (C : Addr) (cl : List (Str × Addr)) (fp : List Addr), WE Y (X.blk s H scope (compEnvC scope cl C X.env) fp) elt te) (hv : ∀ i ∈ sl, i ∈ own.map (·.2))
    (hu : ∀ σ H Q, upX Y X.K u σ H Q → upM Y X.K (mComp s g tt te (own.map (·.2))) σ H Q) (hs : ∀ x, foldedSetIterable iter X.env x = pure x := by intro _; rfl) :
    DS Y X (.Assign [.Name y py] (.ListComp elt [⟨tg, iter, ifs, 0⟩] scope pos) spos) (dAsg i u) :=
  ps_imp (ps_setLc hc hN hy hyl hsw hi ok hg ht he hs) fun D σ H h => by
    have h2 := asg_im D σ H h
    exact comp_imv hk hv _ _ _ (hu _ _ _ h2)
end DL
namespace DL
open PySem PySem.Spec PyProof.Rows L2
variable {X : Cx} {Y : Fx}
def rSetT (K : PySem.W.Frag) (w : World) : List V → Hp → VK → Prop := fun vs H Q => ∃ (a : Addr) (ns : List Int), vs = [.ref a] ∧ SqT K H a (ns.map V.int) ∧ ns.length ≤ 1000 ∧ ∀ p n, H p = none → n ≤ ns.length → Q (.ref p) (upd H p (SetO w p (fun j => decide (j ∈ ns)) n))
theorem cr_setT (hc : X.calm = true) : CallR X (.type "set") (rSetT X.K X.w) := by
  intro pins s σ H vs us Q I r h
  obtain ⟨a, ns, rfl, hs, hl, q⟩ := h
  obtain ⟨its, rv, p, hz⟩ := I.tuple hs
  rw [Vals.ref1 r]
  refine call_set_tupI ns (I.ok.hd hc) (show s.heap.IsTuple a its.toArray from p) (by simpa using intsAre_of rv) (Nat.lt_of_le_of_lt (Nat.succ_le_succ hl) (by decide)) fun h' tk c R hc' hk => ?_
  exact ⟨.ref _, upd H s.heap.objs.size (SetO X.w s.heap.objs.size (fun j => decide (j ∈ ns)) c), I.laid (t' := tk) hk (Nat.le_refl _) (setO_new R), rfl, q _ c (I.hok.fresh (Nat.le_refl _)) hc'⟩
def mSortSet (t : DTE) : DTM := fun ρ n R => t ρ n fun x n' => ∃ ns : List Int, x = .dat (.tuple (ns.map .int)) ∧ ns.length ≤ 60 ∧ ∀ ms : List Int, ms.Pairwise (· < ·) → (∀ k, k ∈ ms ↔ k ∈ ns) → R (ms.map .int) n'
theorem me_sortedSet {e : Expr} {t : DTE} {p p2 pos pos2 : Pos} (hc : X.calm = true) (hg : Gl X "sorted") (hm : X.mg "sorted" = none) (hg2 : Gl X "set") (hm2 : X.mg "set" = none) (he : WE Y X e t)
    (h1 : starEach [e] X.env = (false, eval e X.env) :: starEach [] X.env := by rfl) (h2 : (backTo pos2 (starEach [] X.env)).any (·.1) = false := by rfl)
    (h3 : starEach [.Call (.Name "set" p2) [e] [] pos2] X.env = (false, eval (.Call (.Name "set" p2) [e] [] pos2) X.env) :: starEach [] X.env := by rfl) (h4 : (backTo pos (starEach [] X.env)).any (·.1) = false := by rfl) :
    ME Y X (.Call (.Name "sorted" p) [.Call (.Name "set" p2) [e] [] pos2] [] pos) (mSortSet t) :=
  pe_imp (pe_callB (cr_sortedSet hc) hg hm PyProof.Rows.boot_sorted (pa_cons (pe_callTy (cr_setT hc) hg2 hm2 (by rfl) (pa_cons he pa_nil h1) (by decide) (by decide) h1 h2) pa_nil h3) (by decide) (by decide) h3 h4) fun σ H Q ⟨Z, F, ρ, n, R, r, ht, k⟩ =>
    ⟨Z, F, ρ, n, _, r, ht, fun x n1 F1 H1 v hx g1 s1 d1 w1 => by
      obtain ⟨ns, rfl, hl, hx⟩ := hx
      simp only [VR, Rp] at w1
      obtain ⟨a, us, rfl, e1, e2⟩ := w1
      rw [e2.ints] at e1
      have r1 := r.step g1 s1 d1
      refine ⟨a, ns, rfl, sqtR (rdS s1 e1), by omega, fun p c hp hcn => ⟨p, _, c, rfl, upd_same, by omega, fun ms q m1 m2 _ hq => ?_⟩⟩
      obtain ⟨g2, s2⟩ := Gp.newM (o := SetO X.w p (fun j => decide (j ∈ ns)) c) hp s1
      have r2 := r1.step g2.gr s2 (g2.dk r1.b)
      obtain ⟨g3, s3⟩ := Gp.newM (o := .lst (ms.map V.int)) hq s2
      have hq0 : H q = none := by
        cases e : H q with
        | none => rfl
        | some o => exact absurd hq ((g1.trans g2.gr).dH q (by rw [e]; nofun))
      exact k (ms.map .int) n1 F1 _ q _ (hx ms m1 fun k => (m2 k).trans (by simp)) ((g1.trans g2.gr).trans g3.gr) s3 (g3.dk r2.b) hq0 (s2.free hq) upd_same (rps_ints ms)⟩
end DL
namespace DL
open PySem PySem.Spec PyProof.Rows L2
variable {X : Cx} {Y : Fx}
theorem Rps.dropLast {K : PySem.W.Frag} {F : Hp} {ds : List PyData} {vs : List V} (h : Rps K F ds vs) : Rps K F ds.dropLast vs.dropLast := by
  rw [List.dropLast_eq_take, List.dropLast_eq_take, h.length]
  exact Rps.take _ h
end DL
namespace DL
open PySem PySem.Spec PyProof.Rows L2
variable {X : Cx} {Y : Fx}
def dAppPop (i j : Nat) (t : DTE) : DTS := fun E ρ n => ∃ xs ds, ρ[i]? = some (some (.mt xs)) ∧ ρ[j]? = some (some (.mt ds)) ∧ t ρ n fun x n' => ∃ (z : Int) (k : Nat) (d : PyData), x = .dat (.int z) ∧ (-(2 ^ 63) ≤ z ∧ z < 2 ^ 63) ∧ seqIndex? z ds.length = some k ∧ ds[k]? = some d ∧ xs.length < sizeLine ∧
  E.nx ((ρ.set j (some (.mt (ds.eraseIdx k)))).set i (some (.mt (xs ++ [d])))) n'
theorem ds_appPop {i j : Nat} {o o2 e : Expr} {t : DTE} {apos cpos apos2 cpos2 pos : Pos} (hij : i ≠ j) (ho : PE X o (tVar i)) (ho2 : PE X o2 (tVar j)) (he : WE Y X e t)
    (hbase : attributeBase o "append" X.env (eval o X.env) = eval o X.env := by rfl)
    (hfew : ((backTo cpos (starEach [.Call (.Attribute o2 "pop" apos2) [e] [] cpos2] X.env)).all (fun x => !x.1) && (backToKw cpos (keywordEach [] X.env)).all (fun x => x.1.isSome)
      && decide (([.Call (.Attribute o2 "pop" apos2) [e] [] cpos2] : List Expr).length + ([] : List Keyword).length + (if ([] : List Keyword).isEmpty then 0 else 1) < 30)) = true := by rfl)
    (hline : (apos.endLine == cpos.line) = true := by rfl) (hst : starEach [.Call (.Attribute o2 "pop" apos2) [e] [] cpos2] X.env = (false, eval (.Call (.Attribute o2 "pop" apos2) [e] [] cpos2) X.env) :: starEach [] X.env := by rfl) (hplain : (backTo cpos (starEach [] X.env)).any (·.1) = false := by rfl)
    (hbase2 : attributeBase o2 "pop" X.env (eval o2 X.env) = eval o2 X.env := by rfl)
    (hfew2 : ((backTo cpos2 (starEach [e] X.env)).all (fun x => !x.1) && (backToKw cpos2 (keywordEach [] X.env)).all (fun x => x.1.isSome)
      && decide (([e] : List Expr).length + ([] : List Keyword).length + (if ([] : List Keyword).isEmpty then 0 else 1) < 30)) = true := by rfl)
    (hline2 : (apos2.endLine == cpos2.line) = true := by rfl) (hst2 : starEach [e] X.env = (false, eval e X.env) :: starEach [] X.env := by rfl) (hplain2 : (backTo cpos2 (starEach [] X.env)).any (·.1) = false := by rfl)
    (hs : swapsWith (.Call (.Attribute o "append" apos) [.Call (.Attribute o2 "pop" apos2) [e] [] cpos2] [] cpos) none pos.line X.env = pure false := by rfl) :
    DS Y X (.Expr (.Call (.Attribute o "append" apos) [.Call (.Attribute o2 "pop" apos2) [e] [] cpos2] [] cpos) pos) (dAppPop i j t) :=
  ps_imp (ps_expr (pe_bm PySem.F.plainAttrs_list PySem.F.slot_list_append PySem.F.type_list_append mt_append ho (pa_cons (pe_bm PySem.F.plainAttrs_list PySem.F.slot_list_pop PySem.F.type_list_pop mt_popAt ho2 (pa_cons he pa_nil hst2) hbase2 hfew2 hline2 hst2 hplain2) pa_nil hst) hbase hfew hline hst hplain) hs) fun D σ H ⟨Z, F, ρ, n, E, r, ⟨xs, ds, e1, e2, ht⟩, k⟩ => by
    obtain ⟨b, us, p1, p2, p3⟩ := r.own e1
    obtain ⟨a, vs, q1, q2, q3⟩ := r.own e2
    refine ⟨_, p1, .inl ⟨rfl, us, SqL.of p2⟩, _, q1, .inl ⟨rfl, vs, SqL.of q2⟩, Z, F, ρ, n, _, r, ht, fun x n1 F1 H1 u hx g1 s1 d1 wx => ?_⟩
    obtain ⟨z, kk, d, rfl, hz, hk, hd, hl, hx⟩ := hx
    have r1 := r.step g1 s1 d1
    obtain ⟨a', vs', q5, q6, q7⟩ := r1.own e2
    rw [q1] at q5; cases q5
    obtain ⟨y, hy, ry⟩ := q7.get hd
    simp only [VR, Rp] at wx
    subst wx
    refine ⟨a, vs', z, kk, y, rfl, rfl, q6, hz.1, hz.2, by rw [← q7.length]; exact hk, hy, ?_⟩
    have r2 := r1.mut e2 q1 (q7.erase kk)
    have e1' : (ρ.set j (some (.mt (ds.eraseIdx kk))))[i]? = some (some (.mt xs)) := by rw [List.getElem?_set_ne (Ne.symm hij)]; exact e1
    obtain ⟨b', us', t5, t6, t7⟩ := r2.own e1'
    rw [p1] at t5; cases t5
    exact ⟨b, us', y, rfl, rfl, t6, by rw [← t7.length]; exact hl, k.nx _ _ _ _ _ hx (r2.mut e1' p1 (t7.append (rps_cons ry rps_nil)))⟩
end DL
namespace DL
open PySem PySem.Spec PyProof.Rows L2
variable {X : Cx} {Y : Fx}
section
variable {prog : Program} {w : World} {A : Around} {E : Value → Shared → Prop} {s : Shared}
theorem collectT {l : Addr} {vs : List Value} {Q : List Value → Shared → Prop} (hl : s.heap.IsTuple l vs.toArray) (hz : vs.length ≤ sizeLine)
    (h : Q vs { s with heap := (s.heap.push (seqObj "list" #[] 0)).update s.heap.objs.size (Obj.mapSeq (· ++ vs.toArray)) }) : wpAny (model prog w) A (collect (.ref l)) Q E s := by
  obtain ⟨o, ho, hc, n, hd⟩ := id hl
  have hnew : (s.heap.push (seqObj "list" #[] 0)).get? s.heap.objs.size = some (seqObj "list" #[] 0) := Heap.get?_push_size _ rfl
  have hold : (s.heap.push (seqObj "list" #[] 0)).get? l = some o := Heap.get?_push_of_some _ ho
  have tnew : Code.quiet (.builtin "list.__iadd__" ⟨[.ref s.heap.objs.size, .ref l], []⟩) = true := Code.quiet_builtin _ (by decide +kernel)
  have grown := get?_update_seq hnew (· ++ vs.toArray)
  have fit : (#[] ++ vs.toArray : Array Value).size ≤ sizeLine + 1 := by simp only [Array.size_append, List.size_toArray, List.length_nil]; omega
  have back : ((#[] : Array Value) ++ vs.toArray).toList = vs := by simp
  unfold collect
  refine wpAny_bind (wpAny_runValue (codeAny_builtin entry_proto_collect' (wpAny_bind (m := newList []) (wpAny_newList (wpAny_pure ⟨tnew, codeAny_builtin entry_list_iadd' ?_⟩)))))
  show wpAny _ _ (Builtin.List.listExtendWith (.ref s.heap.objs.size) (.ref l) (.ref s.heap.objs.size)) _ _ ({ s with heap := s.heap.push (seqObj "list" #[] 0) } : Shared)
  unfold Builtin.List.listExtendWith
  have two : (Builtin.List.listSameRef (.ref s.heap.objs.size) (.ref l) || (Value.type "tuple" == Value.type "list") || (Value.type "tuple" == Value.type "tuple")) = true := by rw [Bool.or_eq_true]; exact .inr rfl
  refine wpAny_bind (wpAny_typeOf (T := "tuple") ⟨o, hold, hc⟩ ?_)
  rw [if_pos two]
  refine wpAny_bind (listItems_at hold hd (wpAny_bind (listItems_at hnew rfl ?_)))
  have mt0 : ¬ ((!(#[] : Array Value).isEmpty && Builtin.List.listTooLong ((#[] : Array Value).size + vs.toArray.size)) = true) := by simp
  rw [if_neg mt0]
  refine wpAny_bind (listUpdate_at hnew rfl (wpAny_pure ?_) (Nat.zero_le _) fit)
  refine wpAny_bind (m := load s.heap.objs.size) (wpAny_load grown ?_)
  show wpAny _ _ (Pure.pure ((#[] : Array Value) ++ vs.toArray).toList) Q E _
  rw [back]
  exact wpAny_pure h
/-- sorted(t): the collected list at size, the new one behind it -/
theorem sortedT {l : Addr} {vs : List Value} {ltv : Value → Value → Bool} {Q : Value → Shared → Prop} (O : SrtO.Swo ltv) (hl : s.heap.IsTuple l vs.toArray) (hz : vs.length ≤ sizeLine)
    (hS : 2 ≤ vs.length → ∀ (h₁ : Heap) (a : Addr), SrtO.SortableO prog w A.in1.in1 { s with heap := h₁ } a vs ltv)
    (h : ∀ out : List Value, SrtO.Srtd ltv out → SrtO.Stb ltv out vs → Q (.ref (s.heap.objs.size + 1)) { s with heap := sortedAll s.heap vs out.toArray }) : wpAny (model prog w) A (call (.builtin "sorted") [.ref l]) Q E s := by
  have sz1 : ((s.heap.push (seqObj "list" #[] 0)).update s.heap.objs.size (Obj.mapSeq (· ++ vs.toArray))).objs.size = s.heap.objs.size + 1 := (Heap.size_update ..).trans (size_push' ..)
  have at1 := Heap.get?_push_size ((s.heap.push (seqObj "list" #[] 0)).update s.heap.objs.size (Obj.mapSeq (· ++ vs.toArray))) (o := seqObj "list" vs.toArray 0) rfl
  refine Calls.call_function_entry kind_sorted plain_sorted entry_sorted (args_sorted1 _) ?_
  unfold Builtin.«sorted»
  refine wpAny_bind (m := checkCount "sorted" 1 1 _) (wpAny_pure (wpAny_bind (collectT hl hz (wpAny_bind (wpAny_newList ?_ hz)))))
  rw [sz1] at at1 ⊢
  exact wpAny_bind (wpAny_holding (wpAny_call_entry slot_list_sort ⟨_, at1, rfl⟩ entry_list_sort (SrtO.list_sort_ord O at1 hz (fun h2 => hS h2 _ _) fun out hs hb => ⟨_, rfl, wpAny_pure ⟨_, rfl, h out hs hb⟩⟩) (args_list_sort _)))
end
def rSortIT (K : PySem.W.Frag) : List V → Hp → VK → Prop := fun vs H Q => ∃ (a : Addr) (ns : List Int), vs = [V.ref a] ∧ SqT K H a (ns.map V.int) ∧
  ∀ (ns' : List Int) (p : Addr), ns'.Perm ns → ns'.Pairwise (· ≤ ·) → H p = none → Q (.ref p) (upd H p (.lst (ns'.map V.int)))
theorem cr_sortIT : CallR X (.builtin "sorted") (rSortIT X.K) := by
  intro pins s σ H vs us Q I r ⟨a, ns, e, hs, q⟩
  subst e
  obtain ⟨its, rv, hl, hz⟩ := I.tuple hs
  have hi := rv.ints
  rw [Vals.ref1 r]
  refine sortedT SrtO.swo_int (show s.heap.IsTuple a its.toArray from hl) (by rw [← rv.length]; exact hz) (fun h2 h₁ a' => SrtO.ints_sortable hi h2) fun out h1 h2 => ?_
  obtain ⟨k1, k2, k3⟩ := SrtO.ints_out hi h1 h2
  obtain ⟨ep, he'⟩ := PyProof.Rows.sortedAll_at s.heap its out.toArray
  have hlen : ((out.map SrtO.iv).map V.int).length ≤ sizeLine := by
    have := k2.length_eq
    rw [List.length_map] at hz ⊢
    omega
  have inv := I.laid (t' := s.toks) (fun _ _ => PyProof.Rows.sortedAll_old) (Nat.le_succ _) (a := s.heap.objs.size + 1) (o := .lst ((out.map SrtO.iv).map V.int)) ⟨hlen, out, ep, vals_of_ints k1, he'⟩
  exact ⟨.ref _, _, inv, rfl, q _ _ k2 k3 (I.hok.fresh (Nat.le_succ _))⟩
def oSortIT : DCM := fun xs R => ∃ x, ∃ ns : List Int, xs = [x] ∧ x.toD = .tuple (ns.map .int) ∧ ∀ ns' : List Int, ns'.Perm ns → ns'.Pairwise (· ≤ ·) → R (ns'.map .int)
theorem ck_sortIT {K : PySem.W.Frag} : CallOkM K (rSortIT K) oSortIT := fun δ F H xs vs R Q hs hv ⟨x, ns, e, e2, hr⟩ b => by
  subst e
  obtain ⟨v, rfl, h1⟩ := vr1 hv
  obtain ⟨a, us, rfl, h2, h3⟩ := h1.tpl hs e2
  rw [h3.ints] at h2
  exact ⟨a, ns, rfl, sqtR (rdS hs h2), fun ns' p k1 k2 hp => b _ _ _ (hr ns' k1 k2) hp (rps_ints ns')⟩
end DL
set_option maxHeartbeats 4000000
namespace DL
open PySem PySem.Spec PyProof.Rows L2
variable {X : Cx} {Y : Fx}
/-- what may be shown, with dicts -/
structure TameE (m k : Nat) (d : PyData) : Prop where
  sh : d.showable = true
  dp : d.depth ≤ k
  le : d.shown.length ≤ m
theorem TameE.mono {m k m' k' : Nat} {d : PyData} (h : TameE m k d) (h1 : m ≤ m') (h2 : k ≤ k') : TameE m' k' d := ⟨h.sh, Nat.le_trans h.dp h2, Nat.le_trans h.le h1⟩
theorem Tame.e {m k : Nat} {d : PyData} (h : Tame m k d) : TameE m k d := ⟨h.sh, h.dp, Nat.le_trans (shown_le d h.cl) h.le⟩
theorem texts_le {m : Nat} : ∀ {ds : List PyData}, (∀ d ∈ ds, d.shown.length ≤ m) → ((PyData.shownAll ds).map fun t => t.length + 2).sum ≤ ds.length * (m + 2)
  | [], _ => by simp [PyData.shownAll]
  | d :: ds, h => by
    have h1 := h d (by simp)
    have h2 := texts_le (ds := ds) fun e he => h e (by simp [he])
    simp only [PyData.shownAll, List.map_cons, List.sum_cons, List.length_cons, Nat.add_mul]
    omega
theorem tameE_tuple {m k l : Nat} {ds : List PyData} (h : ∀ d ∈ ds, TameE m k d) (hl : ds.length ≤ l) : TameE (l * (m + 2) + 3) (k + 1) (.tuple ds) :=
  ⟨by simp only [PyData.showable]; exact showAll fun d hd => (h d hd).sh, by simp only [PyData.depth]; exact Nat.succ_le_succ (depthAll_le fun d hd => (h d hd).dp), by
    simp only [PyData.shown]
    have := texts_le fun d hd => (h d hd).le
    have := Nat.mul_le_mul_right (m + 2) hl
    have := tupleText_le (PyData.shownAll ds)
    omega⟩
end DL
namespace DL
open PySem PySem.Spec PyProof.Rows L2
variable {X : Cx} {Y : Fx}
def dPar3W (i j l : Nat) (t u w : DTE) : DTS := fun E ρ n => t ρ n fun x n1 => needD x fun d1 => u ρ n1 fun y n2 => needD y fun d2 => w ρ n2 fun z n3 => needD z fun d3 => E.nx (((ρ.set i (some (.dat d1))).set j (some (.dat d2))).set l (some (.dat d3))) n3
theorem ds_par3W {i j l : Nat} {x y z : Str} {a b c : Expr} {t u w : DTE} {px py pz pt pos : Pos} {kt k2 pt2} (hc : X.calm = true) (hN : X.N.Nodup) (hi : X.N[i]? = some x) (hj : X.N[j]? = some y) (hl : X.N[l]? = some z) (hij : i ≠ j) (hil : i ≠ l) (hjl : j ≠ l)
    (hx : X.env.scope.names.lookup x = some .local) (hy : X.env.scope.names.lookup y = some .local) (hz : X.env.scope.names.lookup z = some .local) (ha : WE Y X a t) (hb : WE Y X b u) (he : WE Y X c w)
    (hw : swappedStores [.Tuple [.Name x px, .Name y py, .Name z pz] kt pt] (.Tuple [a, b, c] k2 pt2) X.env = pure (some [x, y, z]))
    (hs : swapsWithSole [.Tuple [.Name x px, .Name y py, .Name z pz] kt pt] (.Tuple [a, b, c] k2 pt2) pos.line X.env = pure false := by rfl)
    (h1 : starEach [a, b, c] X.env = (false, eval a X.env) :: starEach [b, c] X.env := by rfl) (h2 : starEach [b, c] X.env = (false, eval b X.env) :: starEach [c] X.env := by rfl) (h3 : starEach [c] X.env = (false, eval c X.env) :: starEach [] X.env := by rfl) :
    DS Y X (.Assign [.Tuple [.Name x px, .Name y py, .Name z pz] kt pt] (.Tuple [a, b, c] k2 pt2) pos) (dPar3W i j l t u w) :=
  ps_imp (ps_par3 hc hN hi hj hl hij hil hjl hx hy hz (pa_cons ha (pa_cons hb (pa_cons he pa_nil h3) h2) h1) hw hs) fun D σ H ⟨Z, F, ρ, n, E, r, ht, k⟩ =>
    ⟨Z, F, ρ, n, _, r, ht, fun x1 n1 F1 H1 v1 hx1 g1 s1 d1 w1 => by
      obtain ⟨e1, rfl, hx1⟩ := needD_is hx1
      exact ⟨Z, F1, ρ, n1, _, r.step g1 s1 d1, hx1, fun x2 n2 F2 H2 v2 hx2 g2 s2 d2 w2 => by
        obtain ⟨e2, rfl, hx2⟩ := needD_is hx2
        exact ⟨Z, F2, ρ, n2, _, (r.step g1 s1 d1).step g2 s2 d2, hx2, fun x3 n3 F3 H3 v3 hx3 g3 s3 d3 w3 => by
          obtain ⟨e3, rfl, hx3⟩ := needD_is hx3
          have r3 := ((r.step g1 s1 d1).step g2 s2 d2).step g3 s3 d3
          exact ⟨v1, v2, v3, rfl, k.nx _ _ _ _ _ hx3 (((r3.setD i (Rp.mono g3.sF _ _ (Rp.mono g2.sF _ _ w1))).setD j (Rp.mono g3.sF _ _ w2)).setD l w3)⟩⟩⟩⟩
end DL
set_option maxHeartbeats 4000000
namespace DL
open PySem PySem.Spec PyProof.Rows L2
/-- the pairs that were given out -/
def ZPairs (S : Nat) (xs ys : Array Value) (i : Nat) (h : Heap) : Prop := ∀ j, j < i → ∃ x y, xs[j]? = some x ∧ ys[j]? = some y ∧ IsPair h (S + 1 + j) x y
theorem ZPairs.keep {S i : Nat} {xs ys : Array Value} {h h' : Heap} (p : ZPairs S xs ys i h) (k : ∀ b o, S < b → h.get? b = some o → h'.get? b = some o) : ZPairs S xs ys i h' := fun j hj => by
  obtain ⟨x, y, e1, e2, e3⟩ := p j hj
  exact ⟨x, y, e1, e2, k _ _ (by omega) e3⟩
end DL
set_option maxHeartbeats 4000000
set_option maxHeartbeats 4000000
set_option maxHeartbeats 4000000
namespace DL
open PySem PySem.Spec PyProof.Rows L2
theorem Has.mono {P : Program} {w : World} {K : PySem.W.Frag} {mg : Str → Option Value} {base : Heap} {x : Str} {j k : Nat} {ps : List Str} {c : DSpec} (h : Has P w K mg base x j ps c) (hj : j ≤ k) : Has P w K mg base x k ps c := by
  obtain ⟨f, fd, h1, h2, h3, h4⟩ := h
  exact ⟨f, fd, h1, h2, h3, h4.mono hj⟩
end DL
set_option maxHeartbeats 4000000
namespace DL
open PySem PySem.Spec PyProof.Rows L2
structure FnGX (P : Program) (w : World) (K : PySem.W.Frag) (mg : Str → Option Value) (base : Heap) (k : Nat) (f : Addr) (fd : FuncData) (ps : List Str) (sp : Sp) : Prop where
  len : ∀ vs H Q E, sp vs H Q E → vs.length = ps.length
  run : ∀ (A : Around) (outer : List Env) (s : Shared) (H : Hp) (args : Args) (us : List Value) (vs : List V) (Q : VK) (E : XK), A.guards = some [] → Room k A → Env0 P w K mg base A outer s H →
    BindsTo s fd args (ps.zip us) → Vals vs us → sp vs H Q E → codeAny (model P w) A (.call (.ref f) args) (CR (L2.CX P w) outer P w H s Q E) s
section
variable {P : Program} {w : World} {K : PySem.W.Frag} {mg : Str → Option Value} {base : Heap} {j k : Nat} {f : Addr} {fd : FuncData} {ps : List Str} {sp : Sp}
theorem FnGX.mono (F : FnGX P w K mg base j f fd ps sp) (h : j ≤ k) : FnGX P w K mg base k f fd ps sp :=
  ⟨F.len, fun A outer s H args us vs Q E hg hr => F.run A outer s H args us vs Q E hg (hr.mono h)⟩
theorem FnG.x (F : FnG P w K mg base k f fd ps sp) : FnGX P w K mg base k f fd ps (fun vs H Q _ => sp vs H Q E0) :=
  ⟨fun vs H Q _ h => F.len vs H Q E0 h, fun A outer s H args us vs Q E hg hr e0 hb rv h => codeAny_mono (F.run A outer s H args us vs Q hg hr e0 hb rv h) fun q s' hq => by
    cases q with
    | error e => exact hq.elim
    | ok fl =>
      cases fl with
      | ret u => exact hq
      | next => exact hq
      | brk => exact hq
      | cont => exact hq⟩
theorem fngx_of {x qual : Str} {st : Stmt} {N : List Str} (F : Fun K x qual st f fd) (S : FnScope N ps (defScope st)) (len : ∀ vs H Q E, sp vs H Q E → vs.length = ps.length)
    (hb : ∀ (cdv : Value) (A : Around) (outer : List Env) (s : Shared) (H : Hp) (vs : List V) (Q : VK) (E : XK), A.guards = some [] → Room k (A.deeper (envOfC qual (defScope st) s.heap.objs.size f cdv)) → sp vs H Q E →
      ∃ t, PSs (cxOf (L2.CX P w) P w K mg base N qual (defScope st) f cdv A outer s H E) (defBody st) t ∧ t { nx := fun _ H' => Q .non H', rt := Q } (start N vs) H) : FnGX P w K mg base (k + 1) f fd ps sp := by
  refine ⟨len, fun A outer s H args us vs Q E hgd hr e0 hbi rv hsp => ?_⟩
  obtain ⟨oc, od, kV, doc, pm, an, cdv, ct, osl, rfl, lk, hcd⟩ := F.ex
  have hl := len _ _ _ _ hsp
  have kin : K.In s.heap := e0.mod.kin.keeps fun b o e => (e0.bs b o e).1
  have lim : s.heap.NoLimit := e0.mod.nolimit.keeps fun b o e => (e0.bs b o e).1
  refine Att.call_fn kin lim lk hcd hr.depth hbi (List.all_eq_true.mpr fun ⟨y, u⟩ hy => ?_) (fun s1 x => ?_) S.co S.gen S.kind
  · rcases S.par y (List.of_mem_zip hy).1 with q | q <;> simp [q]
  · obtain ⟨t, ht, hq⟩ := hb cdv A outer s H vs Q E hgd (hr.deeper _) hsp
    have I := inv_start (CX := L2.CX P w) (P := P) (w := w) (E := E) S hr.hd e0 hl rv x
    refine wpAny_mono (ht.run [] s1 (start N vs) H _ I hq) (fun fl s' hs => ?_) fun e s' hs => hs
    have fin : ∀ {σ' : L2.St} {H' : Hp} {v : V} {u : Value}, Inv (cxOf (L2.CX P w) P w K mg base N qual (defScope st) f cdv A outer s H E) [] σ' H' s' → RelV v u → Q v H' → CE outer P w H s Q u s' :=
      fun J r q => ⟨_, _, J.os, J.bare, J.base, J.hok, r, q⟩
    cases fl with
    | ret u =>
      obtain ⟨v, σ', H', J, r, q⟩ := hs
      exact fin J r q
    | next =>
      obtain ⟨σ', H', J, q⟩ := hs
      exact fin (v := V.non) (u := Value.none) J rfl q
    | brk => obtain ⟨_, _, _, q⟩ := hs; exact q.elim
    | cont => obtain ⟨_, _, _, q⟩ := hs; exact q.elim
end
section
variable {X : Cx} {k : Nat} {f : Addr} {fd : FuncData} {ps : List Str} {sp : Sp}
theorem runx_make {pins : List (Addr × Obj)} {σ : L2.St} {H : Hp} {s : Shared} {Q : VK} {E : XK} {C : Addr} {us : List Value} {vs : List V} (M : Mk X.K C f) (F : FnGX X.prog X.w X.K X.mg X.base k f fd ps sp) (hgd : X.A.guards = some []) (hr : Room (k + 1) X.A) (hb : Binds X.K fd ps [])
    (hx : PassesAt (L2.CX X.prog X.w) X σ E) (I : Inv X pins σ H s) (r : Vals vs us)
    (h : ∀ x dx, H x = none → H dx = none → dx ≠ x → sp (.ref x :: vs) (upd (upd H dx (.own x)) x (.ins C dx [])) (fun v H2 => v = .non ∧ Q (.ref x) H2) E) :
    wpAny (model X.prog X.w) X.A (call (.ref C) us) (EP X pins σ Q) X.xe s := by
  have hq := h (s.heap.objs.size + 1) s.heap.objs.size (I.hok.fresh (Nat.le_succ _)) (I.hok.fresh (Nat.le_refl _)) (Nat.ne_of_lt (Nat.lt_succ_self _))
  have I2 := Inv.made (C := C) I
  have r2 : Vals (V.ref (s.heap.objs.size + 1) :: vs) (Value.ref (s.heap.objs.size + 1) :: us) := .cons rfl r
  have hl : (Value.ref (s.heap.objs.size + 1) :: us ++ []).length = ps.length := by
    have e := r2.length
    rw [F.len _ _ _ _ hq] at e
    rw [List.append_nil]
    exact e.symm
  have hbi := hb _ (Value.ref (s.heap.objs.size + 1) :: us) I2.kIn hl
  rw [List.append_nil] at hbi
  refine wpAny_call (make_map (f := f) I.kIn M.makes M.init (beq_iff_eq.mp M.fn) (codeAny_mono (F.run _ X.stack _ _ ⟨Value.ref (s.heap.objs.size + 1) :: us, []⟩ (Value.ref (s.heap.objs.size + 1) :: us) _ _ E hgd (hr.make C us [])
    (I2.env0.make C us []) hbi r2 hq) fun r s' hq' => ?_))
  cases r with
  | error e => exact hx pins _ _ e s' I2 hq'
  | ok fl =>
    cases fl with
    | ret u =>
      obtain ⟨v, H', I3, rv, ev, q3⟩ := I2.after hq'
      subst ev
      exact ⟨rv, ⟨V.ref (s.heap.objs.size + 1), H', I3, rfl, q3⟩⟩
    | next => exact False.elim hq'
    | brk => exact False.elim hq'
    | cont => exact False.elim hq'
end
structure Ex where
  C : Addr
  fs : List (Str × PyData)
def ExR (K : PySem.W.Frag) (F : Hp) (ex : Ex) (cls : Value) (d : Option Addr) : Prop := cls = .ref ex.C ∧ XoAt K F ⟨cls, d, ex.fs⟩
theorem ExR.mono {K : PySem.W.Frag} {F F' : Hp} {ex : Ex} {cls : Value} {d : Option Addr} (h : ExR K F ex cls d) (e : Same F F') : ExR K F' ex cls d := ⟨h.1, h.2.mono e⟩
abbrev DSpecX := List Dv → Wo → (PyData → Wo → Prop) → (Ex → Wo → Prop) → Prop
def spDX (K : PySem.W.Frag) (m : Nat) (c : DSpecX) : Sp := fun vs H Q Eh => ∃ δ F as n R E, as.length = m ∧ VRs K δ F H as vs ∧ Same F H ∧ δ.at_ K F H n ∧ (∀ a, a ∈ δ.own → F a = none ∧ H a ≠ none) ∧ c as n R E ∧
  (∀ d n' F' H' v, R d n' → Gr δ F H F' H' → Same F' H' → δ.at_ K F' H' n' → Rp K F' d v → Q v H') ∧
  ∀ ex n' F' H' cls d, E ex n' → Gr δ F H F' H' → Same F' H' → δ.at_ K F' H' n' → ExR K F' ex cls d → Eh cls d H'
/-- what is wished of an error, at the slots -/
abbrev DW := Ex → Rho → Wo → Prop
def WOk (Y : Fx) (K : PySem.W.Frag) (dw : DW) (W : WX) : Prop := ∀ ex ρ n F H σ cls d Z, dw ex ρ n → SR Y K Z F H σ ρ n → ExR K F ex cls d → W cls d σ H
def dwN : DW := fun _ _ _ => False
theorem wok0 {Y : Fx} {K : PySem.W.Frag} : WOk Y K dwN (fun _ _ _ _ => False) := fun _ _ _ _ _ _ _ _ _ h _ _ => h
/-- THE RULE for a def that may raise: its body over data -/
theorem fndX {P : Program} {w : World} {K : PySem.W.Frag} {mg : Str → Option Value} {base : Heap} {x qual : Str} {st : Stmt} {f : Addr} {fd : FuncData} {N ps : List Str} {k : Nat} (c : DSpecX) (F : Fun K x qual st f fd) (S : FnScope N ps (defScope st))
    (hb : ∀ (cdv : Value) (A : Around) (outer : List Env) (s : Shared) (H : Hp) (Eh : XK), A.guards = some [] → Room k (A.deeper (envOfC qual (defScope st) s.heap.objs.size f cdv)) → ∀ (Y : Fx) (E : Ex → Wo → Prop), WOk Y K (fun ex _ n => E ex n) (fun cls d _ H => Eh cls d H) →
      Takes (cxOf (L2.CX P w) P w K mg base N qual (defScope st) f cdv A outer s H Eh) (fun cls d _ H => Eh cls d H) →
      ∃ t, DSs Y (cxOf (L2.CX P w) P w K mg base N qual (defScope st) f cdv A outer s H Eh) (defBody st) t ∧ ∀ as n R, as.length = ps.length → c as n R E → t { nx := fun _ n' => R .none n', rt := R } (startR N as) n) : FnGX P w K mg base (k + 1) f fd ps (spDX K ps.length c) := by
  refine fngx_of F S (fun vs H Q E ⟨δ, Fz, as, n, R, E', hl, w1, _⟩ => by rw [← Paired.length w1]; exact hl) fun cdv A outer s H vs Q Eh hgd hr ⟨δ, Fz, as, n, R, E, hl, w1, s1, d1, o1, hc, hk, hx⟩ => ?_
  obtain ⟨t, h1, h2⟩ := hb cdv A outer s H Eh hgd hr ⟨Fz, H, δ⟩ E (fun ex ρ n' F' H' σ cls d Z he r hd => hx _ _ _ _ _ _ he r.gr r.b.sub (by have q := r.b.dk; rw [r.de] at q; exact q) hd) (takes_of rfl rfl rfl rfl)
  exact ⟨_, h1, ⟨Fz, H, δ⟩, Fz, startR N as, n, _, sr_start w1 s1 d1 o1, h2 as n R hl hc, ⟨fun F' H' σ' ρ' n' q r' => hk _ _ _ _ _ q (Base.gr o1 r'.b) r'.b.sub r'.b.dk (by simp [Rp]), fun d n' F' H' v q b q2 => hk _ _ _ _ _ q (Base.gr o1 b) b.sub b.dk q2, fun _ _ _ _ _ q _ => q.elim, fun _ _ _ _ _ q _ => q.elim⟩⟩
end DL
set_option maxHeartbeats 4000000
namespace DL
open PySem PySem.Spec PyProof.Rows L2
def putD (f : Str) (d : PyData) : List (Str × PyData) → List (Str × PyData)
  | [] => [(f, d)]
  | (g, x) :: r => if g = f then (g, d) :: r else (g, x) :: putD f d r
section
variable {K : PySem.W.Frag} {F : Hp}
theorem FsR.lookup {f : Str} {d : PyData} : ∀ {fs : List (Str × PyData)} {vs : List (Str × V)}, FsR K F fs vs → fs.lookup f = some d → ∃ v, vs.lookup f = some v ∧ Rp K F d v
  | [], _, .nil, h => by cases h
  | (g, x) :: fs, _, .cons (b := (g', v)) (l₂ := vs) hr ht, h => by
    obtain ⟨e, hr⟩ := hr
    have e : g = g' := e
    subst e
    by_cases q : f = g
    · subst q
      have h2 : List.lookup f ((f, x) :: fs) = some x := by simp [List.lookup]
      rw [h2] at h
      cases h
      exact ⟨v, by simp [List.lookup], hr⟩
    · have q2 : (f == g) = false := by simpa using q
      have h2 : List.lookup f ((g, x) :: fs) = List.lookup f fs := by simp [List.lookup, q2]
      rw [h2] at h
      obtain ⟨w, e1, e2⟩ := FsR.lookup ht h
      exact ⟨w, by simp only [List.lookup, q2]; exact e1, e2⟩
theorem FsR.put {f : Str} {d : PyData} {v : V} (hd : Rp K F d v) : ∀ {fs : List (Str × PyData)} {vs : List (Str × V)}, FsR K F fs vs → FsR K F (putD f d fs) (putF f v vs)
  | [], _, .nil => .cons ⟨rfl, hd⟩ .nil
  | (g, x) :: fs, _, .cons (b := (g', u)) (l₂ := vs) hr ht => by
    obtain ⟨e, hr⟩ := hr
    have e : g = g' := e
    subst e
    unfold putD putF
    by_cases q : g = f
    · rw [if_pos q, if_pos q]; exact .cons ⟨rfl, hd⟩ ht
    · rw [if_neg q, if_neg q]; exact .cons ⟨rfl, hr⟩ (FsR.put hd ht)
theorem VR.ref {δ : DkS} {H : Hp} {a : Addr} {v : V} (h : VR K δ F H (.dat (refD a)) v) : v = .ref a := Rp.ref (K := K) (F := F) h
theorem vr_ref {δ : DkS} {H : Hp} {a : Addr} : VR K δ F H (.dat (refD a)) (.ref a) := rp_ref (K := K) (F := F)
theorem FsR.length {fs : List (Str × PyData)} {vs : List (Str × V)} (h : FsR K F fs vs) : fs.length = vs.length := Paired.length h
end
/-- a class whose instances are plain, and a field of it -/
structure FldC (K : PySem.W.Frag) (C : Addr) (f : Str) : Prop where
  c : Cls K C
  n : NoAttr K C f
section
variable {X : Cx} {Y : Fx}
/-- e.f -/
def dFld (K : PySem.W.Frag) (f : Str) (t : DTE) : DTE := fun ρ n R => t ρ n fun x n1 => ∃ a o d, x = .dat (refD a) ∧ n1.ob a = some o ∧ FldC K o.C f ∧ o.fs.lookup f = some d ∧ R (.dat d) n1
theorem we_fld {e : Expr} {f : Str} {t : DTE} {pos : Pos} (he : WE Y X e t) (hb : attributeBase e f X.env (eval e X.env) = eval e X.env := by rfl) : WE Y X (.Attribute e f pos) (dFld X.K f t) :=
  pe_imp (pe_fld he hb) fun σ H Q ⟨Z, F, ρ, n, R, r, ht, k⟩ => ⟨Z, F, ρ, n, _, r, ht, fun x n1 F1 H1 v ⟨a, o, d, ex, ho, hc, hl, hR⟩ g1 s1 d1 w1 => by
    subst ex
    obtain rfl := VR.ref w1
    obtain ⟨_, dx, vs, h2, h3⟩ := d1.2.1 a o ho
    obtain ⟨u, h4, h5⟩ := h3.lookup hl
    exact ⟨a, o.C, dx, vs, u, rfl, h2, hc.c, hc.n, h4, k _ _ _ _ _ hR g1 s1 d1 h5⟩⟩
/-- an object is written -/
theorem at_put {K : PySem.W.Frag} {δ : DkS} {F H : Hp} {n : Wo} {a dx : Addr} {o : Ob} {C : Addr} {vs vs' : List (Str × V)} {fs' : List (Str × PyData)} (h : δ.at_ K F H n) (ho : n.ob a = some o) (hH : H a = some (.ins o.C dx vs)) (hr : FsR K F fs' vs') :
    δ.at_ K F (upd H a (.ins o.C dx vs')) (n.put a ⟨o.C, fs'⟩) :=
  ⟨δ.stay H _ n.n (fun b hb => upd_ne fun q => by
      obtain ⟨xs, e⟩ := δ.lsts H n.n h.1 b hb
      rw [q, hH] at e
      cases e) h.1,
    ⟨fun b ob e => by
      have e : (if b = a then some ⟨o.C, fs'⟩ else n.ob b) = some ob := e
      by_cases q : b = a
      · rw [if_pos q] at e
        cases e
        subst q
        exact ⟨(h.2.1 b o ho).1, dx, vs', upd_same, hr⟩
      · rw [if_neg q] at e
        obtain ⟨h1, dx', us, h2, h3⟩ := h.2.1 b ob e
        exact ⟨h1, dx', us, by rw [upd_ne q]; exact h2, h3⟩, h.2.2⟩⟩
theorem gr_put {δ : DkS} {F H : Hp} {a dx C : Addr} {vs vs' : List (Str × V)} (hH : H a = some (.ins C dx vs)) : Gr δ F H F (upd H a (.ins C dx vs')) where
  sF := Same.refl _
  nF := fun _ _ h => h
  kH := fun b o _ e hi => by
    rw [upd_ne fun q => by rw [q, hH] at e; cases e; cases hi]
    exact e
  iH := fun b C' dx' fs e => by
    by_cases q : b = a
    · subst q
      rw [hH] at e
      cases e
      exact ⟨vs', upd_same⟩
    · exact ⟨fs, by rw [upd_ne q]; exact e⟩
  dH := fun b h => by
    by_cases q : b = a
    · subst q; rw [upd_same]; nofun
    · rw [upd_ne q]; exact h
theorem same_put {F H : Hp} {a : Addr} {u : HO} (hs : Same F H) (hF : F a = none) : Same F (upd H a u) := fun b o e => by
  rw [upd_ne (ne_of_none e hF)]; exact hs _ _ e
/-- o.f = e -/
def dFldS (K : PySem.W.Frag) (f : Str) (to te : DTE) : DTS := fun E ρ n => te ρ n fun y n1 => needD y fun d => to ρ n1 fun x n2 => ∃ a o, x = .dat (refD a) ∧ n2.ob a = some o ∧ FldC K o.C f ∧ o.fs.length < 1000 ∧ E.nx ρ (n2.put a ⟨o.C, putD f d o.fs⟩)
theorem ds_fld {o e : Expr} {f : Str} {to te : DTE} {pos pos' : Pos} (ho : WE Y X o to) (he : WE Y X e te) (hs : swapsWith e (some (.Attribute o f pos')) pos.line X.env = pure false := by rfl) : DS Y X (.Assign [.Attribute o f pos'] e pos) (dFldS X.K f to te) :=
  ps_imp (ps_fld ho he hs) fun D σ H ⟨Z, F, ρ, n, E, r, ht, k⟩ => ⟨Z, F, ρ, n, _, r, ht, fun y n1 F1 H1 v hy g1 s1 d1 w1 => by
    obtain ⟨d, rfl, hy⟩ := needD_is hy
    have r1 := r.step g1 s1 d1
    refine ⟨Z, F1, ρ, n1, _, r1, hy, fun x n2 F2 H2 u ⟨a, o, ex, ho, hc, hl, hx⟩ g2 s2 d2 w2 => ?_⟩
    subst ex
    obtain rfl := VR.ref w2
    obtain ⟨hF, dx, vs, h2, h3⟩ := d2.2.1 a o ho
    have hd : Rp X.K F2 d v := Rp.mono g2.sF d v w1
    refine ⟨a, o.C, dx, vs, rfl, h2, hc.c, hc.n, by rw [← h3.length]; exact hl, ?_⟩
    have r2 := r1.step g2 s2 d2
    exact k.nx _ _ _ _ _ hx (r2.step (gr_put h2) (same_put s2 hF) (at_put (C := o.C) d2 ho h2 (h3.put hd)))⟩
/-- o.f += e, ints -/
def dFldA (K : PySem.W.Frag) (f : Str) (to te : DTE) : DTS := fun E ρ n => to ρ n fun x n1 => ∃ a o i, x = .dat (refD a) ∧ n1.ob a = some o ∧ FldC K o.C f ∧ o.fs.lookup f = some (.int i) ∧
  te ρ n1 fun y n2 => ∃ j o', y = .dat (.int j) ∧ n2.ob a = some o' ∧ o'.C = o.C ∧ o'.fs.length < 1000 ∧ E.nx ρ (n2.put a ⟨o'.C, putD f (.int (i + j)) o'.fs⟩)
theorem ds_fldA {o e : Expr} {f : Str} {to te : DTE} {pos tpos : Pos} (ho : WE Y X o to) (he : WE Y X e te) : DS Y X (.AugAssign (.Attribute o f tpos) .Add e pos) (dFldA X.K f to te) :=
  ps_imp (ps_fldaug ho he in_add) fun D σ H ⟨Z, F, ρ, n, E, r, ht, k⟩ => ⟨Z, F, ρ, n, _, r, ht, fun x n1 F1 H1 v ⟨a, o, i, ex, ho, hc, hl, hy⟩ g1 s1 d1 w1 => by
    subst ex
    obtain rfl := VR.ref w1
    obtain ⟨hF, dx, vs, h2, h3⟩ := d1.2.1 a o ho
    obtain ⟨u, h4, h5⟩ := h3.lookup hl
    simp only [Rp] at h5
    subst h5
    have r1 := r.step g1 s1 d1
    refine ⟨a, o.C, dx, vs, .int i, rfl, h2, hc.c, hc.n, h4, Z, F1, ρ, n1, _, r1, hy, fun y n2 F2 H2 w ⟨j, o', ey, ho', hC, hlt, hx⟩ g2 s2 d2 w2 => ?_⟩
    subst ey
    simp only [VR, Rp] at w2
    subst w2
    obtain ⟨hF2, dx2, vs2, h6, h7⟩ := d2.2.1 a o' ho'
    have r2 := r1.step g2 s2 d2
    refine ⟨i, j, rfl, rfl, dx2, vs2, by rw [h6, hC], by rw [← h7.length]; exact hlt, ?_⟩
    rw [← hC]
    exact k.nx _ _ _ _ _ hx (r2.step (gr_put h6) (same_put s2 hF2) (at_put (C := o'.C) d2 ho' h6 (h7.put (by simp [Rp]))))⟩
theorem obN {K : PySem.W.Frag} {δ : DkS} {F H : Hp} {n : Wo} {x : Addr} (h : δ.at_ K F H n) (hx : H x = none) : n.ob x = none := by
  cases e : n.ob x with
  | none => rfl
  | some o =>
    obtain ⟨_, _, _, h2, _⟩ := h.2.1 x o e
    rw [hx] at h2; cases h2
theorem gr_mk {δ : DkS} {F H : Hp} {x dx : Addr} {u w : HO} (hx : H x = none) (hd : H dx = none) : Gr δ F H F (upd (upd H dx w) x u) :=
  (Gr.refl.chg hd).chg hx
theorem same_mk {F H : Hp} {x dx : Addr} {u w : HO} (hs : Same F H) (hx : H x = none) (hd : H dx = none) : Same F (upd (upd H dx w) x u) :=
  same_put (same_put hs (hs.free hd)) (hs.free hx)
theorem at_mk {K : PySem.W.Frag} {δ : DkS} {F H : Hp} {n : Wo} {x dx C : Addr} (hs : Same F H) (h : δ.at_ K F H n) (ho : ∀ a, a ∈ δ.own → F a = none ∧ H a ≠ none) (hx : H x = none) (hd : H dx = none) (hne : dx ≠ x) : δ.at_ K F (upd (upd H dx (.own x)) x (.ins C dx [])) (n.put x ⟨C, []⟩) := by
  have nd : dx ∉ δ.own := fun q => (ho dx q).2 hd
  have nx : x ∉ δ.own := fun q => (ho x q).2 hx
  have h1 := h.lay (u := .own x) nd hd
  have h2 := h1.lay (u := .ins C dx []) nx (by rw [upd_ne (Ne.symm hne)]; exact hx)
  refine ⟨h2.1, fun b ob e => ?_, h2.2.2⟩
  have e : (if b = x then some ⟨C, []⟩ else n.ob b) = some ob := e
  by_cases q : b = x
  · rw [if_pos q] at e
    cases e
    subst q
    exact ⟨hs.free hx, dx, [], upd_same, .nil⟩
  · rw [if_neg q] at e
    exact h2.2.1 b ob e
def dMake (C : Addr) (c : DSpecX) (dw : DW) (t : DTA) : DTE := fun ρ n R => t ρ n fun as n1 => ∀ x, n1.ob x = none → c (.dat (refD x) :: as) (n1.put x ⟨C, []⟩) (fun d n2 => d = .none ∧ R (.dat (refD x)) n2) fun ex n2 => dw ex ρ n2
theorem make_im {m : Nat} {C : Addr} {c : DSpecX} {dw : DW} {W : WX} {t : DTA} (ok : WOk Y X.K dw W) (hm : ∀ as n R E, c as n R E → as.length = m) : ∀ σ H Q, up Y X.K (dMake C c dw t) σ H Q → (upA Y X.K t) σ H fun vs H1 => ∀ x dx, H1 x = none → H1 dx = none → dx ≠ x →
    spDX X.K m c (.ref x :: vs) (upd (upd H1 dx (.own x)) x (.ins C dx [])) (fun v H2 => v = .non ∧ Q (.ref x) H2) (L2.WE W σ) :=
  fun σ H Q ⟨Z, F, ρ, n, R, r, ht, k⟩ => ⟨Z, F, ρ, n, _, r, ht, fun as n1 F1 H1 vs hx g1 s1 d1 w1 => fun x dx nx nd ne => by
    have r1 := r.step g1 s1 d1
    have gm : Gr Z.δ F1 H1 F1 (upd (upd H1 dx (.own x)) x (.ins C dx [])) := gr_mk nx nd
    have sm : Same F1 (upd (upd H1 dx (.own x)) x (.ins C dx [])) := same_mk s1 nx nd
    have dm := at_mk (C := C) s1 d1 r1.b.dkF nx nd ne
    have r2 := r1.step gm sm dm
    have hc := hx x (obN d1 nx)
    refine ⟨Z.δ, F1, _, _, _, _, hm _ _ _ _ hc, .cons vr_ref (Paired.mapP w1 fun a b h => h.step gm), sm, dm, r2.b.dkF, hc, fun d n2 F2 H2 v ⟨e, h2⟩ g2 s2 d2 w2 => ?_, fun ex n2 F2 H2 cls d h2 g2 s2 d2 w2 => ok _ _ _ _ _ _ _ _ _ h2 (r2.step g2 s2 d2) w2⟩
    subst e
    simp only [Rp] at w2
    exact ⟨w2, k _ _ _ _ _ h2 ((g1.trans gm).trans g2) s2 d2 vr_ref⟩⟩
theorem we_make {k : Nat} {C : Addr} {c : DSpecX} {dw : DW} {W : WX} {f : Addr} {fd : FuncData} {ps : List Str} {x : Str} {p pos : Pos} {e : Expr} {es : List Expr} {t : DTA} (tk : Takes X W) (ok : WOk Y X.K dw W) (M : Mk X.K C f) (F : FnGX X.prog X.w X.K X.mg X.base k f fd ps (spDX X.K ps.length c)) (hc : ∀ as n R E, c as n R E → as.length = ps.length) (hgd : X.A.guards = some []) (hr : Room (k + 1) X.A) (hg : Gl X x) (hm : X.mg x = some (.ref C)) (hb : Binds X.K fd ps [])
    (ha : WA Y X (e :: es) t) (hdb : (x == ("__debug__" : Str)) = false := by decide) (he : starEach (e :: es) X.env = (false, eval e X.env) :: starEach es X.env := by rfl) (hpl : (backTo pos (starEach es X.env)).any (·.1) = false := by rfl) :
    WE Y X (.Call (.Name x p) (e :: es) [] pos) (dMake C c dw t) :=
  ⟨fun pins s σ H Q I h => wpAny_Call_Name_kw (ld_glob I hg hm (PySem.W.callWith_K (h₀ := X.base) I.ok.mod.kin M.kp (thn (ha.run pos pins s σ H _ I (make_im (m := ps.length) ok hc σ H Q h)) fun us s1 ⟨vs, H1, I1, r, q⟩ => ⟨I1.kIn, runx_make M F hgd hr hb (passAt tk σ) I1 r q⟩) he hpl) hdb)⟩
/-- every class of PC has the method m, and it keeps c -/
def HasM (P : Program) (w : World) (K : PySem.W.Frag) (mg : Str → Option Value) (base : Heap) (PC : Addr → Prop) (m : Str) (k : Nat) (ps : List Str) (c : Addr → DSpecX) : Prop :=
  ∀ C, PC C → Cls K C ∧ ∃ g fd, Meth K C m g ∧ Binds K fd ps [] ∧ FnGX P w K mg base k g fd ps (spDX K ps.length (c C))
end
end DL
set_option maxHeartbeats 4000000
namespace DL
open PySem PySem.Spec PyProof.Rows L2
/-- what the __init__ of an error class with one field keeps -/
def spEI (C : Addr) (f : Str) : Sp := fun vs H Q _ => ∃ a v, vs = [.ref a, v] ∧ H a = some (exo a C none) ∧ ∀ dx, H dx = none → dx ≠ a → Q .non (upd (upd H dx (exd dx [(f, v)])) a (exo a C (some dx)))
theorem heap_back {H : Hp} {a d : Addr} {o u w x : HO} (ha : H a = none) (hne : d ≠ a) : upd (del (upd (upd (upd H a o) d u) a w) a) d x = upd H d x := by
  funext b
  by_cases h1 : b = d
  · subst h1; rw [upd_same, upd_same]
  · rw [upd_ne h1, upd_ne h1]
    by_cases h2 : b = a
    · subst h2; rw [del_same, ha]
    · rw [del_ne h2, upd_ne h2, upd_ne h1, upd_ne h2]
/-- what an error class of one field must have -/
structure ErrC (P : Program) (w : World) (K : PySem.W.Frag) (mg : Str → Option Value) (base : Heap) (x : Str) (C : Addr) (f : Str) : Prop where
  g : mg x = some (.ref C)
  T : OexC K C
  i : ∃ fI fd ps, PySem.W.findIn K (.ref C) "__init__" = some (some (.ref fI)) ∧ PySem.W.typeIn K (.ref fI) = some (.type "function") ∧ FnOk P w K mg base CX0 1 fI fd ps (spEI C f) ∧ Binds K fd ps []
/-- .. of none -/
structure ErrC0 (K : PySem.W.Frag) (mg : Str → Option Value) (x : Str) (C : Addr) : Prop where
  g : mg x = some (.ref C)
  kC : PySem.W.keepIn K (.ref C) = true
  e : PySem.W.excIn K C [.type "ValueError", .type "Exception", .type "BaseException", .type "object"] "ValueError.__new__" = true
  bP : PySem.W.subIn K (.ref C) (.type "BaseException") = some true
  tP : PySem.W.typeIn K (.ref C) = some (.type "type")
section
variable {X : Cx} {Y : Fx} {dw : DW} {W : WX}
def dRaise (C : Addr) (f : Str) (dw : DW) (t : DTE) : DTS := fun _ ρ n => t ρ n fun x n1 => needD x fun d => dw ⟨C, [(f, d)]⟩ ρ n1
theorem ds_raise {C : Addr} {x f : Str} {e : Expr} {t : DTE} {p pos pos2 : Pos} (hc : X.calm = true) (tk : Takes X W) (ok : WOk Y X.K dw W) (T : ErrC X.prog X.w X.K X.mg X.base x C f) (hr : Room 2 X.A) (hg : Gl X x) (ha : WE Y X e t)
    (hdb : (x == ("__debug__" : Str)) = false := by decide) (he : starEach [e] X.env = (false, eval e X.env) :: starEach [] X.env := by rfl) (hpl : (backTo pos (starEach [] X.env)).any (·.1) = false := by rfl) :
    DS Y X (.Raise (some (.Call (.Name x p) [e] [] pos)) none pos2) (dRaise C f dw t) := by
  obtain ⟨fI, fd, ps, i1, i2, i3, i4⟩ := T.i
  refine ps_imp (ps_raise hc tk (pmk_oex (k := 1) (ds := []) (dvs := []) T.T i1 i2 i3 hr i4 .nil pass0 hg T.g (pa_cons ha pa_nil he) hdb he hpl)) fun D σ H ⟨Z, F, ρ, n, E, r, ht, k⟩ => ?_
  refine ⟨Z, F, ρ, n, _, r, ht, fun y n1 F1 H1 v hy g1 s1 d1 w1 => ?_⟩
  obtain ⟨d, rfl, hy⟩ := needD_is hy
  refine ⟨(by decide : 1 ≤ 1000), fun a ha => ⟨a, v, rfl, upd_same, fun dx h1 h2 => ?_⟩⟩
  have hd1 : H1 dx = none := by rw [upd_ne h2] at h1; exact h1
  refine ⟨rfl, dx, [(f, v)], upd_same, by rw [upd_ne h2]; exact upd_same, hd1, ?_⟩
  rw [heap_back ha h2]
  have r1 := r.step g1 s1 d1
  obtain ⟨g2, s2⟩ := Gp.new (o := .xd [(f, v)]) hd1 s1
  exact ok _ _ _ _ _ _ _ _ _ hy (r1.step g2.gr s2 (g2.dk r1.b)) ⟨rfl, .inr ⟨dx, _, rfl, upd_same, .cons ⟨rfl, Rp.mono g2.sF d v w1⟩ .nil⟩⟩
def dRaise0 (C : Addr) (dw : DW) : DTS := fun _ ρ n => dw ⟨C, []⟩ ρ n
theorem pmk_err0 {C : Addr} {x : Str} {p pos : Pos} (T : ErrC0 X.K X.mg x C) (hg : Gl X x) (hdb : (x == ("__debug__" : Str)) = false := by decide) : PMk X (.Call (.Name x p) [] [] pos) (fun _ H Q => Q (.ref C) none H) := by
  intro pins s σ H Q I h
  refine wpAny_Call_Name_kw (ld_glob I hg T.g ?_ hdb)
  refine PySem.W.callWith_K0 I.kIn T.kC ?_
  obtain ⟨bm, N, nm, qn, bs, hdct, sn, sub, ab, col, dd, k0, k1, k2, k3, k5, mN, hC, hN, hni, Tl⟩ := exc_obj I.kIn T.e
  refine wpAny_call_exc_subT F.excBase_ValueError Tl hC hN hni (fun h' e hm => ?_) (Nat.zero_le _)
  exact mk_of I hm (raises_own T.bP T.tP) h (I.hok.gone hm.new)
theorem ds_raise0 {C : Addr} {x : Str} {p pos pos2 : Pos} (hc : X.calm = true) (tk : Takes X W) (ok : WOk Y X.K dw W) (T : ErrC0 X.K X.mg x C) (hg : Gl X x) (hdb : (x == ("__debug__" : Str)) = false := by decide) : DS Y X (.Raise (some (.Call (.Name x p) [] [] pos)) none pos2) (dRaise0 C dw) :=
  ps_imp (ps_raise hc tk (pmk_err0 T hg hdb)) fun D σ H ⟨Z, F, ρ, n, E, r, ht, k⟩ => ok _ _ _ _ _ _ _ _ _ ht r ⟨rfl, .inl ⟨rfl, rfl⟩⟩
/-- a def's entry, moved to where F stands -/
def Fx.at_ (Y : Fx) (F : Hp) : Fx := ⟨F, Y.H0, Y.δ⟩
end
end DL
set_option maxHeartbeats 4000000
namespace DL
open PySem PySem.Spec PyProof.Rows L2
/-- .. of a plain class -/
structure InsC (K : PySem.W.Frag) (C : Addr) : Prop where
  c : Cls K C
  ca : PySem.W.findIn K (.ref C) "__class__" = some (some (.builtin "object.__class__"))
  cg : PySem.W.specialIn K (.builtin "object.__class__") "__get__" = some (some (.builtin "getset_descriptor.__get__"))
  ct : PySem.W.takesIn K (.builtin "object.__class__") = some true
  mo : PySem.W.mroIn K C (.type "object") = some true
section
variable {X : Cx} {Y : Fx}
def TyDv (K : PySem.W.Frag) (n : Wo) (x : Dv) (ty : Value) : Prop := (isDR x = false ∧ ty = .type (tyD x.toD)) ∨ ∃ a o, x = .dat (refD a) ∧ n.ob a = some o ∧ InsC K o.C ∧ ty = .ref o.C
theorem TyDv.x {K : PySem.W.Frag} {δ : DkS} {F H : Hp} {n : Wo} {x : Dv} {v : V} {ty : Value} (h : TyDv K n x ty) (hv : VR K δ F H x v) (hs : Same F H) (hd : δ.at_ K F H n) : TyX K H v ty := by
  rcases h with ⟨h1, rfl⟩ | ⟨a, o, rfl, ho, hc, rfl⟩
  · exact tyD_of (hv.rp hs (isDR_dk h1)) (isDR_rf h1)
  · obtain rfl := VR.ref hv
    obtain ⟨_, dx, vs, h2, _⟩ := hd.2.1 a o ho
    exact .base (.ins h2 hc.c hc.ca hc.cg hc.ct hc.mo)
def dIs (K : PySem.W.Frag) (cv : Value) (t : DTE) : DTE := fun ρ n R => t ρ n fun x n1 => ∃ ty b, TyDv K n1 x ty ∧ PySem.W.kitOne K ty cv = some b ∧ R (.dat (.bool b)) n1
theorem we_is {c : V} {cv : Value} {e ec : Expr} {t : DTE} {p pos : Pos} (hg : Gl X "isinstance") (hm : X.mg "isinstance" = none) (he : WE Y X e t) (hec : PE X ec (tC c)) (hcv : ClsV c cv)
    (h1 : starEach [e, ec] X.env = (false, eval e X.env) :: starEach [ec] X.env := by rfl) (h2 : starEach [ec] X.env = (false, eval ec X.env) :: starEach [] X.env := by rfl) (hpl : (backTo pos (starEach [ec] X.env)).any (·.1) = false := by rfl) :
    WE Y X (.Call (.Name "isinstance" p) [e, ec] [] pos) (dIs X.K cv t) :=
  pe_imp (pe_callB call_isi hg hm PyProof.Rows.boot_isinstance (pa_cons he (pa_cons hec pa_nil h2) h1) (by decide) (by decide) h1 hpl) fun σ H Q ⟨Z, F, ρ, n, R, r, ht, k⟩ =>
    ⟨Z, F, ρ, n, _, r, ht, fun x n1 F1 H1 v ⟨ty, b, hty, hk, hR⟩ g1 s1 d1 w1 => ⟨v, c, ty, cv, b, rfl, hcv, hty.x w1 s1 d1, hk, k _ _ _ _ _ hR g1 s1 d1 (by simp [VR, Rp])⟩⟩
end
end DL
set_option maxHeartbeats 4000000
namespace DL
open PySem PySem.Spec PyProof.Rows L2
/-- the class x stands at C, and its __init__ keeps c -/
def HasC (P : Program) (w : World) (K : PySem.W.Frag) (mg : Str → Option Value) (base : Heap) (x : Str) (C : Addr) (k : Nat) (ps : List Str) (c : DSpecX) : Prop :=
  mg x = some (.ref C) ∧ (∀ as n R E, c as n R E → as.length = ps.length) ∧ ∃ f fd, Mk K C f ∧ Binds K fd ps [] ∧ FnGX P w K mg base k f fd ps (spDX K ps.length c)
section
variable {X : Cx} {Y : Fx} {dw : DW} {W : WX}
theorem we_hasC {k : Nat} {C : Addr} {c : DSpecX} {ps : List Str} {x : Str} {p pos : Pos} {e : Expr} {es : List Expr} {t : DTA} (tk : Takes X W) (ok : WOk Y X.K dw W) (h : HasC X.prog X.w X.K X.mg X.base x C k ps c) (hgd : X.A.guards = some []) (hr : Room (k + 1) X.A) (hg : Gl X x)
    (ha : WA Y X (e :: es) t) (hdb : (x == ("__debug__" : Str)) = false := by decide) (he : starEach (e :: es) X.env = (false, eval e X.env) :: starEach es X.env := by rfl) (hpl : (backTo pos (starEach es X.env)).any (·.1) = false := by rfl) :
    WE Y X (.Call (.Name x p) (e :: es) [] pos) (dMake C c dw t) := by
  obtain ⟨h1, h2, f, fd, h3, h4, h5⟩ := h
  exact we_make tk ok h3 h5 h2 hgd hr hg h1 h4 ha hdb he hpl
end
def inCls (st : Stmt) (j : Nat) : Stmt := match st with
  | .ClassDef _ _ _ b _ _ _ _ _ _ _ => b.getD j (.Pass ⟨0, 0, 0, 0⟩)
  | _ => .Pass ⟨0, 0, 0, 0⟩
end DL
namespace DL
open PySem PySem.Spec PyProof.Rows L2
theorem kit_own {K : PySem.W.Frag} {t : Value} {D : Addr} {b : Bool} (h1 : PySem.W.isClsIn K D = true) (h2 : PySem.W.typeIn K (.ref D) = some (.type "type")) (h3 : PySem.W.subIn K (.ref D) (.ref D) = some true) (h4 : PySem.W.subIn K t (.ref D) = some b) : PySem.W.kitOne K t (.ref D) = some b := by
  unfold PySem.W.kitOne
  by_cases e : (t == Value.ref D) = true
  · rw [if_pos e]
    have e2 : t = .ref D := beq_iff_eq.mp e
    rw [e2] at h4
    rw [← h4, h3]
  · rw [if_neg e]
    unfold PySem.W.kitCls
    have h1' : (PySem.W.clsIn K D).isSome = true := h1
    simp only [h1', h2, Bool.true_and]
    rw [if_pos (by simp)]
    exact h4
end DL
set_option maxHeartbeats 4000000
namespace DL
open PySem PySem.Spec PyProof.Rows L2
section
variable {X : Cx} {Y : Fx} {k : Nat} {f : Addr} {fd : FuncData} {ps : List Str} {sp : Sp} {W : WX} {dw : DW} {PC : Addr → Prop} {m : Str} {c : Addr → DSpecX}
theorem runxA {A : Around} {pins : List (Addr × Obj)} {σ : L2.St} {H : Hp} {s : Shared} {Q : VK} {E : XK} {us : List Value} {vs : List V} (F : FnGX X.prog X.w X.K X.mg X.base k f fd ps sp) (hgd : A.guards = some []) (hr : Room k A) (e0 : Env0 X.prog X.w X.K X.mg X.base A X.stack s H) (hb : Binds X.K fd ps [])
    (hx : PassesAt (L2.CX X.prog X.w) X σ E) (I : Inv X pins σ H s) (r : Vals vs us) (h : sp vs H Q E) : wpAny (model X.prog X.w) A (call (.ref f) us) (EP X pins σ Q) X.xe s := by
  have hl : (us ++ []).length = ps.length := by rw [List.append_nil, ← r.length]; exact F.len _ _ _ _ h
  have hbi := hb s us I.kIn hl
  rw [List.append_nil] at hbi
  refine wpAny_call (codeAny_mono (F.run A X.stack s H ⟨us, []⟩ us vs Q E hgd hr e0 hbi r h) fun q s' hq => ?_)
  cases q with
  | error e => exact hx pins H s e s' I hq
  | ok fl =>
    cases fl with
    | ret u => exact I.after hq
    | next => exact hq.elim
    | brk => exact hq.elim
    | cont => exact hq.elim
/-- the method m of the object at a, called from below -/
theorem dun {A : Around} {pins : List (Addr × Obj)} {σ : L2.St} {H F : Hp} {s : Shared} {ρ : Rho} {n : Wo} {Z : Fx} {Q : VK} {a : Addr} {ob : Ob} {as : List Dv} {us : List Value} {vs : List V} {R' : PyData → Wo → Prop}
    (tk : Takes X W) (ok : WOk Y X.K dw W) (HM : HasM X.prog X.w X.K X.mg X.base PC m k ps c) (I : Inv X pins σ H s) (r : SR Y X.K Z F H σ ρ n) (hob : n.ob a = some ob) (hPC : PC ob.C)
    (w : VRs X.K Z.δ F H as vs) (rv : Vals vs us) (hlen : as.length + 1 = ps.length) (hx : c ob.C (.dat (refD a) :: as) n R' fun ex n3 => dw ex ρ n3)
    (kk : ∀ d n3 F3 H3 v, R' d n3 → Gr Z.δ F H F3 H3 → Same F3 H3 → Z.δ.at_ X.K F3 H3 n3 → Rp X.K F3 d v → Q v H3) :
    ∃ g dx od, PySem.W.InstAt s.heap a (PySem.W.instObj ob.C dx) ob.C (some od) ∧ Cls X.K ob.C ∧ Meth X.K ob.C m g ∧
      (A.guards = some [] → Room k A → Env0 X.prog X.w X.K X.mg X.base A X.stack s H → wpAny (model X.prog X.w) A (call (.ref g) (.ref a :: us)) (EP X pins σ Q) X.xe s) := by
  obtain ⟨_, dx, vs', h2, h3⟩ := r.b.dk.2.1 a ob hob
  obtain ⟨hcl, g, fd, hM, hB, hF⟩ := HM _ hPC
  obtain ⟨mA, O, _⟩ := ins_get I.hok h2
  obtain ⟨od, J, _⟩ := O.look
  refine ⟨g, dx, od, J, hcl, hM, fun hgd hr e0 => runxA (us := .ref a :: us) (vs := .ref a :: vs) hF hgd hr e0 hB (passAt tk σ) I (.cons rfl rv) ?_⟩
  exact ⟨Z.δ, F, .dat (refD a) :: as, n, R', _, hlen, .cons vr_ref w, r.b.sub, by have q := r.b.dk; exact q, r.b.dkF, hx, kk, fun ex n3 F3 H3 cls d h4 g3 s3 d3 w3 => ok _ _ _ _ _ _ _ _ _ h4 (r.step g3 s3 d3) w3⟩
/-- two values, left then right -/
theorem two_run {a b : Expr} {ta tb : DTE} (ha : WE Y X a ta) (hb : WE Y X b tb) {pins : List (Addr × Obj)} {s : Shared} {σ : L2.St} {H F : Hp} {Z : Fx} {ρ : Rho} {n : Wo} {P : Dv → Dv → Wo → Prop} (I : Inv X pins σ H s) (r : SR Y X.K Z F H σ ρ n)
    (h : ta ρ n fun x n1 => tb ρ n1 fun y n2 => P x y n2) {Q : Value → Shared → Prop} {f : Value → Value → Sem Value}
    (hf : ∀ v u s2 x y xv yv n2 F2 H2, Inv X pins σ H2 s2 → RelV xv v → RelV yv u → P x y n2 → Gr Z.δ F H F2 H2 → Same F2 H2 → Z.δ.at_ X.K F2 H2 n2 → VR X.K Z.δ F2 H2 x xv → VR X.K Z.δ F2 H2 y yv → wpAny (model X.prog X.w) X.A (f v u) Q X.xe s2) :
    wpAny (model X.prog X.w) X.A (eval a X.env) (fun v s₁ => wpAny (model X.prog X.w) X.A (eval b X.env) (fun u s₂ => wpAny (model X.prog X.w) X.A (f v u) Q X.xe s₂) X.xe s₁) X.xe s := by
  refine thn (ha.run pins s σ H (fun v H1 => ∃ x n1 F1, _ ∧ Gr Z.δ F H F1 H1 ∧ Same F1 H1 ∧ Z.δ.at_ X.K F1 H1 n1 ∧ VR X.K Z.δ F1 H1 x v) I ⟨Z, F, ρ, n, _, r, h, fun x n1 F1 H1 v hx g1 s1 d1 w1 => ⟨x, n1, F1, hx, g1, s1, d1, w1⟩⟩) fun u s1 ⟨v, H1, I1, rx, x, n1, F1, hx, g1, s1', d1, w1⟩ => ?_
  have r1 := r.step g1 s1' d1
  refine thn (hb.run pins s1 σ H1 (fun v H2 => ∃ y n2 F2, P x y n2 ∧ Gr Z.δ F1 H1 F2 H2 ∧ Same F2 H2 ∧ Z.δ.at_ X.K F2 H2 n2 ∧ VR X.K Z.δ F2 H2 y v) I1 ⟨Z, F1, ρ, n1, _, r1, hx, fun y n2 F2 H2 v hy g2 s2 d2 w2 => ⟨y, n2, F2, hy, g2, s2, d2, w2⟩⟩) fun u2 s2 ⟨v2, H2, I2, ry, y, n2, F2, hy, g2, s2', d2, w2⟩ => ?_
  exact hf u u2 s2 x y v v2 n2 F2 H2 I2 rx ry hy (g1.trans g2) s2' d2 (w1.step g2) w2
def dBinO (K : PySem.W.Frag) (PC : Addr → Prop) (c : Addr → DSpecX) (dw : DW) (ta tb : DTE) : DTE := fun ρ n R => ta ρ n fun x n1 => tb ρ n1 fun y n2 => ∃ a o b o', x = .dat (refD a) ∧ y = .dat (refD b) ∧ n2.ob a = some o ∧ n2.ob b = some o' ∧ o'.C = o.C ∧ PC o.C ∧ PySem.W.selfFirst K o.C = true ∧
  c o.C [.dat (refD a), .dat (refD b)] n2 (fun d n3 => R (.dat d) n3) fun ex n3 => dw ex ρ n3
theorem we_binO {op : Operator} {a b : Expr} {ta tb : DTE} {pos : Pos} (tk : Takes X W) (ok : WOk Y X.K dw W) (HM : HasM X.prog X.w X.K X.mg X.base PC m k ps c) (hgd : X.A.guards = some []) (hr : Room k X.A) (hl : ps.length = 2)
    (ha : WE Y X a ta) (hb : WE Y X b tb) (hm : PySem.dunder op.info.2 = m := by rfl) : WE Y X (.BinOp a op b pos) (dBinO X.K PC c dw ta tb) :=
  ⟨fun pins s σ H Q I ⟨Z, F, ρ, n, R, r, h, kk⟩ => wpAny_BinOp (two_run ha hb I r h fun v u s2 x y xv yv n2 F2 H2 I2 rx ry ⟨a, o, b, o', ex, ey, ho, ho', hC, hPC, hsf, hx⟩ g2 s2' d2 w2 w3 => by
    subst ex ey
    obtain rfl := VR.ref w2
    obtain rfl := VR.ref w3
    obtain rfl : v = Value.ref a := rx
    obtain rfl : u = Value.ref b := ry
    have r2 := r.step g2 s2' d2
    obtain ⟨_, dxb, vsb, hb2, _⟩ := d2.2.1 b o' ho'
    obtain ⟨mB, OB, _⟩ := ins_get I2.hok hb2
    obtain ⟨odb, JB, _⟩ := OB.look
    rw [hC] at JB
    obtain ⟨g, dx, od, J, hcl, hM, run⟩ := dun (A := X.A) (Q := Q) (us := [.ref b]) tk ok HM I2 r2 ho hPC (.cons w3 .nil) (.cons rfl .nil) hl.symm hx fun d n3 F3 H3 v h4 g3 s3 d3 w4 => kk _ _ _ _ _ h4 (g2.trans g3) s3 d3 w4
    obtain ⟨mm, hF⟩ := I2.fr
    refine PySem.W.binop_K hF I2.ok.mod.kin J JB.type hsf (by rw [hm]; exact hM.at_) hM.fn ?_
    exact wpAny_mono (run hgd hr I2.env0) (fun w s' ⟨z, H', I', rz, qz⟩ => SlX.cmpback rz ⟨z, H', I', rz, qz⟩) fun _ _ q => q)⟩
def dInO (neg : Bool) (PC : Addr → Prop) (c : Addr → DSpecX) (dw : DW) (ta tb : DTE) : DTE := fun ρ n R => ta ρ n fun x n1 => tb ρ n1 fun y n2 => ∃ a o, y = .dat (refD a) ∧ n2.ob a = some o ∧ PC o.C ∧
  c o.C [.dat (refD a), x] n2 (fun d n3 => ∃ q : Bool, d = .bool q ∧ R (.dat (.bool (if neg = true then !q else q))) n3) fun ex n3 => dw ex ρ n3
theorem inO_core {a b : Expr} {ta tb : DTE} {neg : Bool} {pos : Pos} (tk : Takes X W) (ok : WOk Y X.K dw W) (HM : HasM X.prog X.w X.K X.mg X.base PC "__contains__" k ps c) (hgd : X.A.guards = some []) (hr : Room k X.A) (hl : ps.length = 2) (ha : WE Y X a ta) (hb : WE Y X b tb)
    {pins : List (Addr × Obj)} {s : Shared} {σ : L2.St} {H : Hp} {Q : VK} (I : Inv X pins σ H s) (h : up Y X.K (dInO neg PC c dw ta tb) σ H Q) :
    wpAny (model X.prog X.w) X.A (eval a X.env) (fun v s₁ => wpAny (model X.prog X.w) X.A (eval b X.env) (fun u s₂ => wpAny (model X.prog X.w) X.A (compareOp (if neg = true then .NotIn else .In) v u) (EP X pins σ Q) X.xe s₂) X.xe s₁) X.xe s := by
  obtain ⟨Z, F, ρ, n, R, r, h, kk⟩ := h
  exact two_run ha hb I r h fun v u s2 x y xv yv n2 F2 H2 I2 rx ry ⟨a, o, ey, ho, hPC, hx⟩ g2 s2' d2 w2 w3 => by
    subst ey
    obtain rfl := VR.ref w3
    obtain rfl : u = Value.ref a := ry
    have r2 := r.step g2 s2' d2
    obtain ⟨g, dx, od, J, hcl, hM, run⟩ := dun (A := X.A) (Q := fun z H' => ∃ q : Bool, z = .bl q ∧ Q (.bl (if neg = true then !q else q)) H') (us := [v]) (vs := [xv]) tk ok HM I2 r2 ho hPC (.cons w2 .nil) (.cons rx .nil) hl.symm hx fun d n3 F3 H3 v ⟨q, ed, h4⟩ g3 s3 d3 w4 => by
      subst ed
      simp only [Rp] at w4
      exact ⟨q, w4, kk _ _ _ _ _ h4 (g2.trans g3) s3 d3 (by simp [VR, Rp])⟩
    obtain ⟨mm, hF⟩ := I2.fr
    cases neg with
    | false =>
      refine PySem.W.in_K hF I2.ok.mod.kin J hM.at_ hM.fn (wpAny_mono (run hgd hr I2.env0) (fun w s' ⟨z, H', I', rz, q, eq, hq⟩ => ?_) fun _ _ q => q)
      subst eq
      obtain rfl : w = Value.bool q := rz
      exact wpAny_truthy_bool ⟨.bl q, H', I', rfl, hq⟩
    | true =>
      refine PySem.W.notIn_K hF I2.ok.mod.kin J hM.at_ hM.fn (wpAny_mono (run hgd hr I2.env0) (fun w s' ⟨z, H', I', rz, q, eq, hq⟩ => ?_) fun _ _ q => q)
      subst eq
      obtain rfl : w = Value.bool q := rz
      exact wpAny_truthy_bool ⟨.bl (!q), H', I', rfl, hq⟩
theorem we_inO {a b : Expr} {ta tb : DTE} {pos : Pos} (tk : Takes X W) (ok : WOk Y X.K dw W) (HM : HasM X.prog X.w X.K X.mg X.base PC "__contains__" k ps c) (hgd : X.A.guards = some []) (hr : Room k X.A) (hl : ps.length = 2) (ha : WE Y X a ta) (hb : WE Y X b tb)
    (hm : behindInMarks .In b = false := by with_unfolding_all rfl) : WE Y X (.Compare a [.In] [b] pos) (dInO false PC c dw ta tb) :=
  ⟨fun pins s σ H Q I h => wpAny_Compare1 (inO_core (neg := false) (pos := pos) tk ok HM hgd hr hl ha hb I h) hm⟩
end
end DL
set_option maxHeartbeats 4000000
set_option maxHeartbeats 4000000
set_option maxHeartbeats 4000000
namespace LkE
open PySem PySem.W PySem.Calls PyProof.Rows PySem.HandSPX
open Builtin Builtin.ObjectAttr
abbrev bare (C : Addr) (od : Option Addr) (fv : Array Value) : Obj := { cls := .ref C, dict := od, data := .fields fv }
end LkE
set_option maxHeartbeats 4000000
set_option maxHeartbeats 4000000
set_option maxHeartbeats 4000000
namespace DL
open PySem PySem.Spec PyProof.Rows L2
inductive Tst (X : Cx) : Expr → (Value → Option Bool) → Prop
  | one {x : Str} {c : Value} {np : Pos} (h : Names X x c) : Tst X (.Name x np) (fun cls => PySem.W.exmOne X.K cls c)
  | two {x1 x2 : Str} {c1 c2 : Value} {p1 p2 tp : Pos} {kk} (h1 : Names X x1 c1) (h2 : Names X x2 c2) : Tst X (.Tuple [.Name x1 p1, .Name x2 p2] kk tp) (fun cls => PySem.W.exmAny X.K cls [c1, c2])
  | three {x1 x2 x3 : Str} {c1 c2 c3 : Value} {p1 p2 p3 tp : Pos} {kk} (h1 : Names X x1 c1) (h2 : Names X x2 c2) (h3 : Names X x3 c3) : Tst X (.Tuple [.Name x1 p1, .Name x2 p2, .Name x3 p3] kk tp) (fun cls => PySem.W.exmAny X.K cls [c1, c2, c3])
section
variable {X : Cx}
theorem ld_names {X : Cx} {E : Value → Shared → Prop} {pins : List (Addr × Obj)} {s : Shared} {σ : L2.St} {H : Hp} {x : Str} {c : Value} {pos : Pos} {Q : Value → Shared → Prop} (I : Inv X pins σ H s) (hc : Names X x c) (h : Q c s) : wpAny (model X.prog X.w) X.A (eval (.Name x pos) X.env) Q E s := by
  obtain ⟨hg, hdbg, hm | ⟨hm, hv, hnn⟩⟩ := hc
  · exact ld_glob I hg hm h hdbg
  · exact ld_blt I hg hm hv h hnn hdbg
theorem Tst.run {t : Expr} {f : Value → Option Bool} (T : Tst X t f) {a : Addr} {pn : List (Addr × Obj)} {pins : List (Addr × Obj)} {σ : L2.St} {H : Hp} {s : Shared} {cls : Value} {b : Bool} {Q : Bool → Shared → Prop} {E : Value → Shared → Prop} (I : Inv (X.suite a pn) pins σ H s)
    (LT : PySem.W.Looks (model X.prog X.w) s.heap (typeOf (.ref a)) cls) (hb : f cls = some b) (q : ∀ h', (∀ q o, s.heap.get? q = some o → h'.get? q = some o) → Q b { s with heap := h' }) :
    wpAny (model X.prog X.w) (X.A.mark (some (.ref a))) (eval t X.env) (fun c s₁ => wpAny (model X.prog X.w) (X.A.mark (some (.ref a))) (excMatches (.ref a) c) Q E s₁) E s := by
  have ld : ∀ {E : Value → Shared → Prop} {x : Str} {c : Value} {p : Pos} {Q : Value → Shared → Prop}, Names X x c → Q c s → wpAny (model X.prog X.w) (X.A.mark (some (.ref a))) (eval (.Name x p) X.env) Q E s := fun h q => ld_names (X := X.suite a pn) I h q
  cases T with
  | one h => exact ld h ((PySem.W.exm_one I.kIn LT hb).here (q _ fun _ _ z => z))
  | @two x1 x2 c1 c2 p1 p2 tp kk h1 h2 =>
    refine wpAny_Tuple ?_
    refine wpAny_items_cons (ld h1 ?_)
    refine wpAny_items_cons (ld h2 ?_)
    refine wpAny_items_nil ⟨by size_fits, ?_⟩
    have kp : ∀ q o, s.heap.get? q = some o → (s.heap.push { cls := .type "tuple", data := .seq [c1, c2].toArray }).get? q = some o := fun _ _ z => Heap.get?_push_of_some _ z
    exact (PySem.W.exm_tup2 (I.kIn.keeps kp) (LT.keeps kp) (Heap.get?_push_size s.heap rfl) hb).here (q _ kp)
  | @three x1 x2 x3 c1 c2 c3 p1 p2 p3 tp kk h1 h2 h3 =>
    refine wpAny_Tuple ?_
    refine wpAny_items_cons (ld h1 ?_)
    refine wpAny_items_cons (ld h2 ?_)
    refine wpAny_items_cons (ld h3 ?_)
    refine wpAny_items_nil ⟨by size_fits, ?_⟩
    have kp : ∀ q o, s.heap.get? q = some o → (s.heap.push { cls := .type "tuple", data := .seq [c1, c2, c3].toArray }).get? q = some o := fun _ _ z => Heap.get?_push_of_some _ z
    exact (PySem.W.exm_tup3 (I.kIn.keeps kp) (LT.keeps kp) (Heap.get?_push_size s.heap rfl) hb).here (q _ kp)
structure Cz where
  f : Value → Option Bool
  i : Option Nat
  ts : Addr → Value → Option Addr → TS
variable {body : List Stmt} {h₀ : ExceptHandler} {hds : List ExceptHandler} {l : List Cz} {pos : Pos} {tb : WX → TS} {Wout : WX}
end
end DL
set_option maxHeartbeats 4000000
set_option maxHeartbeats 0
namespace DL
open PySem PySem.Spec PyProof.Rows L2
def sizesD (xs : List Int) : PyData := .tuple (xs.map .int)
def hallD (feet pairs : List Int) : PyData := .tuple [sizesD feet, sizesD pairs]
/-- sizes from 1 to h -/
abbrev In1 (h : Int) (xs : List Int) : Prop := ∀ x ∈ xs, 1 ≤ x ∧ x ≤ h
theorem pick2 {a b : PyData} {r : Int} (h0 : 0 ≤ r) (h1 : r < 2) : ∃ d, atI [a, b] r = some d ∧ (d = a ∨ d = b) := by
  obtain ⟨d, h, hm⟩ := atI_mem (xs := [a, b]) h0 (by simpa using h1)
  exact ⟨d, h, by simpa using hm⟩
theorem pick3 {a b c : PyData} {r : Int} (h0 : 0 ≤ r) (h1 : r < 3) : ∃ d, atI [a, b, c] r = some d ∧ (d = a ∨ d = b ∨ d = c) := by
  obtain ⟨d, h, hm⟩ := atI_mem (xs := [a, b, c]) h0 (by simpa using h1)
  exact ⟨d, h, by simpa using hm⟩
/-- numbers as they were drawn -/
theorem ints_of {h : Int} : ∀ {ys : List PyData}, (∀ y ∈ ys, ∃ z : Int, y = .int z ∧ 1 ≤ z ∧ z ≤ h) → ∃ zs : List Int, ys = zs.map .int ∧ In1 h zs
  | [], _ => ⟨[], rfl, fun _ q => (by cases q)⟩
  | y :: ys, q => by
    obtain ⟨z, rfl, h1, h2⟩ := q y (by simp)
    obtain ⟨zs, rfl, h3⟩ := ints_of (ys := ys) fun x hx => q x (by simp [hx])
    exact ⟨z :: zs, rfl, fun x hx => by
      rcases List.mem_cons.mp hx with rfl | hx
      · exact ⟨h1, h2⟩
      · exact h3 x hx⟩
theorem map_get {α : Type} {xs : List α} {enc : α → PyData} {k : Nat} {x : PyData} (h : (xs.map enc)[k]? = some x) : ∃ z, xs[k]? = some z ∧ x = enc z := by
  rw [List.getElem?_map] at h
  obtain ⟨z, h1, h2⟩ := Option.map_eq_some_iff.mp h
  exact ⟨z, h1, h2.symm⟩
/-- the item at a place -/
def getI (xs : List Int) (j : Int) : Int := (xs[j.toNat]?).getD 0
def intsN (m : Nat) : List Int := (List.range m).map fun (k : Nat) => (k : Int)
theorem mem_intsN {m : Nat} {j : Int} (h : j ∈ intsN m) : 0 ≤ j ∧ j < m := by
  obtain ⟨k, hk, rfl⟩ := List.mem_map.mp h
  have := List.mem_range.mp hk
  omega
/-- one guest of a run by a list of liking -/
def stepF (feet pairs : List Int) (s : List Int × List (Int × Int)) (g : Int) : List Int × List (Int × Int) :=
  match s.1.filter fun j => decide (getI feet g ≤ getI pairs j) with
  | [] => (s.1, s.2 ++ [(g, -1)])
  | j :: _ => (s.1.erase j, s.2 ++ [(g, j)])
/-- the best of those seen -/
def bestS (key : Int → Int) (fits : Int → Bool) (b j : Int) : Int := if fits j = true then (if b = -1 ∨ key j < key b then j else b) else b
def stepL (key : Int → Int) (feet pairs : List Int) (s : List Int × List (Int × Int)) (g : Int) : List Int × List (Int × Int) :=
  (s.1.filter fun o => decide (o ≠ s.1.foldl (bestS key fun j => decide (getI feet g ≤ getI pairs j)) (-1)), s.2 ++ [(g, s.1.foldl (bestS key fun j => decide (getI feet g ≤ getI pairs j)) (-1))])
def ruled (key : Int → Int) (feet pairs order : List Int) : List (Int × Int) := (order.foldl (stepL key feet pairs) (intsN pairs.length, [])).2
theorem fold_take {α β : Type} {f : β → α → β} {b : β} {xs : List α} {k : Nat} {x : α} (h : xs[k]? = some x) : (xs.take (k + 1)).foldl f b = f ((xs.take k).foldl f b) x := by
  rw [List.take_add_one, h, List.foldl_append]; rfl
/-- what is best -/
def Lx (key : Int → Int) (a b : Int) : Prop := key a < key b ∨ (key a = key b ∧ a ≤ b)
theorem best_is (key : Int → Int) (fits : Int → Bool) : ∀ (l : List Int) (b : Int), (∀ x ∈ l, 0 ≤ x) → l.Pairwise (· < ·) → (b = -1 ∨ (0 ≤ b ∧ fits b = true ∧ ∀ x ∈ l, b < x)) →
    let r := l.foldl (bestS key fits) b
    (r = -1 ∧ b = -1 ∧ ∀ x ∈ l, fits x = false) ∨ ((r = b ∨ r ∈ l) ∧ 0 ≤ r ∧ fits r = true ∧ (∀ x ∈ l, fits x = true → Lx key r x) ∧ (b ≠ -1 → Lx key r b))
  | [], b, _, _, hb => by
    rcases hb with rfl | ⟨h1, h2, _⟩
    · exact .inl ⟨rfl, rfl, fun _ h => nomatch h⟩
    · exact .inr ⟨.inl rfl, h1, h2, fun _ h => (nomatch h), fun _ => .inr ⟨rfl, Int.le_refl _⟩⟩
  | y :: l, b, hn, hp, hb => by
    have hy : 0 ≤ y := hn y (by simp)
    obtain ⟨p1, p2⟩ := List.pairwise_cons.mp hp
    have hb' : bestS key fits b y = -1 ∨ (0 ≤ bestS key fits b y ∧ fits (bestS key fits b y) = true ∧ ∀ x ∈ l, bestS key fits b y < x) := by
      unfold bestS
      by_cases f : fits y = true
      · rw [if_pos f]
        by_cases c : b = -1 ∨ key y < key b
        · rw [if_pos c]; exact .inr ⟨hy, f, p1⟩
        · rw [if_neg c]
          rcases hb with rfl | ⟨h1, h2, h3⟩
          · exact absurd (.inl rfl) c
          · exact .inr ⟨h1, h2, fun x hx => h3 x (by simp [hx])⟩
      · rw [if_neg f]
        rcases hb with rfl | ⟨h1, h2, h3⟩
        · exact .inl rfl
        · exact .inr ⟨h1, h2, fun x hx => h3 x (by simp [hx])⟩
    have ih := best_is key fits l (bestS key fits b y) (fun x hx => hn x (by simp [hx])) p2 hb'
    show (let r := l.foldl (bestS key fits) (bestS key fits b y); _)
    simp only at ih ⊢
    rw [List.foldl_cons]
    rcases ih with ⟨e1, e2, e3⟩ | ⟨e1, e2, e3, e4, e5⟩
    · unfold bestS at e2
      by_cases f : fits y = true
      · rw [if_pos f] at e2
        by_cases c : b = -1 ∨ key y < key b
        · rw [if_pos c] at e2; omega
        · rw [if_neg c] at e2
          exact absurd (.inl e2) c
      · rw [if_neg f] at e2
        refine .inl ⟨e1, e2, fun x hx => ?_⟩
        rcases List.mem_cons.mp hx with rfl | hx
        · exact Bool.eq_false_iff.mpr f
        · exact e3 x hx
    · refine .inr ⟨?_, e2, e3, ?_, ?_⟩
      · have hq : bestS key fits b y = y ∨ bestS key fits b y = b := by
          unfold bestS
          split
          · split
            · exact .inl rfl
            · exact .inr rfl
          · exact .inr rfl
        rcases e1 with e1 | e1
        · rcases hq with hq | hq
          · exact .inr (by rw [e1, hq]; simp)
          · exact .inl (by rw [e1, hq])
        · exact .inr (by simp [e1])
      · intro x hx fx
        rcases List.mem_cons.mp hx with rfl | hx
        · have hb2 : Lx key (bestS key fits b x) x ∧ bestS key fits b x ≠ -1 := by
            unfold bestS
            rw [if_pos fx]
            by_cases c : b = -1 ∨ key x < key b
            · rw [if_pos c]; exact ⟨.inr ⟨rfl, Int.le_refl _⟩, by omega⟩
            · rw [if_neg c]
              rcases hb with rfl | ⟨h1, h2, h3⟩
              · exact absurd (.inl rfl) c
              · have := h3 x (by simp)
                have : ¬ key x < key b := fun q => c (.inr q)
                exact ⟨by unfold Lx; omega, by omega⟩
          have := e5 hb2.2
          have := hb2.1
          unfold Lx at *
          omega
        · exact e4 x hx fx
      · intro hne
        have hb2 : bestS key fits b y ≠ -1 ∧ Lx key (bestS key fits b y) b := by
          rcases hb with rfl | ⟨h1, h2, h3⟩
          · exact absurd rfl hne
          · unfold bestS
            by_cases f : fits y = true
            · rw [if_pos f]
              by_cases c : b = -1 ∨ key y < key b
              · rw [if_pos c]
                rcases c with c | c
                · exact absurd c hne
                · exact ⟨by omega, .inl c⟩
              · rw [if_neg c]; exact ⟨hne, .inr ⟨rfl, Int.le_refl _⟩⟩
            · rw [if_neg f]; exact ⟨hne, .inr ⟨rfl, Int.le_refl _⟩⟩
        have := e5 hb2.1
        have := hb2.2
        unfold Lx at *
        omega
theorem erase_filter {l : List Int} (h : l.Nodup) (j : Int) : l.erase j = l.filter fun o => decide (o ≠ j) := by
  rw [h.erase_eq_filter]
  congr 1
  funext o
  by_cases q : o = j <;> simp [q]
/-- the two ways step alike -/
theorem step_same (key : Int → Int) (feet pairs : List Int) (l1 l2 : List Int) (r : List (Int × Int)) (g : Int) (hp : l1.Perm l2) (hs : l1.Pairwise (Lx key)) (hl : l2.Pairwise (· < ·)) (hn : ∀ x ∈ l2, 0 ≤ x) :
    (stepF feet pairs (l1, r) g).2 = (stepL key feet pairs (l2, r) g).2 ∧ (stepF feet pairs (l1, r) g).1.Perm (stepL key feet pairs (l2, r) g).1 := by
  have hb := best_is key (fun j => decide (getI feet g ≤ getI pairs j)) l2 (-1) hn hl (.inl rfl)
  have nd2 : l2.Nodup := hl.imp fun h => Int.ne_of_lt h
  have nd1 : l1.Nodup := hp.nodup_iff.mpr nd2
  unfold stepF stepL
  simp only at hb ⊢
  generalize l2.foldl (bestS key fun j => decide (getI feet g ≤ getI pairs j)) (-1) = b at hb ⊢
  rcases hb with ⟨rfl, _, h3⟩ | ⟨h1, h2, h3, h4, _⟩
  · have e : (l1.filter fun j => decide (getI feet g ≤ getI pairs j)) = [] := List.filter_eq_nil_iff.mpr fun x hx => by
      rw [h3 x (hp.mem_iff.mp hx)]; exact Bool.false_ne_true
    rw [e]
    refine ⟨rfl, ?_⟩
    show l1.Perm _
    rw [List.filter_eq_self.mpr fun x hx => by have := hn x hx; simp; omega]
    exact hp
  · have hb1 : b ∈ l1 := by
      rcases h1 with q | q
      · omega
      · exact hp.mem_iff.mpr q
    have hbf : b ∈ l1.filter fun j => decide (getI feet g ≤ getI pairs j) := List.mem_filter.mpr ⟨hb1, h3⟩
    have hsf := hs.filter fun j => decide (getI feet g ≤ getI pairs j)
    cases e : l1.filter fun j => decide (getI feet g ≤ getI pairs j) with
    | nil => rw [e] at hbf; cases hbf
    | cons j js =>
      have ej : j = b := by
        rw [e] at hbf hsf
        rcases List.mem_cons.mp hbf with q | q
        · exact q.symm
        · have a1 : Lx key j b := (List.pairwise_cons.mp hsf).1 b q
          have hj : j ∈ l1.filter fun j => decide (getI feet g ≤ getI pairs j) := by rw [e]; simp
          obtain ⟨q1, q2⟩ := List.mem_filter.mp hj
          have a2 := h4 j (hp.mem_iff.mp q1) q2
          unfold Lx at a1 a2
          omega
      subst ej
      refine ⟨rfl, ?_⟩
      show (l1.erase j).Perm _
      rw [erase_filter nd1]
      exact hp.filter _
theorem run_same (key : Int → Int) (feet pairs : List Int) : ∀ (order : List Int) (l1 l2 : List Int) (r : List (Int × Int)), l1.Perm l2 → l1.Pairwise (Lx key) → l2.Pairwise (· < ·) → (∀ x ∈ l2, 0 ≤ x) →
    (order.foldl (stepF feet pairs) (l1, r)).2 = (order.foldl (stepL key feet pairs) (l2, r)).2
  | [], _, _, _, _, _, _, _ => rfl
  | g :: order, l1, l2, r, hp, hs, hl, hn => by
    obtain ⟨e1, e2⟩ := step_same key feet pairs l1 l2 r g hp hs hl hn
    rw [List.foldl_cons, List.foldl_cons]
    have sub2 : ∀ x ∈ (stepL key feet pairs (l2, r) g).1, x ∈ l2 := fun x hx => (List.mem_filter.mp hx).1
    have pw1 : (stepF feet pairs (l1, r) g).1.Pairwise (Lx key) := by
      unfold stepF
      simp only
      split
      · exact hs
      · exact hs.sublist List.erase_sublist
    have pw2 : (stepL key feet pairs (l2, r) g).1.Pairwise (· < ·) := hl.filter _
    have := run_same key feet pairs order (stepF feet pairs (l1, r) g).1 (stepL key feet pairs (l2, r) g).1 (stepF feet pairs (l1, r) g).2 e2 pw1 pw2 fun x hx => hn x (sub2 x hx)
    rw [show stepF feet pairs (l1, r) g = ((stepF feet pairs (l1, r) g).1, (stepF feet pairs (l1, r) g).2) from rfl, show stepL key feet pairs (l2, r) g = ((stepL key feet pairs (l2, r) g).1, (stepF feet pairs (l1, r) g).2) from by rw [e1]]
    exact this
theorem intsN_lt (m : Nat) : (intsN m).Pairwise (· < ·) := by
  unfold intsN
  rw [List.pairwise_map]
  exact List.pairwise_lt_range.imp fun h => by omega
/-- how many feet are less, how many pairs are at least s -/
def cF (feet : List Int) (s : Int) : Nat := (feet.filter fun x => decide (x < s)).length
def cP (pairs : List Int) (s : Int) : Nat := (pairs.filter fun x => decide (s ≤ x)).length
def IsMost (feet pairs : List Int) (m : Int) : Prop := (∃ s, m = (cF feet s : Int) + cP pairs s) ∧ ∀ s, m ≤ (cF feet s : Int) + cP pairs s
def IsFew (feet pairs : List Int) (m : Int) : Prop := (∃ s, m = (max (cF feet s) (cP pairs s) : Nat)) ∧ ∀ s, m ≤ (max (cF feet s) (cP pairs s) : Nat)
theorem cF_cons (f : Int) (fs : List Int) (s : Int) : cF (f :: fs) s = cF fs s + if f < s then 1 else 0 := by
  unfold cF
  rw [List.filter_cons]
  by_cases h : f < s
  · rw [if_pos (decide_eq_true h), if_pos h]; rfl
  · rw [if_neg (by simpa using h), if_neg h]; rfl
theorem cP_cons (p : Int) (ps : List Int) (s : Int) : cP (p :: ps) s = cP ps s + if s ≤ p then 1 else 0 := by
  unfold cP
  rw [List.filter_cons]
  by_cases h : s ≤ p
  · rw [if_pos (decide_eq_true h), if_pos h]; rfl
  · rw [if_neg (by simpa using h), if_neg h]; rfl
theorem cF_perm {a b : List Int} (h : a.Perm b) (s : Int) : cF a s = cF b s := (h.filter _).length_eq
theorem cP_perm {a b : List Int} (h : a.Perm b) (s : Int) : cP a s = cP b s := (h.filter _).length_eq
theorem cF_zero {l : List Int} {s : Int} (h : ∀ x ∈ l, s ≤ x) : cF l s = 0 := by
  unfold cF
  rw [List.filter_eq_nil_iff.mpr fun x hx => by have := h x hx; simp; omega]
  rfl
theorem cP_zero {l : List Int} {s : Int} (h : ∀ x ∈ l, x < s) : cP l s = 0 := by
  unfold cP
  rw [List.filter_eq_nil_iff.mpr fun x hx => by have := h x hx; simp; omega]
  rfl
theorem cF_le (l : List Int) (s : Int) : cF l s ≤ l.length := List.length_filter_le _ _
theorem cF_all {l : List Int} {s : Int} (h : ∀ x ∈ l, x < s) : cF l s = l.length := by
  unfold cF
  rw [List.filter_eq_self.mpr fun x hx => by simpa using h x hx]
/-- the largest pairs to the greatest feet that they fit: feet and pairs from the greatest on -/
def gr : List Int → List Int → Nat
  | [], _ => 0
  | f :: fs, [] => gr fs []
  | f :: fs, p :: ps => if f ≤ p then gr fs ps + 1 else gr fs (p :: ps)
theorem gr_le : ∀ (F P : List Int) (s : Int), gr F P ≤ cF F s + cP P s
  | [], _, _ => Nat.zero_le _
  | f :: fs, [], s => by
    have := gr_le fs [] s
    rw [cF_cons]
    unfold gr
    omega
  | f :: fs, p :: ps, s => by
    unfold gr
    by_cases h : f ≤ p
    · rw [if_pos h, cF_cons, cP_cons]
      have := gr_le fs ps s
      split <;> split <;> omega
    · rw [if_neg h, cF_cons]
      have := gr_le fs (p :: ps) s
      omega
theorem gr_ge (top : Int) : ∀ (F P : List Int), F.Pairwise (fun a b => b ≤ a) → P.Pairwise (fun a b => b ≤ a) → (∀ x ∈ F, x < top) → (∀ x ∈ P, x < top) → ∃ s, (s ∈ F ∨ s = top) ∧ cF F s + cP P s ≤ gr F P
  | [], P, _, _, _, hP => ⟨top, .inr rfl, by rw [cP_zero hP]; exact Nat.le_refl 0⟩
  | f :: fs, [], h1, h2, hF, hP => by
    obtain ⟨p1, p2⟩ := List.pairwise_cons.mp h1
    obtain ⟨s, hs, hle⟩ := gr_ge top fs [] p2 h2 (fun x hx => hF x (by simp [hx])) hP
    unfold gr
    rcases hs with hs | rfl
    · refine ⟨s, .inl (by simp [hs]), ?_⟩
      have := p1 s hs
      rw [cF_cons, if_neg (by omega)]
      exact hle
    · rw [cF_all fun x hx => hF x (by simp [hx])] at hle
      have h0 : gr fs [] ≤ 0 := by
        cases fs with
        | nil => exact Nat.le_refl 0
        | cons a l =>
          have := gr_le (a :: l) [] (((a :: l).getLast (by simp)))
          have q : cF (a :: l) ((a :: l).getLast (by simp)) = 0 := cF_zero fun x hx => by
            have hl : (a :: l) = (a :: l).dropLast ++ [(a :: l).getLast (by simp)] := (List.dropLast_concat_getLast (by simp)).symm
            rw [hl] at hx p2
            rcases List.mem_append.mp hx with z | z
            · exact (List.pairwise_append.mp p2).2.2 x z _ (by simp)
            · rw [List.mem_singleton.mp z]; simp
          rw [q] at this
          exact this
      have hl : fs.length = 0 := by omega
      have : fs = [] := List.eq_nil_of_length_eq_zero hl
      subst this
      exact ⟨f, .inl (by simp), by rw [cF_cons, if_neg (by omega)]; exact Nat.zero_le _⟩
  | f :: fs, p :: ps, h1, h2, hF, hP => by
    obtain ⟨p1, p2⟩ := List.pairwise_cons.mp h1
    obtain ⟨q1, q2⟩ := List.pairwise_cons.mp h2
    have hF' : ∀ x ∈ fs, x < top := fun x hx => hF x (by simp [hx])
    have hf := hF f (by simp)
    have hp := hP p (by simp)
    unfold gr
    by_cases h : f ≤ p
    · rw [if_pos h]
      obtain ⟨s, hs, hle⟩ := gr_ge top fs ps p2 q2 hF' fun x hx => hP x (by simp [hx])
      rcases hs with hs | rfl
      · refine ⟨s, .inl (by simp [hs]), ?_⟩
        have := p1 s hs
        rw [cF_cons, cP_cons, if_neg (by omega)]
        split <;> omega
      · refine ⟨s, .inr rfl, ?_⟩
        rw [cF_cons, cP_cons, if_neg (show ¬ s ≤ p by omega)]
        split <;> omega
    · rw [if_neg h]
      obtain ⟨s, hs, hle⟩ := gr_ge top fs (p :: ps) p2 h2 hF' hP
      rcases hs with hs | rfl
      · refine ⟨s, .inl (by simp [hs]), ?_⟩
        have := p1 s hs
        rw [cF_cons, if_neg (by omega)]
        omega
      · refine ⟨f, .inl (by simp), ?_⟩
        rw [cF_all hF'] at hle
        rw [cF_cons, if_neg (by omega), cP_zero fun x hx => by
          rcases List.mem_cons.mp hx with rfl | hx
          · omega
          · have := q1 x hx; omega]
        have := cF_le fs f
        omega
theorem most_of_gr {feet pairs F P : List Int} {top : Int} (hF : F.Perm feet) (hP : P.Perm pairs) (h1 : F.Pairwise fun a b => b ≤ a) (h2 : P.Pairwise fun a b => b ≤ a) (t1 : ∀ x ∈ feet, x < top) (t2 : ∀ x ∈ pairs, x < top) :
    IsMost feet pairs (gr F P : Nat) ∧ ∃ s, (s ∈ feet ∨ s = top) ∧ ((gr F P : Nat) : Int) = (cF feet s : Int) + cP pairs s := by
  obtain ⟨s, hs, hle⟩ := gr_ge top F P h1 h2 (fun x hx => t1 x (hF.mem_iff.mp hx)) fun x hx => t2 x (hP.mem_iff.mp hx)
  have hge := gr_le F P s
  rw [cF_perm hF, cP_perm hP] at hle hge
  refine ⟨⟨⟨s, by omega⟩, fun s' => ?_⟩, s, hs.imp (fun h => hF.mem_iff.mp h) id, by omega⟩
  have := gr_le F P s'
  rw [cF_perm hF, cP_perm hP] at this
  omega
/-- the smallest feet beside the largest pairs -/
def cz : List Int → List Int → Nat
  | f :: fs, p :: ps => cz fs ps + if f ≤ p then 1 else 0
  | _, _ => 0
theorem cz_le : ∀ (F P : List Int) (s : Int), F.Pairwise (fun a b => a ≤ b) → P.Pairwise (fun a b => b ≤ a) → cz F P ≤ max (cF F s) (cP P s)
  | [], _, _, _, _ => by unfold cz; exact Nat.zero_le _
  | f :: fs, [], _, _, _ => by unfold cz; exact Nat.zero_le _
  | f :: fs, p :: ps, s, h1, h2 => by
    obtain ⟨p1, p2⟩ := List.pairwise_cons.mp h1
    obtain ⟨q1, q2⟩ := List.pairwise_cons.mp h2
    have ih := cz_le fs ps s p2 q2
    unfold cz
    rw [cF_cons, cP_cons]
    by_cases h : f ≤ p
    · rw [if_pos h]
      by_cases a : f < s
      · rw [if_pos a]
        by_cases b : s ≤ p
        · rw [if_pos b]; omega
        · have : cP ps s = 0 := cP_zero fun x hx => by have := q1 x hx; omega
          omega
      · rw [if_neg a, if_pos (show s ≤ p by omega)]
        have : cF fs s = 0 := cF_zero fun x hx => by have := p1 x hx; omega
        omega
    · rw [if_neg h]; omega
theorem cz_ge (top : Int) : ∀ (F P : List Int), F.Pairwise (fun a b => a ≤ b) → P.Pairwise (fun a b => b ≤ a) → (∀ x ∈ P, x < top) → ∃ s, (s ∈ F ∨ s = top) ∧ max (cF F s) (cP P s) ≤ cz F P
  | [], P, _, _, hP => ⟨top, .inr rfl, by rw [cP_zero hP]; exact Nat.zero_le _⟩
  | f :: fs, [], h1, _, _ => by
    obtain ⟨p1, p2⟩ := List.pairwise_cons.mp h1
    refine ⟨f, .inl (by simp), ?_⟩
    rw [cF_zero fun x hx => by
      rcases List.mem_cons.mp hx with rfl | hx
      · exact Int.le_refl _
      · exact p1 x hx]
    exact Nat.zero_le _
  | f :: fs, p :: ps, h1, h2, hP => by
    obtain ⟨p1, p2⟩ := List.pairwise_cons.mp h1
    obtain ⟨q1, q2⟩ := List.pairwise_cons.mp h2
    unfold cz
    by_cases h : f ≤ p
    · obtain ⟨s, hs, hle⟩ := cz_ge top fs ps p2 q2 fun x hx => hP x (by simp [hx])
      refine ⟨s, hs.imp (fun h => by simp [h]) id, ?_⟩
      rw [cF_cons, cP_cons, if_pos h]
      split <;> split <;> omega
    · refine ⟨f, .inl (by simp), ?_⟩
      rw [cF_zero fun x hx => by
        rcases List.mem_cons.mp hx with rfl | hx
        · exact Int.le_refl _
        · exact p1 x hx, cP_zero fun x hx => by
        rcases List.mem_cons.mp hx with rfl | hx
        · omega
        · have := q1 x hx; omega]
      exact Nat.zero_le _
theorem few_of_cz {feet pairs F P : List Int} {top : Int} (hF : F.Perm feet) (hP : P.Perm pairs) (h1 : F.Pairwise fun a b => a ≤ b) (h2 : P.Pairwise fun a b => b ≤ a) (t2 : ∀ x ∈ pairs, x < top) :
    IsFew feet pairs (cz F P : Nat) ∧ ∃ s, (s ∈ feet ∨ s = top) ∧ ((cz F P : Nat) : Int) = (max (cF feet s) (cP pairs s) : Nat) := by
  obtain ⟨s, hs, hle⟩ := cz_ge top F P h1 h2 fun x hx => t2 x (hP.mem_iff.mp hx)
  have hge := cz_le F P s h1 h2
  rw [cF_perm hF, cP_perm hP] at hle hge
  refine ⟨⟨⟨s, by omega⟩, fun s' => ?_⟩, s, hs.imp (fun h => hF.mem_iff.mp h) id, by omega⟩
  have := cz_le F P s' h1 h2
  rw [cF_perm hF, cP_perm hP] at this
  omega
theorem atI_get {xs : List Int} {j : Int} (h0 : 0 ≤ j) (h1 : j < xs.length) : atI (xs.map PyData.int) j = some (.int (getI xs j)) := by
  have hj : j.toNat < xs.length := by omega
  unfold atI ixN getI
  rw [if_pos h0, if_pos (by rw [List.length_map]; exact h1)]
  simp [hj]
theorem sh_ints (ns : List Int) : Sh (.list (ns.map .int)) :=
  Bool.and_eq_true_iff.mpr ⟨by simp only [PyData.canLay0]; exact canAll fun d hd => by obtain ⟨_, _, rfl⟩ := List.mem_map.mp hd; rfl, decide_eq_true (by
    simp only [PyData.depth]
    exact Nat.le_trans (Nat.succ_le_succ (depthAll_le (k := 0) fun d hd => by obtain ⟨_, _, rfl⟩ := List.mem_map.mp hd; exact Nat.le_refl _)) (by decide))⟩
theorem nodup_len : ∀ {ms l : List Int}, ms.Nodup → (∀ x ∈ ms, x ∈ l) → ms.length ≤ l.length
  | [], _, _, _ => Nat.zero_le _
  | x :: ms, l, h, hs => by
    obtain ⟨h1, h2⟩ := List.nodup_cons.mp h
    have hx := hs x (by simp)
    have ih := nodup_len (l := l.erase x) h2 fun y hy => (List.mem_erase_of_ne (fun e => h1 (by rw [← e]; exact hy))).mpr (hs y (by simp [hy]))
    rw [List.length_erase_of_mem hx] at ih
    have := List.length_pos_of_mem hx
    rw [List.length_cons]
    omega
def ins (a : Int) : List Int → List Int
  | [] => [a]
  | b :: l => if a ≤ b then a :: b :: l else b :: ins a l
theorem ins_perm (a : Int) : ∀ l, (ins a l).Perm (a :: l)
  | [] => List.Perm.refl _
  | b :: l => by
    unfold ins
    split
    · exact List.Perm.refl _
    · exact ((ins_perm a l).cons b).trans (List.Perm.swap _ _ _)
theorem ins_sorted (a : Int) : ∀ l : List Int, l.Pairwise (· ≤ ·) → (ins a l).Pairwise (· ≤ ·)
  | [], _ => List.pairwise_singleton _ _
  | b :: l, h => by
    obtain ⟨h1, h2⟩ := List.pairwise_cons.mp h
    unfold ins
    split
    · rename_i hab
      exact List.pairwise_cons.mpr ⟨fun x hx => by
        rcases List.mem_cons.mp hx with rfl | hx
        · exact hab
        · exact Int.le_trans hab (h1 x hx), h⟩
    · exact List.pairwise_cons.mpr ⟨fun x hx => by
        rcases List.mem_cons.mp ((ins_perm a l).mem_iff.mp hx) with rfl | hx
        · omega
        · exact h1 x hx, ins_sorted a l h2⟩
theorem exists_sorted : ∀ l : List Int, ∃ F : List Int, F.Perm l ∧ F.Pairwise (· ≤ ·)
  | [] => ⟨[], List.Perm.refl _, List.Pairwise.nil⟩
  | a :: l => by
    obtain ⟨F, h1, h2⟩ := exists_sorted l
    exact ⟨ins a F, (ins_perm a F).trans (h1.cons a), ins_sorted a F h2⟩
theorem rev_desc {F : List Int} (h : F.Pairwise (· ≤ ·)) : F.reverse.Pairwise fun a b => b ≤ a := List.pairwise_reverse.mpr h
/-- where the least number of both is attained -/
theorem most_at {feet pairs : List Int} {top : Int} (t1 : ∀ x ∈ feet, x < top) (t2 : ∀ x ∈ pairs, x < top) : ∃ s, (s ∈ feet ∨ s = top) ∧ ∀ s', (cF feet s : Int) + cP pairs s ≤ (cF feet s' : Int) + cP pairs s' := by
  obtain ⟨F, f1, f2⟩ := exists_sorted feet
  obtain ⟨Q, p1, p2⟩ := exists_sorted pairs
  obtain ⟨h, s, hs, e⟩ := most_of_gr ((List.reverse_perm F).trans f1) ((List.reverse_perm Q).trans p1) (rev_desc f2) (rev_desc p2) t1 t2
  exact ⟨s, hs, fun s' => by rw [← e]; exact h.2 s'⟩
theorem few_at {feet pairs : List Int} {top : Int} (t2 : ∀ x ∈ pairs, x < top) : ∃ s, (s ∈ feet ∨ s = top) ∧ ∀ s', ((max (cF feet s) (cP pairs s) : Nat) : Int) ≤ (max (cF feet s') (cP pairs s') : Nat) := by
  obtain ⟨F, f1, f2⟩ := exists_sorted feet
  obtain ⟨Q, p1, p2⟩ := exists_sorted pairs
  obtain ⟨h, s, hs, e⟩ := few_of_cz (top := top) f1 ((List.reverse_perm Q).trans p1) f2 (rev_desc p2) t2
  exact ⟨s, hs, fun s' => by rw [← e]; exact h.2 s'⟩
structure HallOk (feet pairs : List Int) : Prop where
  f1 : 1 ≤ feet.length
  f2 : feet.length ≤ 40
  p2 : pairs.length ≤ 40
  fi : In1 (10 ^ 6) feet
  pi : In1 (10 ^ 6) pairs
abbrev InR (m : Nat) (l : List Int) : Prop := ∀ j ∈ l, 0 ≤ j ∧ j < (m : Int)
theorem cons_erase {α : Type} : ∀ {l : List α} {k : Nat} (h : k < l.length), (l[k] :: l.eraseIdx k).Perm l
  | a :: l, 0, _ => List.Perm.refl _
  | a :: l, k + 1, h => by
    have ih := cons_erase (l := l) (k := k) (by simpa using h)
    show (l[k]'(by simpa using h) :: a :: l.eraseIdx k).Perm (a :: l)
    exact (List.Perm.swap _ _ _).trans (ih.cons a)
theorem eqv_int (a b : Int) : PyData.eqv (.int a) (.int b) = decide (a = b) := by rfl
theorem enum_ints (xs : List Int) : enumD (xs.map .int) = (intsN xs.length).map fun j => .tuple [.int j, .int (getI xs j)] := by
  apply List.ext_getElem?
  intro i
  unfold enumD intsN getI
  simp only [List.getElem?_map, List.getElem?_zipIdx, List.map_map]
  by_cases h : i < xs.length
  · simp [h]
  · simp [h]
theorem atI0 (j : Int) (js : List Int) : atI ((j :: js).map PyData.int) 0 = some (.int j) := by
  unfold atI ixN
  rw [if_pos (Int.le_refl 0), if_pos (by rw [List.length_map, List.length_cons]; omega)]
  rfl
theorem eraseIdx_map' {α β : Type} (f : α → β) : ∀ (l : List α) (k : Nat), (l.map f).eraseIdx k = (l.eraseIdx k).map f
  | [], _ => by simp
  | a :: l, 0 => rfl
  | a :: l, k + 1 => by simp [eraseIdx_map' f l k]
/-- a run, as pairs of numbers -/
structure RunOk (f p : Nat) (run : List (Int × Int)) : Prop where
  g : (run.map (·.1)).Perm (intsN f)
  s : ∀ q ∈ run, -1 ≤ q.2 ∧ (q.2 < (p : Int) ∨ q.2 = -1)
theorem intsN_len (m : Nat) : (intsN m).length = m := by simp [intsN]
theorem RunOk.len {f p : Nat} {run : List (Int × Int)} (h : RunOk f p run) : run.length = f := by
  have := h.g.length_eq
  rwa [List.length_map, intsN_len] at this
theorem RunOk.nd {f p : Nat} {run : List (Int × Int)} (h : RunOk f p run) : (run.map (·.1)).Nodup := h.g.nodup_iff.mpr ((intsN_lt f).imp fun h => Int.ne_of_lt h)
theorem RunOk.fst {f p : Nat} {run : List (Int × Int)} (h : RunOk f p run) {q : Int × Int} (hq : q ∈ run) : 0 ≤ q.1 ∧ q.1 < (f : Int) := mem_intsN (h.g.mem_iff.mp (List.mem_map_of_mem hq))
def shodL (f : Nat) (run : List (Int × Int)) : List Int := (intsN f).filter fun g => run.any fun q => decide (q.1 = g ∧ q.2 ≠ -1)
def leftL (p : Nat) (run : List (Int × Int)) : List Int := (intsN p).filter fun j => !(run.any fun q => decide (q.2 = j))
theorem sorted_uniq : ∀ {l m : List Int}, l.Perm m → l.Pairwise (· ≤ ·) → m.Pairwise (· ≤ ·) → l = m
  | [], m, hp, _, _ => hp.nil_eq
  | a :: l, [], hp, _, _ => hp.eq_nil
  | a :: l, b :: m, hp, h1, h2 => by
    obtain ⟨p1, p2⟩ := List.pairwise_cons.mp h1
    obtain ⟨q1, q2⟩ := List.pairwise_cons.mp h2
    have e : a = b := by
      have ha : a ∈ b :: m := hp.mem_iff.mp (by simp)
      have hb : b ∈ a :: l := hp.mem_iff.mpr (by simp)
      rcases List.mem_cons.mp ha with h | h
      · exact h
      · rcases List.mem_cons.mp hb with h' | h'
        · exact h'.symm
        · exact Int.le_antisymm (p1 b h') (q1 a h)
    subst e
    rw [sorted_uniq hp.cons_inv p2 q2]
theorem shod_uniq {f p : Nat} {run : List (Int × Int)} (h : RunOk f p run) {ns : List Int} (hp : ns.Perm ((run.filter fun q => decide (q.2 ≠ -1)).map (·.1))) (hs : ns.Pairwise (· ≤ ·)) : ns = shodL f run := by
  have nd2 : ((run.filter fun q => decide (q.2 ≠ -1)).map (·.1)).Nodup := h.nd.sublist ((List.filter_sublist).map _)
  have srt : (shodL f run).Pairwise (· < ·) := (intsN_lt f).filter _
  refine sorted_uniq (hp.trans ?_) hs (srt.imp fun h => Int.le_of_lt h)
  refine (List.perm_ext_iff_of_nodup nd2 (srt.imp fun h => Int.ne_of_lt h)).mpr fun g => ?_
  unfold shodL
  rw [List.mem_filter, List.mem_map, List.any_eq_true]
  constructor
  · rintro ⟨q, hq, rfl⟩
    obtain ⟨q1, q2⟩ := List.mem_filter.mp hq
    exact ⟨h.g.mem_iff.mp (List.mem_map_of_mem q1), q, q1, decide_eq_true ⟨rfl, of_decide_eq_true q2⟩⟩
  · rintro ⟨_, q, q1, q2⟩
    obtain ⟨rfl, q3⟩ := of_decide_eq_true q2
    exact ⟨q, List.mem_filter.mpr ⟨q1, decide_eq_true q3⟩, rfl⟩
theorem rng_ints (m : Nat) : rngD 0 ((m : Nat) : Int).toNat = (intsN m).map PyData.int := by
  unfold rngD intsN
  rw [List.map_map, Int.toNat_natCast]
  exact List.map_congr_left fun k _ => by show PyData.int (0 + (k : Int)) = PyData.int k; rw [Int.zero_add]
theorem any_eqv (l : List Int) (x : Int) : ((l.map PyData.int).any fun z => PyData.eqv z (.int x)) = l.any fun y => decide (y = x) := by
  rw [List.any_map]
  rfl
theorem sh_int (i : Int) : Sh (.int i) := rfl
/-- a pair fits a guest -/
def fitG (feet pairs : List Int) (g j : Int) : Bool := decide (getI feet g ≤ getI pairs j)
/-- how the guests go: each takes a pair that fits, that the rule likes, or there is none -/
def Gs (rl : Int → Int → Prop) (feet pairs : List Int) : List Int → List (Int × Int) → Prop
  | _, [] => True
  | left, q :: r => ((∀ j ∈ left, fitG feet pairs q.1 j = false) ∧ q.2 = -1 ∧ Gs rl feet pairs left r) ∨
      (q.2 ∈ left ∧ fitG feet pairs q.1 q.2 = true ∧ (∀ i ∈ left, fitG feet pairs q.1 i = true → rl q.2 i) ∧ Gs rl feet pairs (left.erase q.2) r)
def srv (run : List (Int × Int)) : Nat := (run.filter fun q => decide (q.2 ≠ -1)).length
theorem srv_cons (q : Int × Int) (r : List (Int × Int)) : srv (q :: r) = srv r + if q.2 = -1 then 0 else 1 := by
  unfold srv
  rw [List.filter_cons]
  by_cases h : q.2 = -1
  · rw [if_pos h, if_neg (by simp [h])]; rfl
  · rw [if_neg h, if_pos (by simpa using h)]; rfl
theorem Gs.mono {rl rl' : Int → Int → Prop} {feet pairs : List Int} (h : ∀ a b, rl a b → rl' a b) : ∀ {run : List (Int × Int)} {left : List Int}, Gs rl feet pairs left run → Gs rl' feet pairs left run
  | [], _, _ => trivial
  | q :: r, left, g => by
    rcases g with ⟨a, b, c⟩ | ⟨a, b, c, d⟩
    · exact .inl ⟨a, b, c.mono h⟩
    · exact .inr ⟨a, b, fun i hi hf => h _ _ (c i hi hf), d.mono h⟩
theorem Gs.perm {rl : Int → Int → Prop} {feet pairs : List Int} : ∀ {run : List (Int × Int)} {left left' : List Int}, left.Perm left' → Gs rl feet pairs left run → Gs rl feet pairs left' run
  | [], _, _, _, _ => trivial
  | q :: r, left, left', hp, g => by
    rcases g with ⟨a, b, c⟩ | ⟨a, b, c, d⟩
    · exact .inl ⟨fun j hj => a j (hp.mem_iff.mpr hj), b, c.perm hp⟩
    · exact .inr ⟨hp.mem_iff.mp a, b, fun i hi => c i (hp.mem_iff.mpr hi), d.perm (hp.erase _)⟩
/-- feet and sizes that are still there -/
def ftR (feet : List Int) (run : List (Int × Int)) : List Int := run.map fun q => getI feet q.1
def szL (pairs left : List Int) : List Int := left.map (getI pairs)
theorem cP_erase (pairs : List Int) {left : List Int} {j : Int} (h : j ∈ left) (s : Int) : cP (szL pairs left) s = cP (szL pairs (left.erase j)) s + if s ≤ getI pairs j then 1 else 0 := by
  have := (List.perm_cons_erase h).map (getI pairs)
  unfold szL
  rw [cP_perm this, List.map_cons, cP_cons]
theorem cF_mono (l : List Int) {s t : Int} (h : s ≤ t) : cF l s ≤ cF l t := by
  unfold cF
  rw [← List.countP_eq_length_filter, ← List.countP_eq_length_filter]
  exact List.countP_mono_left fun x _ hx => decide_eq_true (Int.lt_of_lt_of_le (of_decide_eq_true hx) h)
theorem ne_of_left {left : List Int} (hn : ∀ j ∈ left, 0 ≤ j) {j : Int} (h : j ∈ left) : ¬ j = -1 := by have := hn j h; omega
theorem none_cP {feet pairs left : List Int} {g : Int} (a : ∀ j ∈ left, fitG feet pairs g j = false) : cP (szL pairs left) (getI feet g) = 0 := cP_zero fun x hx => by
  obtain ⟨j, hj, rfl⟩ := List.mem_map.mp hx
  have := of_decide_eq_false (a j hj)
  omega
/-- in each run at most as many are served as every size tells -/
theorem gs_upper {rl : Int → Int → Prop} {feet pairs : List Int} : ∀ {run : List (Int × Int)} {left : List Int}, (∀ j ∈ left, 0 ≤ j) → Gs rl feet pairs left run → ∀ s, srv run ≤ cF (ftR feet run) s + cP (szL pairs left) s
  | [], _, _, _, _ => Nat.zero_le _
  | q :: r, left, hn, g, s => by
    rw [srv_cons]
    show _ ≤ cF (getI feet q.1 :: ftR feet r) s + _
    rw [cF_cons]
    rcases g with ⟨_, b, c⟩ | ⟨a, b, _, d⟩
    · rw [if_pos b]
      have := gs_upper hn c s
      omega
    · have := gs_upper (fun j hj => hn j (List.mem_of_mem_erase hj)) d s
      rw [if_neg (ne_of_left hn a), cP_erase pairs a]
      have := of_decide_eq_true b
      split <;> split <;> omega
/-- .. and at least as many as some size tells -/
theorem gs_lower {rl : Int → Int → Prop} {feet pairs : List Int} (top : Int) : ∀ {run : List (Int × Int)} {left : List Int}, (∀ j ∈ left, 0 ≤ j) → (∀ j ∈ left, getI pairs j < top) → Gs rl feet pairs left run → ∃ s, max (cF (ftR feet run) s) (cP (szL pairs left) s) ≤ srv run
  | [], left, _, ht, _ => ⟨top, by
    have : cP (szL pairs left) top = 0 := cP_zero fun x hx => by obtain ⟨j, hj, rfl⟩ := List.mem_map.mp hx; exact ht j hj
    rw [this]
    exact Nat.le_refl _⟩
  | q :: r, left, hn, ht, g => by
    rw [srv_cons]
    rcases g with ⟨a, b, c⟩ | ⟨a, b, _, d⟩
    · rw [if_pos b]
      obtain ⟨s, hs⟩ := gs_lower top hn ht c
      by_cases h : s ≤ getI feet q.1
      · refine ⟨s, ?_⟩
        show max (cF (getI feet q.1 :: ftR feet r) s) _ ≤ _
        rw [cF_cons, if_neg (by omega)]
        exact hs
      · refine ⟨getI feet q.1, ?_⟩
        show max (cF (getI feet q.1 :: ftR feet r) _) _ ≤ _
        rw [cF_cons, if_neg (by omega), none_cP a]
        have := cF_mono (ftR feet r) (s := getI feet q.1) (t := s) (by omega)
        omega
    · rw [if_neg (ne_of_left hn a)]
      obtain ⟨s, hs⟩ := gs_lower top (fun j hj => hn j (List.mem_of_mem_erase hj)) (fun j hj => ht j (List.mem_of_mem_erase hj)) d
      refine ⟨s, ?_⟩
      show max (cF (getI feet q.1 :: ftR feet r) s) _ ≤ _
      rw [cF_cons, cP_erase pairs a]
      split <;> split <;> omega
/-- if all take the smallest pair, some size tells just their number -/
theorem gs_small {feet pairs : List Int} (top : Int) : ∀ {run : List (Int × Int)} {left : List Int}, (∀ j ∈ left, 0 ≤ j) → (∀ j ∈ left, getI pairs j < top) → Gs (fun a b => getI pairs a ≤ getI pairs b) feet pairs left run → ∃ s, cF (ftR feet run) s + cP (szL pairs left) s ≤ srv run
  | [], left, _, ht, _ => ⟨top, by
    have : cP (szL pairs left) top = 0 := cP_zero fun x hx => by obtain ⟨j, hj, rfl⟩ := List.mem_map.mp hx; exact ht j hj
    rw [this]
    exact Nat.le_refl _⟩
  | q :: r, left, hn, ht, g => by
    rw [srv_cons]
    rcases g with ⟨a, b, c⟩ | ⟨a, b, e, d⟩
    · rw [if_pos b]
      obtain ⟨s, hs⟩ := gs_small top hn ht c
      by_cases h : s ≤ getI feet q.1
      · refine ⟨s, ?_⟩
        show cF (getI feet q.1 :: ftR feet r) s + _ ≤ _
        rw [cF_cons, if_neg (by omega)]
        exact hs
      · refine ⟨getI feet q.1, ?_⟩
        show cF (getI feet q.1 :: ftR feet r) _ + _ ≤ _
        rw [cF_cons, if_neg (by omega), none_cP a]
        have := cF_mono (ftR feet r) (s := getI feet q.1) (t := s) (by omega)
        omega
    · rw [if_neg (ne_of_left hn a)]
      have hb := of_decide_eq_true b
      obtain ⟨s, hs⟩ := gs_small top (fun j hj => hn j (List.mem_of_mem_erase hj)) (fun j hj => ht j (List.mem_of_mem_erase hj)) d
      by_cases h : getI feet q.1 < s ∧ s ≤ getI pairs q.2
      · refine ⟨getI feet q.1, ?_⟩
        show cF (getI feet q.1 :: ftR feet r) _ + _ ≤ _
        rw [cF_cons, if_neg (by omega), cP_erase pairs a, if_pos hb]
        have h1 := cF_mono (ftR feet r) (s := getI feet q.1) (t := s) (by omega)
        have h2 : cP (szL pairs (left.erase q.2)) (getI feet q.1) ≤ cP (szL pairs (left.erase q.2)) s := by
          unfold cP
          rw [← List.countP_eq_length_filter, ← List.countP_eq_length_filter]
          refine List.countP_mono_left fun x hx hq => ?_
          obtain ⟨i, hi, rfl⟩ := List.mem_map.mp hx
          have := e i (List.mem_of_mem_erase hi) hq
          exact decide_eq_true (by omega)
        omega
      · refine ⟨s, ?_⟩
        show cF (getI feet q.1 :: ftR feet r) s + _ ≤ _
        rw [cF_cons, cP_erase pairs a]
        split <;> split <;> omega
/-- if the feet ascend and all take the largest pair, no more are served than every size tells -/
theorem gs_large {feet pairs : List Int} : ∀ {run : List (Int × Int)} {left : List Int}, (∀ j ∈ left, 0 ≤ j) → (ftR feet run).Pairwise (· ≤ ·) → Gs (fun a b => getI pairs b ≤ getI pairs a) feet pairs left run → ∀ s, srv run ≤ max (cF (ftR feet run) s) (cP (szL pairs left) s)
  | [], _, _, _, _, _ => Nat.zero_le _
  | q :: r, left, hn, hp, g, s => by
    rw [srv_cons]
    obtain ⟨p1, p2⟩ : (∀ x ∈ ftR feet r, getI feet q.1 ≤ x) ∧ (ftR feet r).Pairwise (· ≤ ·) := List.pairwise_cons.mp hp
    show _ ≤ max (cF (getI feet q.1 :: ftR feet r) s) _
    rw [cF_cons]
    rcases g with ⟨a, b, c⟩ | ⟨a, b, e, d⟩
    · rw [if_pos b]
      have h0 := gs_large hn p2 c (getI feet q.1)
      rw [none_cP a, cF_zero p1] at h0
      omega
    · rw [if_neg (ne_of_left hn a)]
      have hb := of_decide_eq_true b
      have hs := gs_large (fun j hj => hn j (List.mem_of_mem_erase hj)) p2 d s
      rw [cP_erase pairs a]
      by_cases h1 : s ≤ getI feet q.1
      · rw [if_neg (show ¬ getI feet q.1 < s by omega), if_pos (show s ≤ getI pairs q.2 by omega)]
        have : cF (ftR feet r) s = 0 := cF_zero fun x hx => Int.le_trans h1 (p1 x hx)
        omega
      · by_cases h2 : s ≤ getI pairs q.2
        · rw [if_pos (show getI feet q.1 < s by omega), if_pos h2]; omega
        · rw [if_pos (show getI feet q.1 < s by omega), if_neg h2]
          have : cP (szL pairs (left.erase q.2)) s = 0 := cP_zero fun x hx => by
            obtain ⟨i, hi, rfl⟩ := List.mem_map.mp hx
            have hi' := List.mem_of_mem_erase hi
            by_cases f : fitG feet pairs q.1 i = true
            · have := e i hi' f; omega
            · have := of_decide_eq_false (Bool.eq_false_iff.mpr f); omega
          omega
/-- the guests one after another, by a list of liking -/
def byL (feet pairs : List Int) : List Int → List Int → List (Int × Int)
  | _, [] => []
  | left, g :: order =>
    match left.filter fun j => decide (getI feet g ≤ getI pairs j) with
    | [] => (g, -1) :: byL feet pairs left order
    | j :: _ => (g, j) :: byL feet pairs (left.erase j) order
theorem byL_nil {feet pairs left : List Int} {g : Int} {order : List Int} (e : (left.filter fun j => decide (getI feet g ≤ getI pairs j)) = []) : byL feet pairs left (g :: order) = (g, -1) :: byL feet pairs left order := by
  rw [byL]; simp only [e]
theorem byL_cons {feet pairs left : List Int} {g j : Int} {js order : List Int} (e : (left.filter fun j => decide (getI feet g ≤ getI pairs j)) = j :: js) : byL feet pairs left (g :: order) = (g, j) :: byL feet pairs (left.erase j) order := by
  rw [byL]; simp only [e]
theorem byL_fold (feet pairs : List Int) : ∀ (order left : List Int) (r : List (Int × Int)), (order.foldl (stepF feet pairs) (left, r)).2 = r ++ byL feet pairs left order
  | [], _, r => by simp [byL]
  | g :: order, left, r => by
    rw [List.foldl_cons]
    cases e : left.filter fun j => decide (getI feet g ≤ getI pairs j) with
    | nil =>
      rw [show stepF feet pairs (left, r) g = (left, r ++ [(g, -1)]) by unfold stepF; simp only [e], byL_fold feet pairs order, byL_nil e, List.append_assoc]
      rfl
    | cons j js =>
      rw [show stepF feet pairs (left, r) g = (left.erase j, r ++ [(g, j)]) by unfold stepF; simp only [e], byL_fold feet pairs order, byL_cons e, List.append_assoc]
      rfl
theorem byL_fst (feet pairs : List Int) : ∀ (order left : List Int), (byL feet pairs left order).map (·.1) = order
  | [], _ => rfl
  | g :: order, left => by
    unfold byL
    split
    · rw [List.map_cons, byL_fst feet pairs order]
    · rw [List.map_cons, byL_fst feet pairs order]
theorem byL_gs {rl : Int → Int → Prop} (hr : ∀ a, rl a a) (feet pairs : List Int) : ∀ (order left : List Int), left.Pairwise rl → Gs rl feet pairs left (byL feet pairs left order)
  | [], _, _ => trivial
  | g :: order, left, hp => by
    unfold byL
    split
    · rename_i e
      refine .inl ⟨fun j hj => ?_, rfl, byL_gs hr feet pairs order left hp⟩
      have := List.filter_eq_nil_iff.mp e j hj
      exact Bool.eq_false_iff.mpr this
    · rename_i j js e
      have hj : j ∈ left.filter fun j => decide (getI feet g ≤ getI pairs j) := by rw [e]; simp
      obtain ⟨h1, h2⟩ := List.mem_filter.mp hj
      refine .inr ⟨h1, h2, fun i hi hf => ?_, byL_gs hr feet pairs order (left.erase j) (hp.sublist List.erase_sublist)⟩
      have hi : i ∈ left.filter fun j => decide (getI feet g ≤ getI pairs j) := List.mem_filter.mpr ⟨hi, hf⟩
      have hps := hp.filter fun j => decide (getI feet g ≤ getI pairs j)
      rw [e] at hi hps
      rcases List.mem_cons.mp hi with rfl | hi
      · exact hr _
      · exact (List.pairwise_cons.mp hps).1 i hi
/-- a run of the hall -/
structure RunV (rl : Int → Int → Prop) (feet pairs : List Int) (run : List (Int × Int)) : Prop where
  g : (run.map (·.1)).Perm (intsN feet.length)
  s : Gs rl feet pairs (intsN pairs.length) run
abbrev anyR : Int → Int → Prop := fun _ _ => True
theorem RunV.any {rl : Int → Int → Prop} {feet pairs : List Int} {run : List (Int × Int)} (h : RunV rl feet pairs run) : RunV anyR feet pairs run := ⟨h.g, h.s.mono fun _ _ _ => trivial⟩
theorem szL_ints (xs : List Int) : szL xs (intsN xs.length) = xs := by
  unfold szL intsN
  rw [List.map_map]
  apply List.ext_getElem?
  intro i
  rw [List.getElem?_map]
  by_cases h : i < xs.length
  · simp [h, getI]
  · simp [h]
theorem ftR_perm {rl : Int → Int → Prop} {feet pairs : List Int} {run : List (Int × Int)} (h : RunV rl feet pairs run) : (ftR feet run).Perm feet := by
  have := h.g.map (getI feet)
  rw [List.map_map] at this
  have e := szL_ints feet
  unfold szL at e
  rw [e] at this
  exact this
theorem run_le {rl : Int → Int → Prop} {feet pairs : List Int} {run : List (Int × Int)} (h : RunV rl feet pairs run) (s : Int) : srv run ≤ cF feet s + cP pairs s := by
  have := gs_upper (fun j hj => (mem_intsN hj).1) h.s s
  rwa [cF_perm (ftR_perm h), szL_ints] at this
theorem getI_lt {xs : List Int} {top : Int} (h : ∀ x ∈ xs, x < top) {j : Int} (hj : j ∈ intsN xs.length) : getI xs j < top := by
  have := mem_intsN hj
  have hk : j.toNat < xs.length := by omega
  unfold getI
  rw [List.getElem?_eq_getElem hk]
  exact h _ (List.getElem_mem hk)
theorem exists_top (xs : List Int) : ∃ top : Int, ∀ x ∈ xs, x < top := by
  induction xs with
  | nil => exact ⟨0, fun _ h => nomatch h⟩
  | cons a l ih =>
    obtain ⟨t, h⟩ := ih
    refine ⟨max (a + 1) t, fun x hx => ?_⟩
    rcases List.mem_cons.mp hx with rfl | hx
    · omega
    · have := h x hx; omega
theorem run_ge {rl : Int → Int → Prop} {feet pairs : List Int} {run : List (Int × Int)} (h : RunV rl feet pairs run) : ∃ s, max (cF feet s) (cP pairs s) ≤ srv run := by
  obtain ⟨top, ht⟩ := exists_top pairs
  obtain ⟨s, hs⟩ := gs_lower top (fun j hj => (mem_intsN hj).1) (fun j hj => getI_lt ht hj) h.s
  rw [cF_perm (ftR_perm h), szL_ints] at hs
  exact ⟨s, hs⟩
theorem run_most {rl : Int → Int → Prop} {feet pairs : List Int} {run : List (Int × Int)} (h : RunV rl feet pairs run) {m : Int} (hm : IsMost feet pairs m) : (srv run : Int) ≤ m := by
  obtain ⟨⟨s, e⟩, _⟩ := hm
  have := run_le h s
  omega
theorem run_few {rl : Int → Int → Prop} {feet pairs : List Int} {run : List (Int × Int)} (h : RunV rl feet pairs run) {m : Int} (hm : IsFew feet pairs m) : m ≤ (srv run : Int) := by
  obtain ⟨s, e⟩ := run_ge h
  have := hm.2 s
  omega
theorem run_small {feet pairs : List Int} {run : List (Int × Int)} (h : RunV (fun a b => getI pairs a ≤ getI pairs b) feet pairs run) {m : Int} (hm : IsMost feet pairs m) : (srv run : Int) = m := by
  obtain ⟨top, ht⟩ := exists_top pairs
  obtain ⟨s, hs⟩ := gs_small top (fun j hj => (mem_intsN hj).1) (fun j hj => getI_lt ht hj) h.s
  rw [cF_perm (ftR_perm h), szL_ints] at hs
  have := hm.2 s
  have := run_most h hm
  omega
theorem run_large {feet pairs : List Int} {run : List (Int × Int)} (h : RunV (fun a b => getI pairs b ≤ getI pairs a) feet pairs run) (hs : (ftR feet run).Pairwise (· ≤ ·)) {m : Int} (hm : IsFew feet pairs m) : (srv run : Int) = m := by
  obtain ⟨s, e⟩ := hm.1
  have h1 := gs_large (fun j hj => (mem_intsN hj).1) hs h.s s
  rw [cF_perm (ftR_perm h), szL_ints] at h1
  have := run_few h hm
  omega
instance (key : Int → Int) (a b : Int) : Decidable (Lx key a b) := inferInstanceAs (Decidable (_ ∨ _))
def likeO (key : Int → Int) (m : Nat) : List Int := (intsN m).mergeSort fun a b => decide (Lx key a b)
theorem likeO_perm (key : Int → Int) (m : Nat) : (likeO key m).Perm (intsN m) := List.mergeSort_perm _ _
theorem likeO_sorted (key : Int → Int) (m : Nat) : (likeO key m).Pairwise (Lx key) := by
  refine (List.pairwise_mergeSort (fun a b c h1 h2 => ?_) (fun a b => ?_) (intsN m)).imp fun h => of_decide_eq_true h
  · have h1 := of_decide_eq_true h1
    have h2 := of_decide_eq_true h2
    refine decide_eq_true ?_
    unfold Lx at *
    omega
  · rw [Bool.or_eq_true, decide_eq_true_eq, decide_eq_true_eq]
    unfold Lx
    omega
theorem Lx_uniq {key : Int → Int} : ∀ {l m : List Int}, l.Perm m → l.Pairwise (Lx key) → m.Pairwise (Lx key) → l = m
  | [], m, hp, _, _ => hp.nil_eq
  | a :: l, [], hp, _, _ => hp.eq_nil
  | a :: l, b :: m, hp, h1, h2 => by
    obtain ⟨p1, p2⟩ := List.pairwise_cons.mp h1
    obtain ⟨q1, q2⟩ := List.pairwise_cons.mp h2
    have e : a = b := by
      have ha : a ∈ b :: m := hp.mem_iff.mp (by simp)
      have hb : b ∈ a :: l := hp.mem_iff.mpr (by simp)
      rcases List.mem_cons.mp ha with h | h
      · exact h
      · rcases List.mem_cons.mp hb with h' | h'
        · exact h'.symm
        · have x := p1 b h'
          have y := q1 a h
          unfold Lx at x y
          omega
    subst e
    rw [Lx_uniq hp.cons_inv p2 q2]
theorem ruled_byL (key : Int → Int) (feet pairs order : List Int) : ruled key feet pairs order = byL feet pairs (likeO key pairs.length) order := by
  unfold ruled
  rw [← run_same key feet pairs order (likeO key pairs.length) (intsN pairs.length) [] (likeO_perm _ _) (likeO_sorted _ _) (intsN_lt _) fun x hx => (mem_intsN hx).1, byL_fold]
  rfl
theorem ruled_runV (key : Int → Int) (feet pairs : List Int) {order : List Int} (h : order.Perm (intsN feet.length)) : RunV (Lx key) feet pairs (ruled key feet pairs order) := by
  rw [ruled_byL]
  exact ⟨by rw [byL_fst]; exact h, (byL_gs (fun a => .inr ⟨rfl, Int.le_refl a⟩) feet pairs order _ (likeO_sorted _ _)).perm (likeO_perm _ _)⟩
theorem ruled_small (feet pairs : List Int) {order : List Int} (h : order.Perm (intsN feet.length)) : RunV (fun a b => getI pairs a ≤ getI pairs b) feet pairs (ruled (getI pairs) feet pairs order) :=
  let r := ruled_runV (getI pairs) feet pairs h
  ⟨r.g, r.s.mono fun a b h => by unfold Lx at h; omega⟩
theorem ruled_large (feet pairs : List Int) {order : List Int} (h : order.Perm (intsN feet.length)) : RunV (fun a b => getI pairs b ≤ getI pairs a) feet pairs (ruled (fun j => -getI pairs j) feet pairs order) :=
  let r := ruled_runV (fun j => -getI pairs j) feet pairs h
  ⟨r.g, r.s.mono fun a b h => by unfold Lx at h; simp only at h; omega⟩
def obf (feet : List Int) : List Int := likeO (getI feet) feet.length
theorem obf_perm (feet : List Int) : (obf feet).Perm (intsN feet.length) := likeO_perm _ _
theorem obf_rise (feet pairs : List Int) (key : Int → Int) : (ftR feet (ruled key feet pairs (obf feet))).Pairwise (· ≤ ·) := by
  have e : ftR feet (ruled key feet pairs (obf feet)) = (obf feet).map (getI feet) := by
    unfold ftR
    rw [ruled_byL]
    conv => rhs; rw [← byL_fst feet pairs (obf feet) (likeO key pairs.length), List.map_map]
    rfl
  rw [e, List.pairwise_map]
  exact (likeO_sorted _ _).imp fun h => by unfold Lx at h; omega
theorem obf_few (feet pairs : List Int) {m : Int} (hm : IsFew feet pairs m) : (srv (ruled (fun j => -getI pairs j) feet pairs (obf feet)) : Int) = m :=
  run_large (ruled_large feet pairs (obf_perm feet)) (obf_rise _ _ _) hm
/-- sorted, each once -/
def insU (a : Int) : List Int → List Int
  | [] => [a]
  | b :: l => if a < b then a :: b :: l else if a = b then b :: l else b :: insU a l
theorem mem_insU {a x : Int} : ∀ {l : List Int}, x ∈ insU a l ↔ x = a ∨ x ∈ l
  | [] => by simp [insU]
  | b :: l => by
    unfold insU
    split
    · simp
    · split
      · rename_i h; subst h; simp
      · rw [List.mem_cons, mem_insU (l := l), List.mem_cons]
        constructor
        · rintro (h | h | h) <;> simp [h]
        · rintro (h | h | h) <;> simp [h]
theorem insU_sorted (a : Int) : ∀ {l : List Int}, l.Pairwise (· < ·) → (insU a l).Pairwise (· < ·)
  | [], _ => List.pairwise_singleton _ _
  | b :: l, h => by
    obtain ⟨h1, h2⟩ := List.pairwise_cons.mp h
    unfold insU
    split
    · rename_i hab
      exact List.pairwise_cons.mpr ⟨fun x hx => by
        rcases List.mem_cons.mp hx with rfl | hx
        · exact hab
        · exact Int.lt_trans hab (h1 x hx), h⟩
    · split
      · exact h
      · refine List.pairwise_cons.mpr ⟨fun x hx => ?_, insU_sorted a h2⟩
        rcases mem_insU.mp hx with rfl | hx
        · omega
        · exact h1 x hx
def sd (xs : List Int) : List Int := xs.foldr insU []
theorem sd_sorted : ∀ xs : List Int, (sd xs).Pairwise (· < ·)
  | [] => List.Pairwise.nil
  | x :: xs => insU_sorted x (sd_sorted xs)
theorem mem_sd {k : Int} : ∀ {xs : List Int}, k ∈ sd xs ↔ k ∈ xs
  | [] => Iff.rfl
  | x :: xs => by
    show k ∈ insU x (sd xs) ↔ _
    rw [mem_insU, mem_sd (xs := xs), List.mem_cons]
theorem sd_uniq {xs ms : List Int} (h : ms.Pairwise (· < ·)) (hm : ∀ k, k ∈ ms ↔ k ∈ xs) : ms = sd xs := by
  have hp : ms.Perm (sd xs) := (List.perm_ext_iff_of_nodup (h.imp fun h => Int.ne_of_lt h) ((sd_sorted xs).imp fun h => Int.ne_of_lt h)).mpr fun k => (hm k).trans mem_sd.symm
  exact Lx_uniq (key := id) hp (h.imp fun h => .inl h) ((sd_sorted xs).imp fun h => .inl h)
theorem like_of {key : Int → Int} {m : Nat} {qs : List (Int × Int)} (hp : qs.Perm ((intsN m).map fun j => (key j, j))) (hs : qs.Pairwise fun p q => p.1 < q.1 ∨ (p.1 = q.1 ∧ p.2 ≤ q.2)) : qs.map (·.2) = likeO key m := by
  have hp2 : (qs.map (·.2)).Perm (intsN m) := by
    have := hp.map (·.2)
    rw [List.map_map] at this
    rwa [show ((fun x : Int × Int => x.2) ∘ fun j => (key j, j)) = id from rfl, List.map_id] at this
  refine Lx_uniq (hp2.trans (likeO_perm key m).symm) ?_ (likeO_sorted key m)
  rw [List.pairwise_map]
  refine hs.imp_of_mem fun {a b} ha hb h => ?_
  obtain ⟨x, _, rfl⟩ := List.mem_map.mp (hp.mem_iff.mp ha)
  obtain ⟨y, _, rfl⟩ := List.mem_map.mp (hp.mem_iff.mp hb)
  exact h
theorem RunV.len {rl : Int → Int → Prop} {feet pairs : List Int} {run : List (Int × Int)} (h : RunV rl feet pairs run) : run.length = feet.length := by
  have := h.g.length_eq
  rwa [List.length_map, intsN_len] at this
theorem RunV.nd {rl : Int → Int → Prop} {feet pairs : List Int} {run : List (Int × Int)} (h : RunV rl feet pairs run) : (run.map (·.1)).Nodup := h.g.nodup_iff.mpr ((intsN_lt _).imp fun h => Int.ne_of_lt h)
theorem RunV.fst {rl : Int → Int → Prop} {feet pairs : List Int} {run : List (Int × Int)} (h : RunV rl feet pairs run) {q : Int × Int} (hq : q ∈ run) : 0 ≤ q.1 ∧ q.1 < (feet.length : Int) := mem_intsN (h.g.mem_iff.mp (List.mem_map_of_mem hq))
theorem gs_snd {rl : Int → Int → Prop} {feet pairs : List Int} : ∀ {run : List (Int × Int)} {left : List Int}, Gs rl feet pairs left run → ∀ q ∈ run, q.2 = -1 ∨ q.2 ∈ left
  | [], _, _, _, h => nomatch h
  | p :: r, left, g, q, hq => by
    rcases List.mem_cons.mp hq with rfl | hq
    · rcases g with ⟨_, b, _⟩ | ⟨a, _⟩
      · exact .inl b
      · exact .inr a
    · rcases g with ⟨_, _, c⟩ | ⟨_, _, _, d⟩
      · exact gs_snd c q hq
      · exact (gs_snd d q hq).imp id List.mem_of_mem_erase
theorem RunV.snd {rl : Int → Int → Prop} {feet pairs : List Int} {run : List (Int × Int)} (h : RunV rl feet pairs run) {q : Int × Int} (hq : q ∈ run) : -1 ≤ q.2 ∧ (q.2 < (pairs.length : Int) ∨ q.2 = -1) := by
  rcases gs_snd h.s q hq with e | e
  · exact ⟨by omega, .inr e⟩
  · have := mem_intsN e; exact ⟨by omega, .inl this.2⟩
theorem ifN {b : Bool} {A B : Prop} (hb : b = true) (h : B) : if (!b) = true then A else B := by subst hb; exact h
theorem ifF {b : Bool} {A B : Prop} (hb : b = false) (h : B) : if b = true then A else B := by subst hb; exact iteF h
theorem ifNF {b : Bool} {A B : Prop} (hb : b = false) (h : A) : if (!b) = true then A else B := by subst hb; exact h
theorem iteD {c A B : Prop} [Decidable c] (hc : c) (h : A) : if decide c = true then A else B := by rw [if_pos (decide_eq_true hc)]; exact h
theorem iteDF {c A B : Prop} [Decidable c] (hc : ¬ c) (h : B) : if decide c = true then A else B := by rw [if_neg (fun q => hc (of_decide_eq_true q))]; exact h
theorem isi_tt (ds : List PyData) : isiB (tyD (.tuple ds)) "tuple" = true := show isiB "tuple" "tuple" = true by decide +kernel
theorem isi_ii (i : Int) : isiB (tyD (.int i)) "int" = true := show isiB "int" "int" = true by decide +kernel
theorem isi_ib (i : Int) : isiB (tyD (.int i)) "bool" = false := show isiB "int" "bool" = false by decide +kernel
theorem isi_bb (i : Bool) : isiB (tyD (.bool i)) "bool" = true := show isiB "bool" "bool" = true by decide +kernel
theorem isi_bi (i : Bool) : isiB (tyD (.bool i)) "int" = true := show isiB "bool" "int" = true by decide +kernel
def runD (run : List (Int × Int)) : PyData := .tuple (run.map prD)
theorem asB_T {c : Bool} {R : Bool → Prop} (hc : c = true) (h : R true) : asB (.dat (.bool c)) R := by subst hc; exact h
theorem asB_F {c : Bool} {R : Bool → Prop} (hc : c = false) (h : R false) : asB (.dat (.bool c)) R := by subst hc; exact h
def srt (P : List Int) : List Int := P.mergeSort fun a b => decide (a ≤ b)
theorem srt_perm (P : List Int) : (srt P).Perm P := List.mergeSort_perm _ _
theorem le_tot (a b : Int) : (decide (a ≤ b) || decide (b ≤ a)) = true := by
  rw [Bool.or_eq_true, decide_eq_true_eq, decide_eq_true_eq]
  exact Int.le_total a b
theorem srt_sorted (P : List Int) : (srt P).Pairwise (· ≤ ·) :=
  (List.pairwise_mergeSort (le := fun a b : Int => decide (a ≤ b)) (fun a b c h1 h2 => decide_eq_true (Int.le_trans (of_decide_eq_true h1) (of_decide_eq_true h2))) le_tot P).imp fun h => of_decide_eq_true h
theorem srt_uniq {P Q : List Int} (hp : Q.Perm P) (hs : Q.Pairwise (· ≤ ·)) : Q = srt P := sorted_uniq (hp.trans (srt_perm P).symm) hs (srt_sorted P)
theorem sh_tints (ns : List Int) : Sh (.tuple (ns.map .int)) :=
  Bool.and_eq_true_iff.mpr ⟨by simp only [PyData.canLay0]; exact canAll fun d hd => by obtain ⟨_, _, rfl⟩ := List.mem_map.mp hd; rfl, decide_eq_true (by
    simp only [PyData.depth]
    exact Nat.le_trans (Nat.succ_le_succ (depthAll_le (k := 0) fun d hd => by obtain ⟨_, _, rfl⟩ := List.mem_map.mp hd; exact Nat.le_refl _)) (by decide))⟩
theorem eqvA_ints : ∀ a b : List Int, PyData.eqvAll (a.map .int) (b.map .int) = decide (a = b)
  | [], [] => by rfl
  | [], _ :: _ => by rfl
  | _ :: _, [] => by rfl
  | x :: xs, y :: ys => by
    show (decide (x = y) && PyData.eqvAll (xs.map .int) (ys.map .int)) = _
    rw [eqvA_ints xs ys]
    by_cases h : x = y <;> by_cases h2 : xs = ys <;> simp [h, h2]
theorem RunV.ok {rl : Int → Int → Prop} {F P : List Int} {run : List (Int × Int)} (h : RunV rl F P run) : RunOk F.length P.length run := ⟨h.g, fun _ hq => h.snd hq⟩
theorem shod_len {f p : Nat} {run : List (Int × Int)} (h : RunOk f p run) : (shodL f run).length = srv run := by
  rw [← shod_uniq h (srt_perm _) (srt_sorted _), (srt_perm _).length_eq, List.length_map]
  rfl
theorem eqv_tints (a b : List Int) : PyData.eqv (.tuple (a.map .int)) (.tuple (b.map .int)) = decide (a = b) := eqvA_ints a b
inductive Cv where
  | run (r : List (Int × Int))
  | tab (ws : List Str)
  | siz (z : Int)
def Cv.d : Cv → PyData
  | .run r => .tuple [.str "run", runD r]
  | .tab ws => .tuple [.str "table", .tuple (ws.map .str)]
  | .siz z => .tuple [.str "size", .int z]
def Cv.pos (feet pairs : List Int) (num : Int) : Cv → Bool
  | .run r => decide (num ≤ (srv r : Int))
  | .tab _ => false
  | .siz z => decide ((cF feet z : Int) + cP pairs z < num)
end DL
set_option maxHeartbeats 0
set_option maxHeartbeats 0
namespace DL
open PySem PySem.Spec PyProof.Rows L2
def numB : PyData → Bool
  | .int _ => true
  | _ => false
def tupB (d : PyData) (a b : Int) : Bool := match d with
  | .tuple ds => decide (a ≤ ds.length) && decide ((ds.length : Int) ≤ b)
  | _ => false
def numIn (d : PyData) (a b : Int) : Bool := match d with
  | .int z => decide (a ≤ z) && decide (z ≤ b)
  | _ => false
theorem tupB_true {d : PyData} {a b : Int} (h : tupB d a b = true) : ∃ ds, d = .tuple ds ∧ a ≤ ds.length ∧ (ds.length : Int) ≤ b := by
  unfold tupB at h
  split at h
  · rw [Bool.and_eq_true, decide_eq_true_eq, decide_eq_true_eq] at h
    exact ⟨_, rfl, h⟩
  · cases h
theorem numIn_true {d : PyData} {a b : Int} (h : numIn d a b = true) : ∃ z, d = .int z ∧ a ≤ z ∧ z ≤ b := by
  unfold numIn at h
  split at h
  · rw [Bool.and_eq_true, decide_eq_true_eq, decide_eq_true_eq] at h
    exact ⟨_, rfl, h⟩
  · cases h
theorem tameE_int {i : Int} {m : Nat} (h : i.natAbs < 2 ^ m) (hm : m ≤ 1000) (h0 : 0 < m) : TameE (m + 3) 0 (.int i) := (tame_int h hm h0).e
theorem all1 {p : PyData → Prop} {a : PyData} (ha : p a) : ∀ d ∈ [a], p d := fun d hd => by rw [List.mem_singleton.mp hd]; exact ha
end DL
set_option maxHeartbeats 0
namespace DL
open PySem PySem.Spec PyProof.Rows L2
abbrev szD (d : PyData) : Bool := numIn d 1 1000000
theorem tup_true {es : List PyData} {a b : Int} (h1 : a ≤ es.length) (h2 : (es.length : Int) ≤ b) : tupB (.tuple es) a b = true := by
  show (decide (a ≤ (es.length : Int)) && decide ((es.length : Int) ≤ b)) = true
  rw [decide_eq_true h1, decide_eq_true h2]; rfl
theorem num_ok (z : Int) : PyData.strOk (toString z : Str) = true := by
  unfold PyData.strOk
  rw [Array.all_eq_true']
  intro c hc
  have h1 : c ∈ (Str.ofString (toString z)).cps.toList := by simpa using hc
  have h2 : ¬ (c ≠ 45 ∧ (c < 48 ∨ 57 < c)) := fun h => int_text_free' c h z h1
  have h3 : c < 58 := by omega
  have key : ∀ c : Nat, c < 58 → (decide (c < 1114112) && !(decide (55296 ≤ c) && decide (c ≤ 57343))) = true := by decide +kernel
  have := key c h3
  simp at this ⊢
  omega
end DL
set_option maxHeartbeats 0
namespace DL
open PySem PySem.Spec PyProof.Rows L2
theorem isDR_dat {d : PyData} (h : isRefD d = false) : isDR (.dat d) = false := Bool.or_eq_false_iff.mpr ⟨rfl, h⟩
theorem Wo.put_at {w : Wo} {a : Addr} {o : Ob} : (w.put a o).ob a = some o := if_pos rfl
theorem Wo.put_ne {w : Wo} {a b : Addr} {o : Ob} (h : b ≠ a) : (w.put a o).ob b = w.ob b := if_neg h
theorem Wo.put_put {w : Wo} {a : Addr} {o u : Ob} : (w.put a o).put a u = w.put a u := by
  unfold Wo.put
  congr 1
  funext b
  simp only
  split <;> rfl
/-- the same, but for the errors that were handled -/
structure Sim (n n' : Wo) : Prop where
  nn : n'.n = n.n
  ob : n'.ob = n.ob
theorem Sim.trans {a b c : Wo} (h : Sim a b) (g : Sim b c) : Sim a c := ⟨g.nn.trans h.nn, g.ob.trans h.ob⟩
end DL
set_option maxHeartbeats 0
set_option maxHeartbeats 4000000
namespace DL
open PySem PySem.Spec PyProof.Rows L2
abbrev Hl := List Int × List Int
def halD (h : Hl) : PyData := hallD h.1 h.2
structure HlOk (h : Hl) : Prop where
  ok : HallOk h.1 h.2
  l1 : h.1.length ≤ 20
  l2 : h.2.length ≤ 20
/-- what a party's object holds -/
structure Pt where
  busy : Bool
  h : Hl
  m : Int
  f : Int
  hs : List Hl
  done : List PyData
def Pt.fs (p : Pt) : List (Str × PyData) := [("_busy", .bool p.busy), ("hall", halD p.h), ("most", .int p.m), ("fewest", .int p.f), ("_halls", .tuple (p.hs.map halD)), ("_done", .tuple p.done)]
structure Pt.Ok (p : Pt) : Prop where
  hh : HlOk p.h
  mo : IsMost p.h.1 p.h.2 p.m
  fe : IsFew p.h.1 p.h.2 p.f
  last : p.hs.getLast? = some p.h
  all : ∀ h ∈ p.hs, HlOk h
  len : p.hs.length = p.done.length + 1
  few : p.done.length ≤ 60
abbrev Out := Sum (Nat × List (Str × PyData)) Hl
def intD : PyData → Int
  | .int z => z
  | _ => 0
def aCome (d : PyData) (h : Hl) : Out := if szD d = true then (if 20 ≤ h.1.length then .inl (1, []) else .inr (h.1 ++ [intD d], h.2)) else .inl (0, [("value", d)])
def aLeave (d : PyData) (h : Hl) : Out := if numIn d 0 ((h.1.length : Int) - 1) = true then (if h.1.length = 1 then .inl (3, []) else .inr (h.1.take (intD d).toNat ++ h.1.drop ((intD d).toNat + 1), h.2)) else .inl (2, [("value", d)])
def aPut (d : PyData) (h : Hl) : Out := if szD d = true then (if 20 ≤ h.2.length then .inl (5, []) else .inr (h.1, h.2 ++ [intD d])) else .inl (4, [("value", d)])
def aTake (d : PyData) (h : Hl) : Out := if numIn d 0 ((h.2.length : Int) - 1) = true then .inr (h.1, h.2.take (intD d).toNat ++ h.2.drop ((intD d).toNat + 1)) else .inl (6, [("value", d)])
def aft (nm : Str) (d : PyData) (h : Hl) : Out := if nm = "come" then aCome d h else if nm = "leave" then aLeave d h else if nm = "put" then aPut d h else aTake d h
theorem numIn_int {z a b : Int} (h1 : a ≤ z) (h2 : z ≤ b) : numIn (.int z) a b = true := by
  show (decide (a ≤ z) && decide (z ≤ b)) = true
  rw [decide_eq_true h1, decide_eq_true h2]; rfl
theorem szD_true {d : PyData} (h : szD d = true) : ∃ z, d = .int z ∧ 1 ≤ z ∧ z ≤ 1000000 := numIn_true h
def Pt.next (p : Pt) (h : Hl) (m f : Int) (e : PyData) : Pt := ⟨p.busy, h, m, f, p.hs ++ [h], p.done ++ [e]⟩
theorem Pt.Ok.next {p : Pt} (k : p.Ok) {h : Hl} {m f : Int} {e : PyData} (hh : HlOk h) (mo : IsMost h.1 h.2 m) (fe : IsFew h.1 h.2 f) (l : p.done.length < 60) : (p.next h m f e).Ok :=
  ⟨hh, mo, fe, by show (p.hs ++ [h]).getLast? = some h; simp, fun x hx => by
    rcases List.mem_append.mp hx with q | q
    · exact k.all x q
    · obtain rfl := List.mem_singleton.mp q; exact hh, by show (p.hs ++ [h]).length = (p.done ++ [e]).length + 1; rw [List.length_append, List.length_append]; have := k.len; simp; omega, by show (p.done ++ [e]).length ≤ 60; rw [List.length_append]; show p.done.length + 1 ≤ 60; omega⟩
end DL
namespace DL
open PySem PySem.Spec PyProof.Rows L2
theorem Wo.one {a : Wo} : a + 1 ≤ a + 1 := ⟨Nat.le_refl _, rfl, rfl⟩
end DL
namespace DL
open PySem PySem.Spec PyProof.Rows L2
structure SumsOk (feet pairs L sums : List Int) (b : Nat) : Prop where
  top : (feet.length : Int) ∈ sums
  all : ∀ y ∈ sums, ∃ s : Int, y = (cF feet s : Int) + cP pairs s
  has : ∀ s ∈ L, ((cF feet s : Int) + cP pairs s) ∈ sums
  len : sums.length ≤ b
theorem top_sum {feet pairs : List Int} (h1 : In1 (10 ^ 6) feet) (h2 : In1 (10 ^ 6) pairs) : (feet.length : Int) = (cF feet 1000001 : Int) + cP pairs 1000001 := by
  have a : cF feet 1000001 = feet.length := by
    unfold cF
    rw [List.filter_eq_self.mpr fun x hx => by have := h1 x hx; simp; omega]
  have b : cP pairs 1000001 = 0 := by
    unfold cP
    rw [List.filter_eq_nil_iff.mpr fun x hx => by have := h2 x hx; simp; omega]
    rfl
  rw [a, b]; simp
theorem SumsOk.start {feet pairs : List Int} (h1 : In1 (10 ^ 6) feet) (h2 : In1 (10 ^ 6) pairs) : SumsOk feet pairs [] [(feet.length : Int)] 1 :=
  ⟨List.mem_singleton.mpr rfl, fun y hy => ⟨1000001, (List.mem_singleton.mp hy).trans (top_sum h1 h2)⟩, fun s hs => (nomatch hs), Nat.le_refl _⟩
theorem SumsOk.most {feet pairs sums : List Int} {b : Nat} (h1 : In1 (10 ^ 6) feet) (h2 : In1 (10 ^ 6) pairs) (h : SumsOk feet pairs (feet ++ pairs) sums b) {m : Int} (hm : m ∈ sums) (hle : ∀ y ∈ sums, m ≤ y) : IsMost feet pairs m := by
  refine ⟨h.all m hm, fun s' => ?_⟩
  obtain ⟨s0, h0, h3⟩ := most_at (feet := feet) (pairs := pairs) (top := 1000001) (fun x hx => by have := h1 x hx; omega) fun x hx => by have := h2 x hx; omega
  refine Int.le_trans ?_ (h3 s')
  rcases h0 with q | rfl
  · exact hle _ (h.has s0 (List.mem_append_left _ q))
  · rw [← top_sum h1 h2]; exact hle _ h.top
end DL
open PySem PySem.Spec PyProof.Rows L2
namespace DL
def Pt.back (p : Pt) (h : Hl) (m f : Int) : Pt := ⟨p.busy, h, m, f, p.hs.dropLast, p.done.dropLast⟩
theorem Pt.Ok.back {p : Pt} (k : p.Ok) {h : Hl} {m f : Int} (hd : p.done ≠ []) (e : p.hs.dropLast.getLast? = some h) (hh : HlOk h) (mo : IsMost h.1 h.2 m) (fe : IsFew h.1 h.2 f) : (p.back h m f).Ok :=
  ⟨hh, mo, fe, e, fun x hx => k.all x (List.dropLast_subset _ hx), by
    have := List.length_pos_iff.mpr hd
    show p.hs.dropLast.length = p.done.dropLast.length + 1
    rw [List.length_dropLast, List.length_dropLast, k.len]; omega, by
    show p.done.dropLast.length ≤ 60
    rw [List.length_dropLast]; have := k.few; omega⟩
end DL
open PySem PySem.Spec PyProof.Rows L2
namespace DL
def okPL (d : PyData) : Bool := !isRefD d && d.showable && decide (d.depth ≤ 5) && decide (d.shown.length ≤ 1000) && PyData.strOk d.shown
structure PL (d : PyData) : Prop where
  nr : isRefD d = false
  tm : TameE 1000 5 d
  ok : PyData.strOk d.shown = true
theorem PL.of {d : PyData} (h : okPL d = true) : PL d := by
  unfold okPL at h
  simp only [Bool.and_eq_true, Bool.not_eq_true', decide_eq_true_eq] at h
  exact ⟨h.1.1.1.1, ⟨h.1.1.1.2, h.1.1.2, h.1.2⟩, h.2⟩
theorem PL.int {z : Int} (h1 : -1 ≤ z) (h2 : z ≤ 1001) : PL (.int z) := ⟨rfl, (tameE_int (m := 20) (by omega) (by decide) (by decide)).mono (by decide) (by decide), num_ok z⟩
end DL
open PySem PySem.Spec PyProof.Rows L2
namespace DL
abbrev Edt := Str × PyData
def edT' (e : Edt) : PyData := .tuple [.str e.1, e.2]
def BatK : List Edt → Pt → (Pt → Prop) → Prop
  | [], p, k => k p
  | e :: r, p, k => ∃ h, aft e.1 e.2 p.h = .inr h ∧ ∀ m f, IsMost h.1 h.2 m → IsFew h.1 h.2 f → BatK r (p.next h m f (edT' e)) k
theorem BatK.mono {k k' : Pt → Prop} (hk : ∀ q, k q → k' q) : ∀ {es : List Edt} {p : Pt}, BatK es p k → BatK es p k'
  | [], p, h => hk p h
  | e :: r, p, ⟨h, e1, h2⟩ => ⟨h, e1, fun m f hm hf => BatK.mono hk (h2 m f hm hf)⟩
end DL
open PySem PySem.Spec PyProof.Rows L2
namespace DL
/-- a contract made stronger -/
theorem FnGX.imp {P : Program} {w : World} {K : PySem.W.Frag} {mg : Str → Option Value} {base : Heap} {k m : Nat} {f : Addr} {fd : FuncData} {ps : List Str} {c c' : DSpecX} (F : FnGX P w K mg base k f fd ps (spDX K m c)) (h : ∀ as n R E, c' as n R E → c as n R E) : FnGX P w K mg base k f fd ps (spDX K m c') :=
  have g : ∀ vs H Q E, spDX K m c' vs H Q E → spDX K m c vs H Q E := fun vs H Q E ⟨δ, Fz, as, n, R, E', hl, w1, s1, d1, o1, hc, hk, hx⟩ => ⟨δ, Fz, as, n, R, E', hl, w1, s1, d1, o1, h _ _ _ _ hc, hk, hx⟩
  ⟨fun vs H Q E hs => F.len vs H Q E (g _ _ _ _ hs), fun A outer s H args us vs Q E hg hr e0 hb rv hs => F.run A outer s H args us vs Q E hg hr e0 hb rv (g _ _ _ _ hs)⟩
end DL
open PySem PySem.Spec PyProof.Rows L2
namespace DL
def Nr : Nat → PyData → Prop
  | 0, d => isRefD d = false
  | k + 1, d => isRefD d = false ∧ ∀ ds, d = .tuple ds → ∀ x ∈ ds, Nr k x
theorem Nr.one : ∀ {k : Nat} {d : PyData}, Nr k d → isRefD d = false
  | 0, _, h => h
  | _ + 1, _, h => h.1
def NrA (d : PyData) : Prop := ∀ k, Nr k d
theorem NrA.leaf {d : PyData} (h : isRefD d = false) (h2 : ∀ ds, d ≠ .tuple ds) : NrA d := fun k => by
  cases k with
  | zero => exact h
  | succ k => exact ⟨h, fun ds e => absurd e (h2 ds)⟩
theorem NrA.tup {ds : List PyData} (h : ∀ x ∈ ds, NrA x) : NrA (.tuple ds) := fun k => by
  cases k with
  | zero => rfl
  | succ k => exact ⟨rfl, fun es e x hx => by cases e; exact h x hx k⟩
theorem NrA.of_tup {ds : List PyData} (h : NrA (.tuple ds)) : ∀ x ∈ ds, NrA x := fun x hx k => (h (k + 1)).2 ds rfl x hx
theorem NrA.int (z : Int) : NrA (.int z) := .leaf rfl fun _ e => (nomatch e)
theorem NrA.nr {d : PyData} (h : NrA d) : isRefD d = false := h 0
structure GV (m k : Nat) (d : PyData) : Prop where
  tm : TameE m k d
  nr : NrA d
theorem GV.mono {m k m' k' : Nat} {d : PyData} (h : GV m k d) (h1 : m ≤ m') (h2 : k ≤ k') : GV m' k' d := ⟨h.tm.mono h1 h2, h.nr⟩
theorem gv_int {z : Int} (h0 : -1 ≤ z) (h1 : z ≤ 10000000) : GV 500 4 (.int z) := ⟨(tameE_int (m := 24) (by omega) (by decide) (by decide)).mono (by decide) (by decide), .int z⟩
theorem gv_tup {m k l : Nat} {ds : List PyData} (h : ∀ x ∈ ds, GV m k x) (hl : ds.length ≤ l) : GV (l * (m + 2) + 3) (k + 1) (.tuple ds) := ⟨(tameE_tuple (m := m) (k := k) (l := l) (fun d hd => (h d hd).tm) hl).mono (by first | exact Nat.le_refl _ | omega | (rw [Nat.mul_add]; omega)) (Nat.le_refl _), .tup fun x hx => (h x hx).nr⟩
def BentJ : Nat → PyData → Prop
  | 0, d => ∃ z : Int, d = .int z ∧ 1 ≤ z ∧ z ≤ 1000000
  | j + 1, d => (∃ z : Int, d = .int z ∧ 1 ≤ z ∧ z ≤ 1000000) ∨ ∃ ds, d = .tuple ds ∧ ds.length ≤ 20 ∧ ∀ x ∈ ds, BentJ j x
def bnd : Nat → Nat | 0 => 500 | 1 => 21000 | _ => 900000
def dep : Nat → Nat | 0 => 4 | 1 => 6 | _ => 7
def GJ (j : Nat) (d : PyData) : Prop := GV (bnd j) (dep j) d
theorem GV.gj {d : PyData} (h : GV 500 4 d) : ∀ {j : Nat}, j ≤ 2 → GJ j d
  | 0, _ => h
  | 1, _ => GV.mono h (by decide) (by decide)
  | 2, _ => GV.mono h (by decide) (by decide)
theorem gj_tup {j : Nat} {ds : List PyData} (h : ∀ x ∈ ds, GJ j x) (hl : ds.length ≤ 41) (hj : j ≤ 1) : GJ (j + 1) (.tuple ds) := by
  match j, hj, h with
  | 0, _, h => exact GV.mono (gv_tup h hl) (by decide) (by decide)
  | 1, _, h => exact GV.mono (gv_tup h hl) (by decide) (by decide)
theorem BentJ.gj : ∀ {j : Nat} {d : PyData}, j ≤ 1 → BentJ j d → GJ j d
  | 0, _, _, ⟨z, e, h0, h1⟩ => by subst e; exact (gv_int (by omega) (by omega)).gj (by decide)
  | 1, _, _, .inl ⟨z, e, h0, h1⟩ => by subst e; exact (gv_int (by omega) (by omega)).gj (by decide)
  | 1, _, _, .inr ⟨ds, e, hl, h⟩ => by subst e; exact gj_tup (fun x hx => (h x hx).gj (by decide)) (by omega) (by decide)
theorem BentJ.nr {j : Nat} {d : PyData} (hj : j ≤ 1) (h : BentJ j d) : isRefD d = false := (BentJ.gj hj h).nr.nr
theorem map_int_inj : ∀ {a b : List Int}, a.map PyData.int = b.map PyData.int → a = b
  | [], [], _ => rfl
  | [], _ :: _, h => (nomatch h)
  | _ :: _, [], h => (nomatch h)
  | x :: a, y :: b, h => by
    simp only [List.map_cons, List.cons.injEq, PyData.int.injEq] at h
    rw [h.1, map_int_inj h.2]
def okT (s : Str) : Prop := PyData.strOk s = true
theorem okT.sh {s : Str} (h : okT s) : Sh (.str s) := (tame_str h).shaped (by decide)
end DL
open PySem PySem.Spec PyProof.Rows L2
namespace DL
def shB (d : PyData) : Bool := match d with | .tuple ds => decide (ds.length ≤ 100) && ds.all szD | _ => false
theorem shB_no {d : PyData} (h : tupB d 0 100 = false) : shB d = false := by
  cases d <;> try rfl
  rename_i ds
  show (decide (ds.length ≤ 100) && ds.all szD) = false
  rw [decide_eq_false (fun q => by rw [tup_true (by omega) (by omega)] at h; cases h), Bool.false_and]
theorem shB_eq {ds : List PyData} (h : (ds.length : Int) ≤ 100) : shB (.tuple ds) = ds.all szD := by
  show (decide (ds.length ≤ 100) && ds.all szD) = ds.all szD
  rw [decide_eq_true (by omega), Bool.true_and]
theorem shB_yes {d : PyData} (h : shB d = true) : ∃ S : List Int, d = .tuple (S.map .int) ∧ In1 (10 ^ 6) S ∧ S.length ≤ 100 := by
  cases d <;> try cases h
  rename_i ds
  have h : (decide (ds.length ≤ 100) && ds.all szD) = true := h
  rw [Bool.and_eq_true, decide_eq_true_eq] at h
  obtain ⟨S, rfl, hS⟩ := ints_of fun y hy => by
    obtain ⟨z, rfl, z1, z2⟩ := szD_true (List.all_eq_true.mp h.2 y hy)
    exact ⟨z, rfl, z1, z2⟩
  exact ⟨S, rfl, hS, by rw [List.length_map] at h; exact h.1⟩
theorem all_map (ds : List PyData) : (ds.map szD).all id = ds.all szD := by
  rw [List.all_map]
  rfl
theorem shB_ints {T : List Int} (hT : In1 (10 ^ 6) T) (hl : T.length ≤ 100) : shB (.tuple (T.map .int)) = true := by
  rw [shB_eq (by rw [List.length_map]; omega)]
  exact List.all_eq_true.mpr fun y hy => by
    obtain ⟨z, hz, rfl⟩ := List.mem_map.mp hy
    exact numIn_int (hT z hz).1 (hT z hz).2
end DL
set_option maxHeartbeats 4000000
namespace DL
open PySem PySem.Spec PyProof.Rows L2
theorem int_inj : ∀ {a b : List Int}, a.map PyData.int = b.map PyData.int → a = b
  | [], [], _ => rfl
  | [], _ :: _, h => (nomatch h)
  | _ :: _, [], h => (nomatch h)
  | x :: a, y :: b, h => by
    simp only [List.map_cons, List.cons.injEq, PyData.int.injEq] at h
    rw [h.1, int_inj h.2]
theorem clnD_inj {a b : List Int} (h : clnD a = clnD b) : a = b := by
  unfold clnD at h
  injection h with h
  injection h with h
  injection h with _ h
  injection h with h
  injection h with _ h
  exact int_inj h
theorem Rp.cln {K : PySem.W.Frag} {F : Hp} {ns : List Int} {v : V} (h : Rp K F (clnD ns) v) : ∃ (a : Addr) (o : Obj), v = .ref a ∧ F a = some (.frz o (.tup (ns.map V.int))) ∧ o.cls = .type "tuple" ∧ o.dict = none := by
  have h : Rp K F (.dict [(.none, .tuple (.int (((2 : Nat) ^ 2000 : Nat) : Int) :: ns.map .int))]) v := h
  simp only [Rp] at h
  rcases h with ⟨_, _, _, _, ps, _, e⟩ | ⟨b, e, _⟩ | ⟨a, ms, o, e, rfl, h1, h2⟩
  · cases ps with
    | nil => cases e
    | cons q ps =>
      rw [List.map_cons] at e
      injection e with e _
      injection e with e _
      exact absurd e.symm keyD_ne
  · unfold refD at e
    injection e with e
    injection e with e
    injection e with _ e
    cases e
  · obtain rfl : ns = ms := clnD_inj e
    exact ⟨a, o, rfl, h1, h2⟩
theorem rp_cln {K : PySem.W.Frag} {F : Hp} {ns : List Int} {a : Addr} {o : Obj} (h : F a = some (.frz o (.tup (ns.map V.int)))) (hc : o.cls = .type "tuple") (hd : o.dict = none) : Rp K F (clnD ns) (.ref a) := by
  have : Rp K F (.dict [(.none, .tuple (.int (((2 : Nat) ^ 2000 : Nat) : Int) :: ns.map .int))]) (.ref a) := by
    simp only [Rp]
    exact .inr (.inr ⟨a, ns, o, rfl, rfl, h, hc, hd⟩)
  exact this
theorem Rp.unc {K : PySem.W.Frag} {F : Hp} {ns : List Int} {v : V} (h : Rp K F (clnD ns) v) : Rp K F (.tuple (ns.map .int)) v := by
  obtain ⟨a, o, rfl, h1, _⟩ := h.cln
  simp only [Rp]
  exact ⟨a, ns.map V.int, rfl, .inr ⟨o, h1⟩, rps_ints ns⟩
section
variable {X : Cx} {Y : Fx}
/-- a clean tuple where any tuple will do -/
def dUnc (t : DTE) : DTE := fun ρ n R => t ρ n fun x n1 => ∃ ns : List Int, x = .dat (clnD ns) ∧ R (.dat (.tuple (ns.map .int))) n1
theorem we_unc {e : Expr} {t : DTE} (he : WE Y X e t) : WE Y X e (dUnc t) := pe_imp he fun σ H Q ⟨Z, F, ρ, n, R, r, ht, k⟩ =>
  ⟨Z, F, ρ, n, _, r, ht, fun x n1 F1 H1 v ⟨ns, ex, hR⟩ g1 s1 d1 w1 => by
    subst ex
    exact k _ _ _ _ _ hR g1 s1 d1 (Rp.unc w1)⟩
/-- tuple(l), l a list of ints -/
def rTupC (K : PySem.W.Frag) : List V → Hp → VK → Prop := fun xs H Q => ∃ (p : Addr) (ns : List Int), xs = [.ref p] ∧ SqL K H p (ns.map V.int) ∧ ∀ (l : Addr) (o : Obj), H l = none → o.cls = .type "tuple" → o.dict = none → Q (.ref l) (upd H l (.frz o (.tup (ns.map V.int))))
theorem call_tupC : CallR X (.type "tuple") (rTupC X.K) := by
  intro pins s σ H xs us Q I r h
  obtain ⟨p, ns, rfl, hq, q⟩ := h
  obtain ⟨u, rfl, rx⟩ := vals1 r
  cases rx
  obtain ⟨its, r', pl, hz⟩ := I.list hq
  have hlen := r'.length
  refine call_tuple_list pl.isList (fun h' kp => ?_) (by simp only [List.size_toArray] <;> omega)
  have I1 : Inv X pins σ H { s with heap := h' } := I.kept (t' := s.toks) kp
  have I2 : Inv X pins σ (upd H h'.objs.size (.frz { cls := .type "tuple", data := .seq its.toArray } (.tup (ns.map V.int)))) { s with heap := h'.push { cls := .type "tuple", data := .seq its.toArray } } :=
    I1.laid (t' := s.toks) (fun b o e => Heap.get?_push_of_some _ e) (Nat.le_refl _) (show ObjOk X.prog X.w _ _ _ (.frz _ (.tup (ns.map V.int))) from ⟨Heap.get?_push_size _ rfl, hz, its, r', IsTup.new _ _⟩)
  exact ⟨.ref h'.objs.size, _, I2, rfl, q _ _ (I1.hok.fresh (Nat.le_refl _)) rfl rfl⟩
def oTupC : DC := fun xs R => ∃ x, ∃ ns : List Int, xs = [x] ∧ x.toD = .list (ns.map .int) ∧ R (clnD ns)
theorem ck_tupC {K : PySem.W.Frag} : CallOk K (rTupC K) oTupC := fun δ F H xs vs R Q hs hv ⟨x, ns, e, e2, hr⟩ b => by
  subst e
  obtain ⟨v, rfl, h1⟩ := vr1 hv
  obtain ⟨a, l, rfl, h2, h3⟩ := h1.lst hs e2
  obtain rfl := Rps.ints h3
  refine ⟨a, ns, rfl, SqL.of h2, fun p o hp hc hd => ?_⟩
  obtain ⟨g, s⟩ := Gp.new (o := .frz o (.tup (ns.map V.int))) hp hs
  exact b _ _ _ _ hr g s (rp_cln upd_same hc hd)
def rCntC (K : PySem.W.Frag) : V → List V → Hp → VK → Prop := fun x xs H Q => ∃ (p : Addr) (ns : List Int) (k : Int), x = .ref p ∧ xs = [.int k] ∧ SqT K H p (ns.map V.int) ∧ Q (.int (ns.count k : Nat)) H
theorem mt_tcount : MtR X "tuple.count" (rCntC X.K) := by
  intro pins s σ H x xs v us Q I rx rxs h
  obtain ⟨p, ns, k, rfl, rfl, hs, q⟩ := h
  cases rx
  obtain ⟨u, rfl, ru⟩ := rxs.one
  obtain ⟨t, rfl⟩ := ru
  obtain ⟨its, rv, ⟨⟨cls, dd, data, sl⟩, ho, hc, n, hd⟩, hlen⟩ := I.tuple hs
  simp only at hc hd
  subst hc hd
  have hi := ints_of_vals rv
  refine call_meets PySem.F.slot_tuple_count ⟨_, ho, rfl⟩ PySem.F.entry_tuple_count (PySem.F.args_tuple_count_2 _ _)
    (SeqAt.tuple_countAt p its.toArray n dd sl (.int k t) (eqk k)) ⟨ho, fun y hy => (eqk_gives hi y (by simpa using hy)).at _ _, ?_⟩
  have ec : its.toArray.toList.countP (eqk k) = ns.count k := eqk_count hi
  refine ⟨.int (ns.count k : Nat), H, I.tok _, ⟨s.toks, ?_⟩, q⟩
  show Value.int ((its.toArray.toList.countP (eqk k) : Nat) : Int) s.toks = Value.int ((ns.count k : Nat) : Int) s.toks
  rw [ec]
def clnV (x : V) (H : Hp) : Prop := ∃ (a : Addr) (o : Obj) (xs : List V), x = .ref a ∧ H a = some (.frz o (.tup xs)) ∧ o.cls = .type "tuple" ∧ o.dict = none
theorem pe_bmC {o e : Expr} {es : List Expr} {to : TE} {t : TA} {name : Str} {apos cpos : Pos} {id : String} {r : V → List V → Hp → VK → Prop} (slot : Slot "tuple" name id) (hty : typeOf (.builtin id) = pure (.type "method_descriptor")) (hm : MtR X id r) (ho : PE X o to) (ha : PA X (e :: es) t)
    (hbase : attributeBase o name X.env (eval o X.env) = eval o X.env)
    (hfew : ((backTo cpos (starEach (e :: es) X.env)).all (fun x => !x.1) && (backToKw cpos (keywordEach [] X.env)).all (fun x => x.1.isSome)
      && decide ((e :: es).length + ([] : List Keyword).length + (if ([] : List Keyword).isEmpty then 0 else 1) < 30)) = true)
    (hline : (apos.endLine == cpos.line) = true) (hs : starEach (e :: es) X.env = (false, eval e X.env) :: starEach es X.env) (hplain : (backTo cpos (starEach es X.env)).any (·.1) = false) :
    PE X (.Call (.Attribute o name apos) (e :: es) [] cpos) (fun σ H Q => to σ H fun x H1 => clnV x H1 ∧ t σ H1 fun xs H2 => r x xs H2 Q) := by
  refine ⟨fun pins s σ H Q I h => ?_⟩
  refine wpAny_Call_method_late hbase hfew hline rfl (thn (ho.run pins s σ H _ I h) fun v s1 ⟨x, H1, I1, r1, ty, q1⟩ => ?_)
  obtain ⟨a, ob, ys, rfl, hH, hc, hd⟩ := ty
  cases r1
  have hg : s1.heap.get? a = some ob := (I1.hok a _ hH).1
  refine ⟨"tuple", id, PySem.F.plainAttrs_tuple, slot, hty, ⟨ob, hg, hc⟩, fun b e => ?_, ?_⟩
  · cases e
    exact ⟨ob, hg, hd⟩
  have hA := ha.run cpos pins s1 σ H1 _ I1 q1
  rw [hs] at hA ⊢
  refine Calls.callWith_builtin (by show (false || (backTo cpos (starEach es X.env)).any (·.1)) = false; rw [hplain] <;> rfl) (Calls.evalArgs_plain ?_)
  exact thn hA fun us s2 ⟨vs, H2, I2, r2, q2⟩ => hm pins s2 σ H2 (.ref a) vs (.ref a) us Q I2 rfl r2 q2
def dMetC (f : List Int → Int → Prop) (g : List Int → Int → Nat) (t u : DTE) : DTE := fun ρ n R => t ρ n fun x n1 => ∃ ns : List Int, x = .dat (clnD ns) ∧ u ρ n1 fun y n2 => ∃ k : Int, y = .dat (.int k) ∧ f ns k ∧ R (.dat (.int (g ns k : Nat))) n2
theorem we_countC {o e : Expr} {t u : DTE} {apos cpos : Pos} (ho : WE Y X o t) (he : WE Y X e u)
    (hbase : attributeBase o "count" X.env (eval o X.env) = eval o X.env := by rfl)
    (hfew : ((backTo cpos (starEach [e] X.env)).all (fun x => !x.1) && (backToKw cpos (keywordEach [] X.env)).all (fun x => x.1.isSome)
      && decide (([e] : List Expr).length + ([] : List Keyword).length + (if ([] : List Keyword).isEmpty then 0 else 1) < 30)) = true := by rfl)
    (hline : (apos.endLine == cpos.line) = true := by rfl) (hst : starEach [e] X.env = (false, eval e X.env) :: starEach [] X.env := by rfl) (hplain : (backTo cpos (starEach [] X.env)).any (·.1) = false := by rfl) :
    WE Y X (.Call (.Attribute o "count" apos) [e] [] cpos) (dMetC (fun _ _ => True) (fun ns k => ns.count k) t u) :=
  pe_imp (pe_bmC PySem.F.slot_tuple_count PySem.F.type_tuple_count mt_tcount ho (pa_cons he pa_nil hst) hbase hfew hline hst hplain) fun σ H Q ⟨Z, F, ρ, n, R, r, ht, k⟩ =>
    ⟨Z, F, ρ, n, _, r, ht, fun x n1 F1 H1 v ⟨ns, e1, hx⟩ g1 s1 d1 w1 => by
      subst e1
      obtain ⟨a, ob, rfl, p1, p2, p3⟩ := Rp.cln (K := X.K) w1
      refine ⟨⟨a, ob, _, rfl, s1 _ _ p1, p2, p3⟩, Z, F1, ρ, n1, _, r.step g1 s1 d1, hx, fun y n2 F2 H2 u2 ⟨b, e2, _, hy⟩ g2 s2 d2 w2 => ?_⟩
      subst e2
      simp only [VR, Rp] at w2
      subst w2
      exact ⟨a, ns, b, rfl, rfl, sqtR (.inr ⟨ob, s2 _ _ (g2.sF _ _ p1)⟩), k _ _ _ _ _ hy (g1.trans g2) s2 d2 (by simp [VR, Rp])⟩⟩
end
end DL
set_option maxHeartbeats 4000000
namespace DL
open PySem PySem.Spec PyProof.Rows L2
/-- what is wanted of a new tuple whose dict is none -/
def NewC (H : Hp) (xs : List V) (Q : VK) : Prop := ∀ (l : Addr) (o : Obj), H l = none → o.cls = .type "tuple" → o.dict = none → Q (.ref l) (upd H l (.frz o (.tup xs)))
theorem Back.cln {K : PySem.W.Frag} {F H : Hp} {R : PyData → Prop} {Q : VK} (b : Back K F H R Q) (hs : Same F H) {ns : List Int} (h : R (clnD ns)) : NewC H (ns.map V.int) Q := fun p o hp hc hd => by
  obtain ⟨g, s⟩ := Gp.new (o := .frz o (.tup (ns.map V.int))) hp hs
  exact b _ _ _ _ h g s (rp_cln upd_same hc hd)
end DL
set_option maxHeartbeats 4000000
namespace DL
open PySem PySem.Spec PyProof.Rows L2
section
variable {X : Cx} {Y : Fx} {W : WX} {dw : DW} {PC : Addr → Prop} {k : Nat} {ps : List Str} {c : Addr → DSpecX}
theorem nf_same {K : PySem.W.Frag} {C : Addr} : PySem.W.notFirst K C (.ref C) = true := by
  unfold PySem.W.notFirst
  simp
/-- a test by a comparison of own objects -/
theorem wt_ofO {op : CmpOp} {a b : Expr} {t : DTE} {pos : Pos} (core : ∀ {pins : List (Addr × Obj)} {s : Shared} {σ : L2.St} {H : Hp} {Q : VK}, Inv X pins σ H s → up Y X.K t σ H Q →
    wpAny (model X.prog X.w) X.A (eval a X.env) (fun v s₁ => wpAny (model X.prog X.w) X.A (eval b X.env) (fun u s₂ => wpAny (model X.prog X.w) X.A (compareOp op v u) (EP X pins σ Q) X.xe s₂) X.xe s₁) X.xe s)
    (hm : behindInMarks op b = false) : WT Y X (.Compare a [op] [b] pos) (dTst t) := by
  refine ⟨fun pins s σ H Q I h => ?_⟩
  obtain ⟨Z, F, ρ, n, R, r, ht, kk⟩ := h
  have h2 : up Y X.K t σ H (fun z H' => ∃ q : Bool, z = .bl q ∧ Q q H') := ⟨Z, F, ρ, n, _, r, ht, fun x n1 F1 H1 v ⟨c, ex, hR⟩ g1 s1 d1 w1 => by
    subst ex
    simp only [VR, Rp] at w1
    exact ⟨c, w1, kk _ _ _ _ hR g1 s1 d1⟩⟩
  refine wpAny_isTrue_Compare1 (wpAny_mono (core I h2) (fun v s1 h1 => wpAny_mono h1 (fun u s2 h3 => wpAny_mono h3 (fun w s3 ⟨z, H', I', rz, q, eq, hq⟩ => ?_) fun _ _ e => e) fun _ _ e => e) fun _ _ e => e) hm
  subst eq
  obtain rfl : w = Value.bool q := rz
  exact wpAny_truthy_bool ⟨H', I', hq⟩
def dEqO (K : PySem.W.Frag) (PC : Addr → Prop) (c : Addr → DSpecX) (dw : DW) (ta tb : DTE) : DTE := fun ρ n R => ta ρ n fun x n1 => tb ρ n1 fun y n2 => ∃ a o b o', x = .dat (refD a) ∧ y = .dat (refD b) ∧ n2.ob a = some o ∧ n2.ob b = some o' ∧ PC o.C ∧ PySem.W.notFirst K o.C (.ref o'.C) = true ∧
  c o.C [.dat (refD a), .dat (refD b)] n2 (fun d n3 => ∃ q : Bool, d = .bool q ∧ R (.dat (.bool q)) n3) fun ex n3 => dw ex ρ n3
theorem eqO_core {a b : Expr} {ta tb : DTE} {pos : Pos} (tk : Takes X W) (ok : WOk Y X.K dw W) (HM : HasM X.prog X.w X.K X.mg X.base PC "__eq__" k ps c) (hgd : X.A.guards = some []) (hr : Room k X.A) (hl : ps.length = 2) (hu : X.A.units < cLine)
    (ha : WE Y X a ta) (hb : WE Y X b tb)
    {pins : List (Addr × Obj)} {s : Shared} {σ : L2.St} {H : Hp} {Q : VK} (I : Inv X pins σ H s) (h : up Y X.K (dEqO X.K PC c dw ta tb) σ H Q) :
    wpAny (model X.prog X.w) X.A (eval a X.env) (fun v s₁ => wpAny (model X.prog X.w) X.A (eval b X.env) (fun u s₂ => wpAny (model X.prog X.w) X.A (compareOp .Eq v u) (EP X pins σ Q) X.xe s₂) X.xe s₁) X.xe s := by
  obtain ⟨Z, F, ρ, n, R, r, h, kk⟩ := h
  exact two_run ha hb I r h fun v u s2 x y xv yv n2 F2 H2 I2 rx ry ⟨a, o, b, o', ex, ey, ho, ho', hPC, hnf, hx⟩ g2 s2' d2 w2 w3 => by
    subst ex ey
    obtain rfl := VR.ref w2
    obtain rfl := VR.ref w3
    obtain rfl : v = Value.ref a := rx
    obtain rfl : u = Value.ref b := ry
    have r2 := r.step g2 s2' d2
    obtain ⟨_, dxb, vsb, hb2, _⟩ := d2.2.1 b o' ho'
    obtain ⟨mB, OB, _⟩ := ins_get I2.hok hb2
    obtain ⟨odb, JB, _⟩ := OB.look
    obtain ⟨g, dx, od, J, hcl, hM, run⟩ := dun (A := X.A) (Q := fun z H' => ∃ q : Bool, z = .bl q ∧ Q (.bl q) H') (us := [.ref b]) tk ok HM I2 r2 ho hPC (.cons w3 .nil) (.cons rfl .nil) hl.symm hx fun d n3 F3 H3 v ⟨q, ed, h4⟩ g3 s3 d3 w4 => by
      subst ed
      simp only [Rp] at w4
      exact ⟨q, w4, kk _ _ _ _ _ h4 (g2.trans g3) s3 d3 (by simp [VR, Rp])⟩
    obtain ⟨mm, hF⟩ := I2.fr
    refine PySem.W.cmp_K (op := .Eq) hu hF I2.ok.mod.kin J JB.type hnf hM.at_ hM.fn ?_
    refine wpAny_mono (run hgd hr I2.env0) (fun w s' ⟨z, H', I', rz, q, eq, hq⟩ => ?_) fun _ _ q => q
    subst eq
    obtain rfl : w = Value.bool q := rz
    exact ⟨.bl q, H', I', rfl, hq⟩
theorem we_eqO {a b : Expr} {ta tb : DTE} {pos : Pos} (tk : Takes X W) (ok : WOk Y X.K dw W) (HM : HasM X.prog X.w X.K X.mg X.base PC "__eq__" k ps c) (hgd : X.A.guards = some []) (hr : Room k X.A) (hl : ps.length = 2) (hu : X.A.units < cLine)
    (ha : WE Y X a ta) (hb : WE Y X b tb) (hm : behindInMarks .Eq b = false := by with_unfolding_all rfl) : WE Y X (.Compare a [.Eq] [b] pos) (dEqO X.K PC c dw ta tb) :=
  ⟨fun pins s σ H Q I h => wpAny_Compare1 (eqO_core (pos := pos) tk ok HM hgd hr hl hu ha hb I h) hm⟩
end
section
variable {M : Model} {prog : Program} {w : World} {A : Around} {E : Value → Shared → Prop} {s : Shared} {K : PySem.W.Frag} {x y C g L : Addr} {ox : Obj} {od : Option Obj} {h₀ : Heap} {m : Str → Option Value} {tb : Value}
theorem ifBound_objNe {args : List Value} {Q : Option Value → Shared → Prop} (X : K.In s.heap) (I : PySem.W.InstAt s.heap x ox C od) (hs : PySem.W.findIn K (.ref C) "__ne__" = some (some (.builtin "object.__ne__")))
    (h : wpAny M A (call (.builtin "object.__ne__") (.ref x :: args)) (fun v => Q (some v)) E s) : wpAny M A (callSpecialIfBound? (.ref x) "__ne__" args) Q E s := by
  simp only [callSpecialIfBound?, bindSpecialIfBound?]
  refine wpAny_holding (wpAny_bind (wpAny_bind (wpAny_bind (I.type.here ((PySem.W.looks_findIn X hs).here ?_)))))
  refine wpAny_bind (wpAny_askSetting (wpAny_ite ?_))
  have fin : wpAny M A (call (.builtin "object.__ne__") ([.ref x] ++ args) >>= fun v => pure (some v)) Q E s := wpAny_bind (wpAny_mono h (fun v s' h' => wpAny_pure h') fun _ _ h' => h')
  split
  · exact wpAny_bind (wpAny_of_eq (F.cmp_object.ne.bind _) (wpAny_pure (by exact fin)))
  · exact wpAny_tryCatch (wpAny_bind (wpAny_of_eq (F.cmp_object.ne.bind _) (wpAny_pure (by exact fin))))
theorem entry_neK (X : K.In s.heap) (I : PySem.W.InstAt s.heap x ox C od) (hs : PySem.W.findIn K (.ref C) "__eq__" = some (some (.ref g))) (hf : PySem.W.isFn K (.ref g) = true) (hu : A.units < cLine) {Q : Fin → Shared → Prop}
    (hcall : wpAny (model prog w) A (call (.ref g) [.ref x, .ref y]) (fun v s' => ∃ q, v = .bool q ∧ Q (.done (.ret (.bool (!q)))) s') E s) :
    wpAny (model prog w) A (Builtin.«object.__ne__» ⟨[.ref x, .ref y], []⟩) Q E s := by
  unfold Builtin.«object.__ne__»
  repeat (first
    | with_reducible refine wpAny_cRoomFor hu ?_
    | (refine wpAny_bind (m := callSpecialIfBound? (.ref x) (Str.ofString "__eq__") [.ref y])
        (PySem.W.ifBound_K X I hs hf (wpAny_mono hcall (fun r s' hr => by
          obtain ⟨b, rfl, hq⟩ := hr
          repeat (first | exact hq | exact wpAny_pure hq | exact wpAny_truthy_bool hq | (refine wpAny_bind (m := truthy (.bool _)) (wpAny_truthy_bool ?_)) | wp_step)) fun _ _ e => e)))
    | wp_step)
theorem try_neK (X : K.In s.heap) (I : PySem.W.InstAt s.heap x ox C od) (hs : PySem.W.findIn K (.ref C) "__eq__" = some (some (.ref g))) (hf : PySem.W.isFn K (.ref g) = true) (hn : PySem.W.findIn K (.ref C) "__ne__" = some (some (.builtin "object.__ne__"))) (hm : PySem.W.mroIn K C (.type "object") = some true) (hu : A.units + 1 < cLine) {Q : Option Value → Shared → Prop}
    (hcall : wpAny (model prog w) A.in1 (call (.ref g) [.ref x, .ref y]) (fun v s' => ∃ b, v = .bool b ∧ Q (some (.bool (!b))) s') E s) :
    wpAny (model prog w) A (tryCompare (.ref x) "__ne__" (.ref y)) Q E s := by
  simp only [tryCompare]
  refine wpAny_bind (ifBound_objNe X I hn (wpAny_call (codeAny_call_builtin F.cmp_object.ne.plain F.cmpEntry_ne
    (PySem.W.check_slot F.cmpKind_ne F.cmpSplit_ne (I.type.andThen (PySem.W.looks_mroIn X hm)) (F.cmpArgs_ne _ _)
      (entry_neK (A := A.in1) X I hs hf hu (wpAny_mono hcall (fun v s' hv => ?_) fun _ _ e => e))))))
  obtain ⟨b, rfl, hq⟩ := hv
  first | exact ⟨b, rfl, wpAny_pure hq⟩ | exact ⟨b, rfl, wpAny_pure (wpAny_pure hq)⟩ | exact ⟨b, rfl, hq⟩
theorem ne_K {Q : Value → Shared → Prop} (hu : A.units + 1 < cLine) (F : Fr h₀ L s.heap m) (X₀ : K.In h₀) (I : PySem.W.InstAt s.heap x ox C od) (hb : PySem.W.Looks (model prog w) s.heap (typeOf (.ref y)) tb) (hn : PySem.W.notFirst K C tb = true)
    (hs : PySem.W.findIn K (.ref C) "__eq__" = some (some (.ref g))) (hf : PySem.W.isFn K (.ref g) = true) (hne : PySem.W.findIn K (.ref C) "__ne__" = some (some (.builtin "object.__ne__"))) (hm : PySem.W.mroIn K C (.type "object") = some true)
    (h : wpAny (model prog w) A.in1 (call (.ref g) [.ref x, .ref y]) (fun v s' => ∃ b, v = .bool b ∧ Q (.bool (!b)) s') E s) : wpAny (model prog w) A (compareOp .NotEq (.ref x) (.ref y)) Q E s := by
  have X := X₀.keeps F.keep
  have one : wpAny (model prog w) A (tryCompare (.ref x) "__ne__" (.ref y)) (fun r s' => ∃ v, r = some v ∧ Q v s') E s :=
    try_neK X I hs hf hne hm hu (wpAny_mono h (fun v s' ⟨b, e, hq⟩ => ⟨b, e, _, rfl, hq⟩) fun _ _ e => e)
  unfold compareOp
  show wpAny (model prog w) A (richCompare .NotEq (.ref x) (.ref y)) Q E s
  unfold richCompare
  simp only [oneThing_ref]
  refine wpAny_holding (wpAny_bind (wpAny_cRoomFor (Nat.lt_of_succ_lt hu) ?_))
  rw [cmpInfo_NotEq]
  dsimp only
  refine wpAny_bind (I.type.here (wpAny_bind (hb.here ?_)))
  split
  · rename_i q
    have e : PySem.W.subIn K tb (.ref C) = some false := by
      rcases Bool.or_eq_true_iff.mp hn with e | e
      · rw [beq_iff_eq.mp e] at q; simp at q
      · exact beq_iff_eq.mp e
    refine wpAny_bind ((PySem.W.looks_subIn X e).here ?_)
    simp only [Bool.false_eq_true, if_false]
    refine wpAny_bind (wpAny_mono one (fun r s' z => ?_) fun _ _ e => e)
    obtain ⟨v, rfl, hq⟩ := z
    exact wpAny_pure hq
  · refine wpAny_bind (wpAny_pure ?_)
    simp only [Bool.false_eq_true, if_false]
    refine wpAny_bind (wpAny_mono one (fun r s' z => ?_) fun _ _ e => e)
    obtain ⟨v, rfl, hq⟩ := z
    exact wpAny_pure hq
end
section
variable {X : Cx} {Y : Fx} {W : WX} {dw : DW} {PC : Addr → Prop} {k : Nat} {ps : List Str} {c : Addr → DSpecX}
def dNeO (K : PySem.W.Frag) (PC : Addr → Prop) (c : Addr → DSpecX) (dw : DW) (ta tb : DTE) : DTE := fun ρ n R => ta ρ n fun x n1 => tb ρ n1 fun y n2 => ∃ a o b o', x = .dat (refD a) ∧ y = .dat (refD b) ∧ n2.ob a = some o ∧ n2.ob b = some o' ∧ PC o.C ∧ PySem.W.notFirst K o.C (.ref o'.C) = true ∧
  PySem.W.findIn K (.ref o.C) "__ne__" = some (some (.builtin "object.__ne__")) ∧ PySem.W.mroIn K o.C (.type "object") = some true ∧
  c o.C [.dat (refD a), .dat (refD b)] n2 (fun d n3 => ∃ q : Bool, d = .bool q ∧ R (.dat (.bool (!q))) n3) fun ex n3 => dw ex ρ n3
theorem neO_core {a b : Expr} {ta tb : DTE} {pos : Pos} (tk : Takes X W) (ok : WOk Y X.K dw W) (HM : HasM X.prog X.w X.K X.mg X.base PC "__eq__" k ps c) (hgd : X.A.guards = some []) (hr : Room (k + 1) X.A) (hl : ps.length = 2) (hu : X.A.units + 1 < cLine)
    (ha : WE Y X a ta) (hb : WE Y X b tb)
    {pins : List (Addr × Obj)} {s : Shared} {σ : L2.St} {H : Hp} {Q : VK} (I : Inv X pins σ H s) (h : up Y X.K (dNeO X.K PC c dw ta tb) σ H Q) :
    wpAny (model X.prog X.w) X.A (eval a X.env) (fun v s₁ => wpAny (model X.prog X.w) X.A (eval b X.env) (fun u s₂ => wpAny (model X.prog X.w) X.A (compareOp .NotEq v u) (EP X pins σ Q) X.xe s₂) X.xe s₁) X.xe s := by
  obtain ⟨Z, F, ρ, n, R, r, h, kk⟩ := h
  exact two_run ha hb I r h fun v u s2 x y xv yv n2 F2 H2 I2 rx ry ⟨a, o, b, o', ex, ey, ho, ho', hPC, hnf, hne, hmo, hx⟩ g2 s2' d2 w2 w3 => by
    subst ex ey
    obtain rfl := VR.ref w2
    obtain rfl := VR.ref w3
    obtain rfl : v = Value.ref a := rx
    obtain rfl : u = Value.ref b := ry
    have r2 := r.step g2 s2' d2
    obtain ⟨_, dxb, vsb, hb2, _⟩ := d2.2.1 b o' ho'
    obtain ⟨mB, OB, _⟩ := ins_get I2.hok hb2
    obtain ⟨odb, JB, _⟩ := OB.look
    obtain ⟨g, dx, od, J, hcl, hM, run⟩ := dun (A := X.A.in1) (Q := fun z H' => ∃ q : Bool, z = .bl q ∧ Q (.bl (!q)) H') (us := [.ref b]) tk ok HM I2 r2 ho hPC (.cons w3 .nil) (.cons rfl .nil) hl.symm hx fun d n3 F3 H3 v ⟨q, ed, h4⟩ g3 s3 d3 w4 => by
      subst ed
      simp only [Rp] at w4
      exact ⟨q, w4, kk _ _ _ _ _ h4 (g2.trans g3) s3 d3 (by simp [VR, Rp])⟩
    obtain ⟨mm, hF⟩ := I2.fr
    refine ne_K hu hF I2.ok.mod.kin J JB.type hnf hM.at_ hM.fn hne hmo ?_
    refine wpAny_mono (run hgd hr.in1 I2.env0.in1) (fun w s' ⟨z, H', I', rz, q, eq, hq⟩ => ?_) fun _ _ q => q
    subst eq
    obtain rfl : w = Value.bool q := rz
    exact ⟨q, rfl, .bl (!q), H', I', rfl, hq⟩
theorem wt_neO {a b : Expr} {ta tb : DTE} {pos : Pos} (tk : Takes X W) (ok : WOk Y X.K dw W) (HM : HasM X.prog X.w X.K X.mg X.base PC "__eq__" k ps c) (hgd : X.A.guards = some []) (hr : Room (k + 1) X.A) (hl : ps.length = 2) (hu : X.A.units + 1 < cLine)
    (ha : WE Y X a ta) (hb : WE Y X b tb) (hm : behindInMarks .NotEq b = false := by with_unfolding_all rfl) : WT Y X (.Compare a [.NotEq] [b] pos) (dTst (dNeO X.K PC c dw ta tb)) :=
  wt_ofO (fun I h => neO_core (pos := pos) tk ok HM hgd hr hl hu ha hb I h) hm
end
end DL
set_option maxHeartbeats 4000000
namespace DL
open PySem PySem.Spec PyProof.Rows L2
section
variable {M : Model} {A : Around} {E : Value → Shared → Prop} {s : Shared} {K : PySem.W.Frag} {env : Env} {pos : Pos} {x : Addr} {first : List Value} {Q : Value → Shared → Prop}
theorem kco_ex {e : Expr} {rest : List Expr} (h : wpAny M A (spliced (backTo pos (starEach (e :: rest) env))) (fun vs s₁ => (∃ C dx od, PySem.W.InstAt s₁.heap x (PySem.W.instObj C dx) C od) ∧ wpAny M A (call (.ref x) (first ++ vs)) Q E s₁) E s)
    (he : starEach (e :: rest) env = (false, eval e env) :: starEach rest env) (hplain : (backTo pos (starEach rest env)).any (·.1) = false) :
    wpAny M A (callWith pos (.ref x) first (backTo pos (starEach (e :: rest) env)) []) Q E s := by
  rw [he] at h ⊢
  have h2 : wpAny M A (evalArgs (.ref x) true (backTo pos ((false, eval e env) :: starEach rest env)) []) (fun a s₁ => (∃ C dx od, PySem.W.InstAt s₁.heap x (PySem.W.instObj C dx) C od) ∧ wpAny M A (call (.ref x) (first ++ a.pos) a.kw) Q E s₁) E s := Calls.evalArgs_plain h
  unfold callWith
  refine wpAny_bind (wpAny_holding (wpAny_mono h2 (fun a s₁ h₁ => wpAny_bind (wpAny_standAt ?_)) fun _ _ y => y))
  obtain ⟨⟨C, dx, od, I⟩, h₁⟩ := h₁
  have L := PySem.W.kco_keeper (M := M) I rfl
  have hp : ((((false, eval e env) :: backTo pos (starEach rest env)).any (·.1)) || ([] : List (Option Str × Sem Value)).any (·.1.isNone)) = false := by
    show ((false || (backTo pos (starEach rest env)).any (·.1)) || false) = false
    rw [hplain]; rfl
  simp only [hp]
  refine wpAny_bind (L.here ?_)
  have tail : ∀ {t : Sem Value}, wpAny M A t Q E s₁ → wpAny M A (t >>= fun r => holding [r] point >>= fun _ => pure r) Q E s₁ :=
    fun ht => wpAny_bind (wpAny_mono ht (fun r s₂ hr => wpAny_bind (wpAny_holding (wpAny_point (wpAny_pure hr)))) fun _ _ y => y)
  exact tail (wpAny_operateT h₁)
end
section
variable {X : Cx} {Y : Fx} {k : Nat} {f : Addr} {fd : FuncData} {ps : List Str} {sp : Sp} {W : WX} {dw : DW} {PC : Addr → Prop} {m : Str} {c : Addr → DSpecX}
theorem runxC {A : Around} {pins : List (Addr × Obj)} {σ : L2.St} {H : Hp} {s : Shared} {Q : VK} {E : XK} {us : List Value} {vs : List V} (F : FnGX X.prog X.w X.K X.mg X.base k f fd ps sp) (hgd : A.guards = some []) (hr : Room k A) (e0 : Env0 X.prog X.w X.K X.mg X.base A X.stack s H) (hb : Binds X.K fd ps [])
    (hx : PassesAt (L2.CX X.prog X.w) X σ E) (I : Inv X pins σ H s) (r : Vals vs us) (h : sp vs H Q E) : codeAny (model X.prog X.w) A (.call (.ref f) ⟨us, []⟩) (fun r s' => match r with | .ok (.ret v) => EP X pins σ Q v s' | .ok _ => False | .error e => X.xe e s') s := by
  have hl : (us ++ []).length = ps.length := by rw [List.append_nil, ← r.length]; exact F.len _ _ _ _ h
  have hbi := hb s us I.kIn hl
  rw [List.append_nil] at hbi
  refine codeAny_mono (F.run A X.stack s H ⟨us, []⟩ us vs Q E hgd hr e0 hbi r h) fun q s' hq => ?_
  cases q with
  | error e => exact hx pins H s e s' I hq
  | ok fl =>
    cases fl with
    | ret u => exact I.after hq
    | next => exact hq.elim
    | brk => exact hq.elim
    | cont => exact hq.elim
def dCallO (i : Nat) (PC : Addr → Prop) (l : Nat) (c : Addr → DSpecX) (dw : DW) (t : DTA) : DTE := fun ρ n R => ∃ a, ρ[i]? = some (some (.dat (refD a))) ∧ t ρ n fun as n1 => ∃ o, n1.ob a = some o ∧ PC o.C ∧ as.length + 1 = l ∧ c o.C (.dat (refD a) :: as) n1 (fun d n2 => R (.dat d) n2) fun ex n2 => dw ex ρ n2
theorem we_callO {i : Nat} {x : Str} {p pos : Pos} {e : Expr} {es : List Expr} {t : DTA} (tk : Takes X W) (ok : WOk Y X.K dw W) (HM : HasM X.prog X.w X.K X.mg X.base PC "__call__" k ps c) (hfn : ∀ C g, PC C → PySem.W.findIn X.K (.ref C) "__call__" = some (some (.ref g)) → PySem.W.fnIn X.K g = true) (hgd : X.A.guards = some []) (hr : Room k X.A)
    (hN : X.N[i]? = some x) (hv : Vis X.env.scope x) (ha : WA Y X (e :: es) t) (hdb : (x == ("__debug__" : Str)) = false := by decide) (hcd : (x == ("__classdict__" : Str)) = false := by decide)
    (he : starEach (e :: es) X.env = (false, eval e X.env) :: starEach es X.env := by rfl) (hpl : (backTo pos (starEach es X.env)).any (·.1) = false := by rfl) : WE Y X (.Call (.Name x p) (e :: es) [] pos) (dCallO i PC ps.length c dw t) :=
  ⟨fun pins s σ H Q I ⟨Z, F, ρ, n, R, r, ⟨a, hi, ht⟩, kk⟩ => by
    obtain ⟨v, e1, e2⟩ := r.slot i _ hi
    obtain rfl := VR.ref (K := X.K) (δ := Z.δ) (F := F) (H := H) e2
    refine wpAny_Call_Name_kw (thn ((pe_var (pos := p) hN hv hdb hcd).run pins s σ H (fun v H1 => v = .ref a ∧ H1 = H) I ⟨.ref a, e1, rfl, rfl⟩) fun u s1 ⟨v, H1, I1, r1, q1⟩ => ?_)
    obtain ⟨rfl, rfl⟩ := q1
    cases r1
    refine kco_ex (thn (ha.run pos pins s1 σ _ (fun vs H2 => ∃ as n1 F1, (∃ o, n1.ob a = some o ∧ PC o.C ∧ as.length + 1 = ps.length ∧ c o.C (.dat (refD a) :: as) n1 (fun d n2 => R (.dat d) n2) fun ex n2 => dw ex ρ n2) ∧ Gr Z.δ F _ F1 H2 ∧ Same F1 H2 ∧ Z.δ.at_ X.K F1 H2 n1 ∧ VRs X.K Z.δ F1 H2 as vs) I1 ⟨Z, F, ρ, n, _, r, ht, fun as n1 F1 H1 vs hx g1 s1 d1 w1 => ⟨as, n1, F1, hx, g1, s1, d1, w1⟩⟩) fun us s2 ⟨vs, H2, I2, rr, as, n1, F1, ⟨o, ho, hPC, hlen, hx⟩, g1, sm, d1, w1⟩ => ?_) he hpl
    have r2 := r.step g1 sm d1
    obtain ⟨_, dx, vs', h2, h3⟩ := r2.b.dk.2.1 a o ho
    obtain ⟨hcl, g, fd, hM, hB, hF⟩ := HM _ hPC
    obtain ⟨mA, O, _⟩ := ins_get I2.hok h2
    obtain ⟨od, J, _⟩ := O.look
    refine ⟨⟨_, dx, od, J⟩, wpAny_call (PySem.W.kco_code I2.kIn J rfl hM.at_ hM.fn (hfn _ _ hPC hM.at_) ?_)⟩
    refine runxC (us := .ref a :: us) (vs := .ref a :: vs) hF hgd hr I2.env0 hB (passAt tk σ) I2 (.cons rfl rr) ?_
    exact ⟨Z.δ, F1, .dat (refD a) :: as, n1, _, _, hlen, .cons vr_ref w1, r2.b.sub, d1, r2.b.dkF, hx, fun d n2 F2 H2 v h2 g2 s2 d2 w2 => kk _ _ _ _ _ h2 (g1.trans g2) s2 d2 w2, fun ex n2 F2 H2 cls d h2 g2 s2 d2 w2 => ok _ _ _ _ _ _ _ _ _ h2 (r2.step g2 s2 d2) w2⟩⟩
end
end DL
open PySem PySem.Spec PyProof.Rows L2
namespace DL
def shC (S : List Int) : List (Str × PyData) := [("sizes", clnD S)]
def poF (b : Addr) (k : Int) : List (Str × PyData) := [("left", refD b), ("served", .int k)]
/-- the first of T that T has more often than S -/
def missZ (S T : List Int) : Option Int := T.find? fun z => decide (S.count z < T.count z)
def missD (S T : List Int) : PyData := match missZ S T with | some z => .int z | none => .none
def remL (S : List Int) : List Int → List Int
  | [] => S
  | w :: W => remL (S.erase w) W
theorem remL_snoc (S : List Int) : ∀ (W : List Int) (w : Int), remL S (W ++ [w]) = (remL S W).erase w := fun W => by
  induction W generalizing S with
  | nil => intro w; rfl
  | cons v W ih => intro w; exact ih (S.erase v) w
theorem miss_none {S T : List Int} (h : missZ S T = none) (z : Int) : T.count z ≤ S.count z := by
  by_cases hz : z ∈ T
  · have := List.find?_eq_none.mp h z hz
    simpa using this
  · rw [List.count_eq_zero_of_not_mem hz]; exact Nat.zero_le _
theorem miss_of {S T : List Int} (h : ∀ z, T.count z ≤ S.count z) : missZ S T = none := List.find?_eq_none.mpr fun z _ => by simpa using h z
theorem count_rem (S : List Int) : ∀ (W : List Int) (z : Int), (remL S W).count z = S.count z - W.count z := fun W => by
  induction W generalizing S with
  | nil => intro z; simp [remL]
  | cons w W ih =>
    intro z
    show (remL (S.erase w) W).count z = _
    rw [ih, List.count_erase, List.count_cons]
    by_cases h : w = z
    · subst h
      simp
      omega
    · simp [h]
theorem len_rem (S : List Int) : ∀ (W : List Int), (remL S W).length ≤ S.length := fun W => by
  induction W generalizing S with
  | nil => exact Nat.le_refl _
  | cons w W ih => exact Nat.le_trans (ih (S.erase w)) (List.erase_sublist ..).length_le
theorem mem_rem {S : List Int} : ∀ {W : List Int} {x : Int}, x ∈ remL S W → x ∈ S := fun {W} => by
  induction W generalizing S with
  | nil => intro x h; exact h
  | cons w W ih => intro x h; exact List.mem_of_mem_erase (ih (S := S.erase w) h)
theorem find_first {p : Int → Bool} : ∀ {l : List Int} {k : Nat} {z : Int}, l[k]? = some z → p z = true → (∀ i y, l[i]? = some y → i < k → p y = false) → l.find? p = some z
  | [], k, z, h, _, _ => by cases h
  | x :: l, 0, z, h, hp, _ => by
    cases h
    exact List.find?_cons_of_pos hp
  | x :: l, k + 1, z, h, hp, hn => by
    rw [List.find?_cons_of_neg (by rw [hn 0 x rfl (Nat.succ_pos _)]; decide)]
    exact find_first (l := l) h hp fun i y hy hi => hn (i + 1) y hy (Nat.succ_lt_succ hi)
theorem missD_some {S T : List Int} {z : Int} (h : missZ S T = some z) : missD S T = .int z := by unfold missD; rw [h]
theorem missD_none {S T : List Int} (h : missZ S T = none) : missD S T = .none := by unfold missD; rw [h]
theorem srt_one (y : Int) : srt [y] = [y] := (srt_uniq (List.Perm.refl [y]) (List.pairwise_singleton ..)).symm
theorem miss_one {S : List Int} {y : Int} (h : y ∈ S) : missZ S [y] = none := miss_of fun z => by
  by_cases e : y = z
  · subst e
    have := List.count_pos_iff.mpr h
    have h3 : [y].count y = 1 := by simp
    omega
  · rw [List.count_eq_zero_of_not_mem (show z ∉ [y] from fun q => e (List.mem_singleton.mp q).symm)]
    exact Nat.zero_le _
theorem mem_srt {L : List Int} {x : Int} : x ∈ srt L ↔ x ∈ L := (srt_perm L).mem_iff
theorem head_best {L : List Int} {f : Int → Int} {z j : Int} (hj : j ∈ L) (hz : z ≤ f j) (hb : ∀ i ∈ L, z ≤ f i → f j ≤ f i) : ∃ ys, (srt (L.map f)).filter (fun y => decide (z ≤ y)) = f j :: ys := by
  have hm : f j ∈ (srt (L.map f)).filter (fun y => decide (z ≤ y)) := List.mem_filter.mpr ⟨mem_srt.mpr (List.mem_map_of_mem hj), decide_eq_true hz⟩
  have hs : ((srt (L.map f)).filter (fun y => decide (z ≤ y))).Pairwise (· ≤ ·) := (srt_sorted _).filter _
  cases e : (srt (L.map f)).filter (fun y => decide (z ≤ y)) with
  | nil => rw [e] at hm; cases hm
  | cons y ys =>
    rw [e] at hm hs
    obtain ⟨h1, h2⟩ := List.mem_filter.mp (show y ∈ (srt (L.map f)).filter (fun y => decide (z ≤ y)) by rw [e]; simp)
    obtain ⟨i, hi, rfl⟩ := List.mem_map.mp (mem_srt.mp h1)
    have a := hb i hi (of_decide_eq_true h2)
    have b : f i ≤ f j := by
      rcases List.mem_cons.mp hm with q | q
      · omega
      · exact (List.pairwise_cons.mp hs).1 _ q
    exact ⟨ys, by rw [show f i = f j by omega]⟩
theorem head_none {L : List Int} {f : Int → Int} {z : Int} (h : ∀ i ∈ L, ¬ z ≤ f i) : (srt (L.map f)).filter (fun y => decide (z ≤ y)) = [] :=
  List.filter_eq_nil_iff.mpr fun y hy q => by
    obtain ⟨i, hi, rfl⟩ := List.mem_map.mp (mem_srt.mp hy)
    exact h i hi (of_decide_eq_true q)
theorem erase_map {L : List Int} {f : Int → Int} {j : Int} (hj : j ∈ L) : ((L.map f).erase (f j)).Perm ((L.erase j).map f) := by
  have h := ((List.perm_cons_erase hj).map f).erase (f j)
  rw [List.map_cons, List.erase_cons_head] at h
  exact h
theorem srt_erase {L : List Int} {f : Int → Int} {j : Int} (hj : j ∈ L) : srt ((srt (L.map f)).erase (f j)) = srt ((L.erase j).map f) :=
  srt_uniq ((srt_perm _).trans (((srt_perm _).erase _).trans (erase_map hj))) (srt_sorted _)
theorem srt_eq {A B : List Int} (h : A.Perm B) : srt A = srt B := srt_uniq ((srt_perm A).trans h) (srt_sorted A)
theorem srv_snoc (a : List (Int × Int)) (q : Int × Int) : srv (a ++ [q]) = srv a + if q.2 = -1 then 0 else 1 := by
  unfold srv
  rw [List.filter_append, List.length_append]
  congr 1
  by_cases h : q.2 = -1
  · rw [if_pos h]; simp [h]
  · rw [if_neg h]; simp [h]
theorem keepO {n : Wo} {a x : Addr} {o v : Ob} (h : n.ob a = some o) (hx : n.ob x = none) : (n.put x v).ob a = some o := by
  refine (Wo.put_ne ?_).trans h
  rintro rfl
  rw [h] at hx
  cases hx
theorem nr_ints (S : List Int) : NrA (.tuple (S.map .int)) := .tup fun y hy => by obtain ⟨z, _, rfl⟩ := List.mem_map.mp hy; exact .int z
theorem sh_no {S : List Int} {Q : Prop} (hS : In1 (10 ^ 6) S) (hl : S.length ≤ 100) (h : shB (.tuple (S.map .int)) = false) : Q := Bool.noConfusion (h.symm.trans (shB_ints hS hl))
theorem leftL_iff {m : Nat} {run : List (Int × Int)} {j : Int} : j ∈ leftL m run ↔ j ∈ intsN m ∧ ∀ q ∈ run, q.2 ≠ j := by
  unfold leftL
  rw [List.mem_filter]
  refine and_congr_right fun _ => ?_
  simp
theorem leftL_nd {m : Nat} {run : List (Int × Int)} : (leftL m run).Nodup := by
  unfold leftL
  exact ((intsN_lt m).imp fun h => Int.ne_of_lt h).filter _
end DL
set_option maxHeartbeats 0
namespace DL
open PySem PySem.Spec PyProof.Rows L2
def topS (i : Nat) : Stmt := PySem.Challenge.pw_shoeparty_k31_whole_porters_and_the_rule.main.body.getD i (.Pass ⟨0, 0, 0, 0⟩)
structure CA where
  PartyError : Addr
  BadShelf : Addr
  TooManyPairs : Addr
  Missing : Addr
  BadFoot : Addr
  NoPlace : Addr
  Shelf : Addr
  Porter : Addr
structure Bn (K : PySem.W.Frag) (mg : Str → Option Value) (C : CA) : Prop where
  LookupError : mg "LookupError" = none
  ValueError : mg "ValueError" = none
  abs : mg "abs" = none
  all : mg "all" = none
  bool : mg "bool" = none
  enumerate : mg "enumerate" = none
  int : mg "int" = none
  isinstance : mg "isinstance" = none
  len : mg "len" = none
  list : mg "list" = none
  max : mg "max" = none
  min : mg "min" = none
  range : mg "range" = none
  set : mg "set" = none
  sorted : mg "sorted" = none
  sum : mg "sum" = none
  tuple : mg "tuple" = none
  MAX_SIZE : ∃ t, mg "MAX_SIZE" = some (.int (1000000) t)
  MAX_SHELF : ∃ t, mg "MAX_SHELF" = some (.int (100) t)
  NO_PAIR : ∃ t, mg "NO_PAIR" = some (.int (-1) t)
  g_PartyError : mg "PartyError" = some (.ref C.PartyError)
  g_BadShelf : mg "BadShelf" = some (.ref C.BadShelf)
  g_TooManyPairs : mg "TooManyPairs" = some (.ref C.TooManyPairs)
  g_Missing : mg "Missing" = some (.ref C.Missing)
  g_BadFoot : mg "BadFoot" = some (.ref C.BadFoot)
  g_NoPlace : mg "NoPlace" = some (.ref C.NoPlace)
  g_Shelf : mg "Shelf" = some (.ref C.Shelf)
  g_Porter : mg "Porter" = some (.ref C.Porter)
  cg : PySem.W.specialIn K (.builtin "object.__class__") "__get__" = some (some (.builtin "getset_descriptor.__get__"))
  ct : PySem.W.takesIn K (.builtin "object.__class__") = some true
  ty_BadShelf : PySem.W.typeIn K (.ref C.BadShelf) = some (.type "type")
  k_BadShelf : PySem.W.keepIn K (.ref C.BadShelf) = true
  sa_BadShelf : PySem.W.findIn K (.ref C.BadShelf) "__setattr__" = some (some (.builtin "object.__setattr__"))
  ty_TooManyPairs : PySem.W.typeIn K (.ref C.TooManyPairs) = some (.type "type")
  k_TooManyPairs : PySem.W.keepIn K (.ref C.TooManyPairs) = true
  ty_Missing : PySem.W.typeIn K (.ref C.Missing) = some (.type "type")
  k_Missing : PySem.W.keepIn K (.ref C.Missing) = true
  sa_Missing : PySem.W.findIn K (.ref C.Missing) "__setattr__" = some (some (.builtin "object.__setattr__"))
  ty_BadFoot : PySem.W.typeIn K (.ref C.BadFoot) = some (.type "type")
  k_BadFoot : PySem.W.keepIn K (.ref C.BadFoot) = true
  sa_BadFoot : PySem.W.findIn K (.ref C.BadFoot) "__setattr__" = some (some (.builtin "object.__setattr__"))
  cl_Shelf : PySem.W.isClsIn K C.Shelf = true
  ty_Shelf : PySem.W.typeIn K (.ref C.Shelf) = some (.type "type")
  k_Shelf : PySem.W.keepIn K (.ref C.Shelf) = true
  hd_Shelf : PySem.W.hasDictIn K C.Shelf = true
  ca_Shelf : PySem.W.findIn K (.ref C.Shelf) "__class__" = some (some (.builtin "object.__class__"))
  mo_Shelf : PySem.W.mroIn K C.Shelf (.type "object") = some true
  sa_Shelf : PySem.W.findIn K (.ref C.Shelf) "__setattr__" = some (some (.builtin "object.__setattr__"))
  s_Shelf_Shelf : PySem.W.subIn K (.ref C.Shelf) (.ref C.Shelf) = some true
  k_Porter : PySem.W.keepIn K (.ref C.Porter) = true
  hd_Porter : PySem.W.hasDictIn K C.Porter = true
  sa_Porter : PySem.W.findIn K (.ref C.Porter) "__setattr__" = some (some (.builtin "object.__setattr__"))
  sb_BadShelf : PySem.W.subIn K (.ref C.BadShelf) (.type "BaseException") = some true
  n_BadShelf : PySem.W.findIn K (.ref C.BadShelf) "value" = some none
  sb_TooManyPairs : PySem.W.subIn K (.ref C.TooManyPairs) (.type "BaseException") = some true
  sb_Missing : PySem.W.subIn K (.ref C.Missing) (.type "BaseException") = some true
  n_Missing : PySem.W.findIn K (.ref C.Missing) "size" = some none
  sb_BadFoot : PySem.W.subIn K (.ref C.BadFoot) (.type "BaseException") = some true
  n_BadFoot : PySem.W.findIn K (.ref C.BadFoot) "value" = some none
  pg_Shelf : PySem.W.plainGet K C.Shelf Str.empty = true
  po_Shelf : PySem.W.plainOver K C.Shelf = true
  mk_Shelf : PySem.W.makesIn K C.Shelf = true
  sf_Shelf : PySem.W.selfFirst K C.Shelf = true
  ne_Shelf : PySem.W.findIn K (.ref C.Shelf) "__ne__" = some (some (.builtin "object.__ne__"))
  f_Shelf_sizes : PySem.W.findIn K (.ref C.Shelf) "sizes" = some none
  pg_Porter : PySem.W.plainGet K C.Porter Str.empty = true
  po_Porter : PySem.W.plainOver K C.Porter = true
  mk_Porter : PySem.W.makesIn K C.Porter = true
  f_Porter_left : PySem.W.findIn K (.ref C.Porter) "left" = some none
  f_Porter_served : PySem.W.findIn K (.ref C.Porter) "served" = some none
  e0_PartyError : PySem.W.excIn K C.PartyError [.type "ValueError", .type "Exception", .type "BaseException", .type "object"] "ValueError.__new__" = true
  e0_TooManyPairs : PySem.W.excIn K C.TooManyPairs [.type "ValueError", .type "Exception", .type "BaseException", .type "object"] "ValueError.__new__" = true
section
variable {K : PySem.W.Frag} {mg : Str → Option Value} {C : CA}
theorem Bn.e_TooManyPairs (B : Bn K mg C) : ErrC0 K mg "TooManyPairs" C.TooManyPairs := ⟨B.g_TooManyPairs, B.k_TooManyPairs, B.e0_TooManyPairs, B.sb_TooManyPairs, B.ty_TooManyPairs⟩
theorem Bn.c_Shelf (B : Bn K mg C) : Cls K C.Shelf := ⟨B.pg_Shelf, B.hd_Shelf, B.po_Shelf, B.sa_Shelf⟩
theorem Bn.i_Shelf (B : Bn K mg C) : InsC K C.Shelf := ⟨B.c_Shelf, B.ca_Shelf, B.cg, B.ct, B.mo_Shelf⟩
theorem Bn.fl_Shelf_sizes (B : Bn K mg C) : FldC K C.Shelf "sizes" := ⟨B.c_Shelf, B.f_Shelf_sizes⟩
theorem Bn.c_Porter (B : Bn K mg C) : Cls K C.Porter := ⟨B.pg_Porter, B.hd_Porter, B.po_Porter, B.sa_Porter⟩
theorem Bn.fl_Porter_left (B : Bn K mg C) : FldC K C.Porter "left" := ⟨B.c_Porter, B.f_Porter_left⟩
theorem Bn.fl_Porter_served (B : Bn K mg C) : FldC K C.Porter "served" := ⟨B.c_Porter, B.f_Porter_served⟩
theorem Bn.k_Shelf_Shelf (B : Bn K mg C) : PySem.W.kitOne K (.ref C.Shelf) (.ref C.Shelf) = some true := kit_own B.cl_Shelf B.ty_Shelf B.s_Shelf_Shelf B.s_Shelf_Shelf
end
section
variable {P : Program} {w : World} {K : PySem.W.Frag} {mg : Str → Option Value} {base : Heap} {C : CA}
abbrev s__law_deck : Stmt := topS 34
abbrev s__law_draw : Stmt := topS 35
def spDeckA (K : PySem.W.Frag) : Sp := fun vs H Q _ => ∃ (a : Addr) (ns : List Int), vs = [.ref a] ∧ SqL K H a (ns.map V.int) ∧ ns.length ≤ 63 ∧
  ∀ (H' : Hp) (p q : Addr), Same H H' → H p = none → H q = none → (dkA p q).at0 H' 0 → Q (.ref p) H'
theorem scDeck : FnScope ["script", "cell"] ["script"] (defScope s__law_deck) := ⟨rfl, rfl, rfl, by decide +kernel, rfl, by decide +kernel, by decide +kernel⟩
theorem ok_deck {f : Addr} {fd : FuncData} (F : Fun K "_law_deck" "_law_deck" s__law_deck f fd) (mabs : mg "abs" = none) : FnG P w K mg base 1 f fd ["script"] (spDeckA K) := by
  refine fng_of F scDeck (fun vs H Q E ⟨a, ns, e, _⟩ => by rw [e]; rfl) fun cdv A outer s H vs Q hgd hr ⟨a, ns, e, hS, hlen, k⟩ => ?_
  subst e
  refine ⟨_, pss_one (ps_ret (pe_lst (pa_cons (pe_lc (own := [("cell", 1)]) (g := gName 1) (tt := tYes) rfl scDeck.nd (pi_list (pe_slice sl_list (pv 0) po_none (po_some pe_int)))
    (blkOk_by (N := ["script", "cell"]) (sc := defScope s__law_deck) (by decide +kernel)) (fun _ _ _ _ _ => pg_name (i := 1) scDeck.nd rfl (Or.inl rfl)) (fun _ _ _ _ _ => pts_nil)
    (fun _ _ _ _ _ => pe_callB call_abs (by rfl) mabs PyProof.Rows.boot_abs (pa_cons (pv 1) pa_nil))) (pa_cons pe_int pa_nil)))), ?_⟩
  refine ⟨_, rfl, 60, rfl, a, _, rfl, hS, fun l hl => ?_⟩
  have cut : ∃ ms : List Int, cutV (ns.map V.int) none (some 60) = ms.map V.int ∧ ms.length ≤ 63 := by
    refine ⟨cutG ns none (some 60), by unfold cutG cutV; simp, ?_⟩
    unfold cutG
    rw [List.length_take, List.length_drop]
    omega
  obtain ⟨ms, e1, e2⟩ := cut
  rw [e1]
  have s1 : Same H (upd H l (.lst (ms.map V.int))) := fun b o e => by rw [upd_ne (ne_of_none e hl)]; exact e
  refine ⟨l, rfl, ⟨_, SqL.of upd_same⟩, fun D hD => ?_⟩
  have nlD : l ≠ D := fun q => by rw [← q, upd_same] at hD; cases hD
  have hD0 : H D = none := s1.free hD
  refine lc_list (K := K) (a := l) (xs := ms.map V.int) (fun i H' => ∃ cs : List Int, cs.length ≤ i ∧ (∀ c ∈ cs, 0 ≤ c) ∧ H' = upd (upd H l (.lst (ms.map V.int))) D (.lst (cs.map V.int)))
    ⟨[], Nat.le_refl _, fun _ h => (by cases h), rfl⟩ (fun i H' _ ⟨cs, _, _, e⟩ => by rw [e]; exact SqL.of (by rw [upd_ne nlD]; exact upd_same)) (fun i x H' hx ⟨cs, hc1, hc2, e⟩ => ?_) (fun H' ⟨cs, hc1, hc2, e⟩ => ?_)
  · subst e
    rw [List.getElem?_map] at hx
    obtain ⟨z, hz, rfl⟩ := Option.map_eq_some_iff.mp hx
    have hi : i < ms.length := (List.getElem?_eq_some_iff.mp hz).1
    refine ⟨rfl, V.int z, rfl, z, rfl, cs.map V.int, upd_same, small1000 (by rw [List.length_map]; omega), cs ++ [if z < 0 then -z else z], by rw [List.length_append]; show cs.length + 1 ≤ i + 1; omega, fun c hc => ?_, ?_⟩
    · rcases List.mem_append.mp hc with q | q
      · exact hc2 c q
      · rw [List.mem_singleton.mp q]; split <;> omega
    · rw [upd_upd, List.map_append] <;> rfl
  · subst e
    refine ⟨by show 2 ≤ sizeLine; decide, fun p hp => ?_⟩
    have hp2 : upd H l (.lst (ms.map V.int)) p = none := by
      by_cases q : p = D
      · rw [q, upd_same] at hp; cases hp
      · rw [upd_ne q] at hp; exact hp
    have npD : D ≠ p := fun q => by rw [← q, upd_same] at hp; cases hp
    rw [List.length_map] at hc1
    refine k _ p D (fun b o e => ?_) (s1.free hp2) hD0 ⟨cs, upd_same, by rw [upd_ne npD]; exact upd_same, by omega, hc2⟩
    have eb := s1 b o e
    rw [upd_ne (ne_of_none eb hp2), upd_ne (ne_of_none eb hD)]
    exact eb
def drawA : DSpec := fun as n R => ∃ lim : Int, as = [.deck false, .dat (.int lim)] ∧ 1 ≤ lim ∧ lim ≤ 10 ^ 7 ∧ n.n ≤ 10 ^ 6 ∧ ∀ r : Int, 0 ≤ r → r < lim → R (.int r) (n + 1)
theorem scDraw : FnScope ["deck", "bound", "at", "cell", "mixed"] ["deck", "bound"] (defScope s__law_draw) := ⟨rfl, rfl, rfl, by decide +kernel, rfl, by decide +kernel, by decide +kernel⟩
theorem ok_draw {f : Addr} {fd : FuncData} (F : Fun K "_law_draw" "_law_draw" s__law_draw f fd) (mlen : mg "len" = none) (mmax : mg "max" = none) : FnG P w K mg base 1 f fd ["deck", "bound"] (spD K 2 drawA) := by
  refine fng_of F scDraw (fun vs H Q E ⟨δ, Fz, as, n, R, hl, w1, _⟩ => by rw [← Paired.length w1]; exact hl) fun cdv A outer s H vs Q hgd hr ⟨δ, Fz, as, n, R, hl, w1, s1, d1, o1, ⟨lim, ea, hl1, hl2, hn, hR⟩, hk⟩ => ?_
  subst ea
  obtain ⟨va, vb, rfl, h1, h2⟩ := vr2 w1
  obtain ⟨a, rfl, b, rfl⟩ := h1
  simp only [VR, Rp] at h2
  subst h2
  obtain ⟨⟨cells, hA, hB, hc1, hc2⟩, hob⟩ := d1
  have nba : b ≠ a := fun q => by
    rw [q, hA] at hB
    have q2 := HO.lst.inj (Option.some.inj hB)
    cases cells with
    | nil => cases q2
    | cons x r => simp at q2
  -- what is wanted behind the body
  have fin : ∀ (H' : Hp) (cs : List Int) (r : Int), H' a = some (.lst [.ref b, .int ((n.n : Int) + 1)]) → H' b = some (.lst (cs.map V.int)) → cs.length ≤ 63 → (∀ c ∈ cs, 0 ≤ c) → (∀ c o, c ≠ a → c ≠ b → H c = some o → H' c = some o) → 0 ≤ r → r < lim → Q (.int r) H' := fun H' cs r q1 q2 q3 q4 q5 q6 q7 => by
    have out : ∀ c o, c ∉ (dkA a b).own → H c = some o → H' c = some o := fun c o hc => q5 c o (fun e => hc (by rw [e]; simp [dkA])) fun e => hc (by rw [e]; simp [dkA])
    have keepI : ∀ c C dx fs, H c = some (.ins C dx fs) → H' c = some (.ins C dx fs) := fun c C dx fs e => q5 c _ (fun z => by rw [z, hA] at e; cases e) (fun z => by rw [z, hB] at e; cases e) e
    have inn : ∀ c, c ∈ (dkA a b).own → H' c ≠ none := fun c hc => by
      simp only [dkA, List.mem_cons, List.not_mem_nil, or_false] at hc
      rcases hc with e | e <;> rw [e]
      · rw [q1]; nofun
      · rw [q2]; nofun
    refine hk (.int r) (n + 1) Fz H' _ (hR r q6 q7) ⟨Same.refl _, fun _ _ h => h, fun c o hc e _ => out c o hc e, fun c C dx fs e => ⟨fs, keepI c C dx fs e⟩, fun c hc => ?_⟩ (fun c o e => ?_) ⟨⟨cs, q1, q2, q3, q4⟩, fun c ob e => (by
      obtain ⟨h1, dx, vs, h2, h3⟩ := hob.1 c ob e
      exact ⟨h1, dx, vs, keepI _ _ _ _ h2, h3⟩), hob.2⟩ (by simp [Rp])
    · by_cases z : c ∈ (dkA a b).own
      · exact inn c z
      · obtain ⟨o, e⟩ := some_of_ne hc
        rw [out c o z e]; nofun
    · exact out c o (fun z => by rw [(o1 c z).1] at e; cases e) (s1 _ _ e)
  refine ⟨_, pss_cons (ps_asg (pe_op op_add (pe_ix ix_list (pv 0) pe_int (fun _ _ => rfl)) pe_int) (pg_sub (pv 0) pe_int set_list))
    (pss_cons (ps_set (i := 2) scDraw.nd rfl (Or.inl rfl) (pe_op op_mod (pe_ix ix_list (pv 0) pe_int (fun _ _ => rfl)) (pe_callB (call_max2 rfl) (by rfl) mmax PyProof.Rows.boot_max (pa_cons pe_int (pa_cons (pe_callB call_len_seq (by rfl) mlen PySem.boot_len (pa_cons (pe_ix ix_list (pv 0) pe_int (fun _ _ => rfl)) pa_nil)) pa_nil)))))
    (pss_cons (ps_set (i := 3) scDraw.nd rfl (Or.inl rfl) (pe_ix ix_list (pe_op op_cat (pe_ix ix_list (pv 0) pe_int (fun _ _ => rfl)) (pe_lst (pa_cons pe_int pa_nil))) (pv 2) (fun _ _ => rfl)))
    (pss_cons (ps_if (pt_cmpR op_ge (pv 3) (pe_op op_pow pe_int pe_int) (nomark _))
        (pss_cons (ps_asg (pe_op op_fdivW (pv 3) (pv 1)) (pg_sub (pe_ix ix_list (pv 0) pe_int (fun _ _ => rfl)) (pv 2) set_list)) (pss_one (ps_ret (pe_op op_mod (pv 3) (pv 1))))) pss_nil)
    (pss_cons (ps_set (i := 4) scDraw.nd rfl (Or.inl rfl) (pe_op op_mod (pe_op op_pow (pe_op op_add (pe_op op_add (pe_op op_mod (pv 3) pe_int) (pe_op op_mul pe_int (pe_ix ix_list (pv 0) pe_int (fun _ _ => rfl)))) pe_int) pe_int) pe_int))
    (pss_one (ps_ret (pe_op op_mod (pe_op op_add (pe_op op_fdivW (pv 4) pe_int) (pe_op op_mul pe_int (pe_ix ix_list (pv 0) pe_int (fun _ _ => rfl)))) (pv 1)))))))), ?_⟩
  refine ⟨_, rfl, a, _, 1, .int n.n, rfl, rfl, SqL.of hA, rfl, n.n, 1, rfl, rfl, _, rfl, a, _, 1, 1, rfl, rfl, hA, rfl, ?_⟩
  -- behind the first row
  have hA1 : upd H a (.lst ([V.ref b, V.int n.n].set 1 (.int ((n.n : Int) + 1)))) a = some (.lst [.ref b, .int ((n.n : Int) + 1)]) := upd_same
  have hB1 : upd H a (.lst ([V.ref b, V.int n.n].set 1 (.int ((n.n : Int) + 1)))) b = some (.lst (cells.map V.int)) := by rw [upd_ne nba]; exact hB
  have hO1 : ∀ c, c ≠ a → upd H a (.lst ([V.ref b, V.int n.n].set 1 (.int ((n.n : Int) + 1)))) c = H c := fun c hc => upd_ne hc
  generalize upd H a (.lst ([V.ref b, V.int n.n].set 1 (.int ((n.n : Int) + 1)))) = H1 at hA1 hB1 hO1
  have hO2 : ∀ c o, c ≠ a → H c = some o → H1 c = some o := fun c o hc e => (hO1 c hc).trans e
  have hA2 := hA1
  have hB2 := hB1
  have cdiv : ∀ c : Int, CDivW c lim := fun c => wide_div (b := 64) (by omega) (by omega) (by decide) (by decide)
  refine ⟨_, rfl, a, _, 1, .int ((n.n : Int) + 1), rfl, rfl, SqL.of hA2, rfl, _, rfl, a, _, 0, .ref b, rfl, rfl, SqL.of hA2, rfl, b, _, rfl, .inl (SqL.of hB2), ?_⟩
  refine ⟨_, _, rfl, _, _, rfl, rfl, ?_⟩
  rw [List.length_map]
  have hpos : (0 : Int) < lim := by omega
  have ends : ∀ z : Int, 0 ≤ z % lim ∧ z % lim < lim := fun z => ⟨Int.emod_nonneg _ (by omega), Int.emod_lt_of_pos _ hpos⟩
  obtain ⟨m, hm⟩ : ∃ m, ((n.n : Int) + 1) % (if (cells.length : Int) > 1 then (cells.length : Int) else 1) = m := ⟨_, rfl⟩
  obtain ⟨c, hc0, hcat, hcw⟩ : ∃ c : Int, 0 ≤ c ∧ atI ((cells ++ [0]).map V.int) m = some (.int c) ∧ (10 ^ 18 ≤ c → ∃ j : Nat, j < cells.length ∧ m = j) := by
    by_cases hne : cells = []
    · subst hne
      have : m = 0 := by rw [← hm]; show ((n.n : Int) + 1) % 1 = 0; omega
      subst this
      exact ⟨0, Int.le_refl 0, rfl, fun q => absurd q (by decide)⟩
    · have hlen : 0 < cells.length := List.length_pos_iff.mpr hne
      have m0 : 0 ≤ m := by rw [← hm]; exact Int.emod_nonneg _ (by split <;> omega)
      have m1 : m < cells.length := by
        rw [← hm]
        by_cases q : (cells.length : Int) > 1
        · rw [if_pos q]; exact Int.emod_lt_of_pos _ (by omega)
        · rw [if_neg q]; have := Int.emod_lt_of_pos ((n.n : Int) + 1) (show (0 : Int) < 1 by decide); omega
      obtain ⟨j, rfl⟩ : ∃ j : Nat, m = (j : Int) := ⟨m.toNat, by omega⟩
      have hjl : j < cells.length := by omega
      refine ⟨cells[j], hc2 _ (List.getElem_mem _), atI_nat ?_, fun _ => ⟨j, hjl, rfl⟩⟩
      rw [List.getElem?_map, List.getElem?_append_left hjl, List.getElem?_eq_getElem hjl]
      rfl
  refine ⟨by split <;> omega, ?_⟩
  subst hm
  refine ⟨_, rfl, a, _, 0, .ref b, rfl, rfl, SqL.of hA2, rfl, by show 1 ≤ sizeLine; decide, fun p hp => ?_⟩
  have pb : b ≠ p := fun q => by rw [← q, hB2] at hp; cases hp
  have pa' : a ≠ p := fun q => by rw [← q, hA2] at hp; cases hp
  refine ⟨b, p, _, [V.int 0], rfl, rfl, by rw [upd_ne pb]; exact hB2, upd_same, by rw [List.length_map]; exact Nat.le_trans (show cells.length + 1 ≤ 1000 by omega) (by decide), fun q hq => ?_⟩
  have qp : p ≠ q := fun e => by rw [← e, upd_same] at hq; cases hq
  have hq1 : H1 q = none := by rw [upd_ne (Ne.symm qp)] at hq; exact hq
  have qb : b ≠ q := fun e => by rw [← e, hB2] at hq1; cases hq1
  have qa : a ≠ q := fun e => by rw [← e, hA2] at hq1; cases hq1
  have hQ3 : upd (upd H1 p (.lst [V.int 0])) q (.lst (cells.map V.int ++ [V.int 0])) q = some (.lst ((cells ++ [0]).map V.int)) := by rw [upd_same, List.map_append]; rfl
  have hA3 : upd (upd H1 p (.lst [V.int 0])) q (.lst (cells.map V.int ++ [V.int 0])) a = some (.lst [.ref b, .int ((n.n : Int) + 1)]) := by rw [upd_ne qa, upd_ne pa']; exact hA2
  have hB3 : upd (upd H1 p (.lst [V.int 0])) q (.lst (cells.map V.int ++ [V.int 0])) b = some (.lst (cells.map V.int)) := by rw [upd_ne qb, upd_ne pb]; exact hB2
  have hO3 : ∀ c o, c ≠ a → c ≠ b → H c = some o → upd (upd H1 p (.lst [V.int 0])) q (.lst (cells.map V.int ++ [V.int 0])) c = some o := fun c o ca cb e => by
    have e1 := hO2 c o ca e
    rw [upd_ne (fun z => by rw [← z, e1] at hq1; cases hq1), upd_ne (fun z => by rw [← z, e1] at hp; cases hp)]
    exact e1
  generalize upd (upd H1 p (.lst [V.int 0])) q (.lst (cells.map V.int ++ [V.int 0])) = H3 at hQ3 hA3 hB3 hO3
  refine ⟨_, rfl, q, _, _, .int c, rfl, rfl, SqL.of hQ3, hcat, ?_⟩
  have last : (c % 2147483563 + 104729 * ((n.n : Int) + 1) + 7).natAbs < 2 ^ 64 := by
    have h1 : 0 ≤ c % 2147483563 := Int.emod_nonneg _ (by decide)
    have h2 : c % 2147483563 < 2147483563 := Int.emod_lt_of_pos _ (by decide)
    omega
  refine ⟨_, rfl, 10, 18, rfl, rfl, ⟨by decide, by decide, by decide⟩, c, _, rfl, rfl, _, rfl, ?_⟩
  refine ite2 (fun hbig => ?_) fun _ => ?_
  · obtain ⟨j, hjl, hj⟩ := hcw (by simpa using hbig)
    refine ⟨_, rfl, _, rfl, c, lim, rfl, rfl, cdiv c, _, rfl, a, _, 0, .ref b, rfl, rfl, SqL.of hA3, rfl, _, rfl, b, _, _, j, rfl, rfl, hB3, ?_, ?_⟩
    · show ixN _ (((n.n : Int) + 1) % (if (cells.length : Int) > 1 then (cells.length : Int) else 1)) = some j
      rw [List.length_map, hj]
      unfold ixN
      rw [if_pos (by omega), if_pos (by omega)]
      rfl
    · refine ⟨_, rfl, _, rfl, c, lim, rfl, rfl, hpos, ?_⟩
      refine fin _ (cells.set j (c / lim)) _ (by rw [upd_ne (Ne.symm nba)]; exact hA3) (by rw [upd_same, List.map_set]) (by rw [List.length_set]; exact hc1) (fun d hd => ?_) (fun d o q1 q2 e => by rw [upd_ne q2]; exact hO3 d o q1 q2 e) (ends _).1 (ends _).2
      rcases List.mem_or_eq_of_mem_set hd with q | q
      · exact hc2 d q
      · rw [q]; exact Int.ediv_nonneg hc0 (by omega)
  · refine ⟨_, rfl, c, 2147483563, rfl, rfl, (by decide : (0 : Int) < 2147483563), _, rfl, a, _, 1, .int ((n.n : Int) + 1), rfl, rfl, SqL.of hA3, rfl, 104729, _, rfl, rfl, .inl ⟨by decide, by decide⟩, _, _, rfl, rfl, _, 7, rfl, rfl, _, 4, rfl, rfl, ⟨by decide, by decide, last⟩,
      _, 2147483629, rfl, rfl, (by decide : (0 : Int) < 2147483629), ?_⟩
    refine ⟨_, rfl, _, 8, rfl, rfl, wide_div (b := 64) (by decide) (by decide) (by decide) (by decide), _, rfl, a, _, 1, .int ((n.n : Int) + 1), rfl, rfl, SqL.of hA3, rfl, 31, _, rfl, rfl, .inl ⟨by decide, by decide⟩, _, _, rfl, rfl, _, rfl, _, lim, rfl, rfl, hpos, ?_⟩
    exact fin H3 cells _ hA3 hB3 hc1 hc2 hO3 (ends _).1 (ends _).2
abbrev s_BadShelf_init : Stmt := inCls (topS 4) 0
theorem sc_BadShelf_init : FnScope ["self", "value"] ["self", "value"] (defScope s_BadShelf_init) := ⟨rfl, rfl, rfl, by decide +kernel, rfl, by decide +kernel, by decide +kernel⟩
theorem ok_BadShelf_init {f : Addr} {fd : FuncData} (F : Fun K "__init__" "BadShelf.__init__" s_BadShelf_init f fd) (T : OexC K C.BadShelf) (B : Bn K mg C) : FnOk P w K mg base CX0 1 f fd ["self", "value"] (spEI C.BadShelf "value") := by
  refine F.ok sc_BadShelf_init (fun vs H Q E ⟨a, v, e, _⟩ => by rw [e]; rfl) fun cdv A outer s H vs Q E hr ⟨a, v, e, hH, hQ⟩ => ⟨_, pss_one (ps_ost (pv 0) (pv 1)), ?_⟩
  subst e
  exact ⟨_, rfl, _, rfl, a, C.BadShelf, rfl, T, B.n_BadShelf, .inl ⟨hH, fun dx h1 h2 => hQ dx h1 h2⟩⟩
abbrev s_Missing_init : Stmt := inCls (topS 6) 0
theorem sc_Missing_init : FnScope ["self", "size"] ["self", "size"] (defScope s_Missing_init) := ⟨rfl, rfl, rfl, by decide +kernel, rfl, by decide +kernel, by decide +kernel⟩
theorem ok_Missing_init {f : Addr} {fd : FuncData} (F : Fun K "__init__" "Missing.__init__" s_Missing_init f fd) (T : OexC K C.Missing) (B : Bn K mg C) : FnOk P w K mg base CX0 1 f fd ["self", "size"] (spEI C.Missing "size") := by
  refine F.ok sc_Missing_init (fun vs H Q E ⟨a, v, e, _⟩ => by rw [e]; rfl) fun cdv A outer s H vs Q E hr ⟨a, v, e, hH, hQ⟩ => ⟨_, pss_one (ps_ost (pv 0) (pv 1)), ?_⟩
  subst e
  exact ⟨_, rfl, _, rfl, a, C.Missing, rfl, T, B.n_Missing, .inl ⟨hH, fun dx h1 h2 => hQ dx h1 h2⟩⟩
abbrev s_BadFoot_init : Stmt := inCls (topS 7) 0
theorem sc_BadFoot_init : FnScope ["self", "value"] ["self", "value"] (defScope s_BadFoot_init) := ⟨rfl, rfl, rfl, by decide +kernel, rfl, by decide +kernel, by decide +kernel⟩
theorem ok_BadFoot_init {f : Addr} {fd : FuncData} (F : Fun K "__init__" "BadFoot.__init__" s_BadFoot_init f fd) (T : OexC K C.BadFoot) (B : Bn K mg C) : FnOk P w K mg base CX0 1 f fd ["self", "value"] (spEI C.BadFoot "value") := by
  refine F.ok sc_BadFoot_init (fun vs H Q E ⟨a, v, e, _⟩ => by rw [e]; rfl) fun cdv A outer s H vs Q E hr ⟨a, v, e, hH, hQ⟩ => ⟨_, pss_one (ps_ost (pv 0) (pv 1)), ?_⟩
  subst e
  exact ⟨_, rfl, _, rfl, a, C.BadFoot, rfl, T, B.n_BadFoot, .inl ⟨hH, fun dx h1 h2 => hQ dx h1 h2⟩⟩
abbrev c__law_draw : DSpec := drawA
def c__law_hall : DSpec := fun as n R => ∃ g p : Int, as = [.deck false, .dat (.int g), .dat (.int p)] ∧ 1 ≤ g ∧ g ≤ 20 ∧ 0 ≤ p ∧ p ≤ 20 ∧ n.n ≤ 800000 ∧ ∀ (h : Hl) n', HlOk h → n' ≤ n + 100 → R (halD h) n'
def c__law_mixed : DSpec := fun as n R => ∃ S : List Int, as = [.deck false, .dat (.list (S.map .int))] ∧ S.length ≤ 100 ∧ n.n ≤ 800000 ∧ ∀ (T : List Int) n', T.Perm S → n' ≤ n + 100 → R (.tuple (T.map .int)) n'
def c_counts_at : DSpec := fun as n R => ∃ feet pairs : List Int, ∃ z : Int, as = [.dat (hallD feet pairs), .dat (.int z)] ∧ feet.length ≤ 100 ∧ pairs.length ≤ 100 ∧ R (.tuple [.int (cF feet z : Nat), .int (cP pairs z : Nat)]) n
def c__foot_sizes : DSpec := fun as n R => ∃ feet pairs : List Int, as = [.dat (hallD feet pairs)] ∧ feet.length ≤ 40 ∧ ∀ ms : List Int, ms = sd feet → (∀ k, k ∈ ms ↔ k ∈ feet) → ms.length ≤ 40 → R (.list (ms.map .int)) n
def c__deciding_sizes : DSpec := fun as n R => ∃ feet pairs : List Int, as = [.dat (hallD feet pairs)] ∧ feet.length ≤ 40 ∧ ∀ ms : List Int, ms = sd feet ++ [1000001] → (∀ k, k ∈ ms ↔ (k ∈ feet ∨ k = 1000001)) → ms.length ≤ 41 → R (.list (ms.map .int)) n
def c_fewest_served : DSpec := fun as n R => ∃ feet pairs : List Int, as = [.dat (hallD feet pairs)] ∧ HallOk feet pairs ∧ ∀ m : Int, IsFew feet pairs m → R (.int m) n
def c_is_tuple : DSpec := fun as n R => ∃ d : PyData, ∃ a b : Int, as = [.dat d, .dat (.int a), .dat (.int b)] ∧ isRefD d = false ∧ R (.bool (tupB d a b)) n
def c_is_number : DSpec := fun as n R => ∃ d : PyData, as = [.dat d] ∧ isRefD d = false ∧ R (.bool (numB d)) n
def c_is_number_from : DSpec := fun as n R => ∃ d : PyData, ∃ a b : Int, as = [.dat d, .dat (.int a), .dat (.int b)] ∧ isRefD d = false ∧ R (.bool (numIn d a b)) n
def c_is_size : DSpec := fun as n R => ∃ d : PyData, as = [.dat d] ∧ isRefD d = false ∧ R (.bool (szD d)) n
def c__is_tuple_of_sizes : DSpec := fun as n R => ∃ d : PyData, as = [.dat d] ∧ NrA d ∧ R (.bool (shB d)) n
def c_Shelf___init__ (C : CA) : DSpecX := fun as n R E => ∃ (a : Addr) (d : PyData), as = [.dat (refD a), .dat d] ∧ NrA d ∧ n.ob a = some ⟨C.Shelf, []⟩ ∧ (shB d = false → E ⟨C.BadShelf, [("value", d)]⟩ n) ∧ (∀ S : List Int, d = .tuple (S.map .int) → In1 (10 ^ 6) S → S.length ≤ 100 → R .none (n.put a ⟨C.Shelf, shC (srt S)⟩))
theorem len_Shelf___init__ {C : CA} (as : List Dv) (n : Wo) (R : PyData → Wo → Prop) (E : Ex → Wo → Prop) (h : c_Shelf___init__ C as n R E) : as.length = 2 := by
  obtain ⟨a, d, rfl, _⟩ := h
  rfl
def c__fitting : DSpec := fun as n R => ∃ feet pairs left : List Int, ∃ g : Int, as = [.dat (hallD feet pairs), .dat (.int g), .vw (left.map .int)] ∧ 0 ≤ g ∧ g < feet.length ∧ InR pairs.length left ∧ left.length ≤ 100 ∧
  R (.list ((left.filter fun j => decide (getI feet g ≤ getI pairs j)).map .int)) n
def c_run_by_liking : DSpec := fun as n R => ∃ feet pairs order liking : List Int, as = [.dat (hallD feet pairs), .dat (.tuple (order.map .int)), .dat (.list (liking.map .int))] ∧ InR feet.length order ∧ InR pairs.length liking ∧ order.length ≤ 100 ∧ liking.length ≤ 100 ∧
  R (.tuple ((order.foldl (stepF feet pairs) (liking, [])).2.map prD)) n
def c_small_run : DSpec := fun as n R => ∃ feet pairs order : List Int, as = [.dat (hallD feet pairs), .dat (.tuple (order.map .int))] ∧ HallOk feet pairs ∧ InR feet.length order ∧ order.length ≤ 100 ∧ R (.tuple ((ruled (getI pairs) feet pairs order).map prD)) n
def c_Porter___init__ (C : CA) : DSpecX := fun as n R E => ∃ (a b : Addr) (S : List Int), as = [.dat (refD a), .dat (refD b)] ∧ n.ob a = some ⟨C.Porter, []⟩ ∧ n.ob b = some ⟨C.Shelf, shC S⟩ ∧ R .none (n.put a ⟨C.Porter, poF b 0⟩)
theorem len_Porter___init__ {C : CA} (as : List Dv) (n : Wo) (R : PyData → Wo → Prop) (E : Ex → Wo → Prop) (h : c_Porter___init__ C as n R E) : as.length = 2 := by
  obtain ⟨a, b, S, rfl, _⟩ := h
  rfl
def c__first_missing : DSpec := fun as n R => ∃ S T : List Int, as = [.dat (clnD S), .dat (clnD T)] ∧ R (missD S T) n
def c_Shelf___sub__ (C : CA) : DSpecX := fun as n R E => ∃ (a b : Addr) (S T : List Int), as = [.dat (refD a), .dat (refD b)] ∧ n.ob a = some ⟨C.Shelf, shC S⟩ ∧ n.ob b = some ⟨C.Shelf, shC T⟩ ∧ In1 (10 ^ 6) S ∧ S.length ≤ 100 ∧ (∀ z, missZ S T = some z → E ⟨C.Missing, [("size", .int z)]⟩ n) ∧ (missZ S T = none → ∀ x, n.ob x = none → R (refD x) (n.put x ⟨C.Shelf, shC (srt (remL S T))⟩))
def c_Porter___call__ (C : CA) : DSpecX := fun as n R E => ∃ (a b : Addr) (S : List Int) (k z : Int), as = [.dat (refD a), .dat (.int z)] ∧ n.ob a = some ⟨C.Porter, poF b k⟩ ∧ n.ob b = some ⟨C.Shelf, shC S⟩ ∧ In1 (10 ^ 6) S ∧ S.length ≤ 100 ∧ 1 ≤ z ∧ z ≤ 1000000 ∧ 0 ≤ k ∧ k ≤ 1000 ∧ (S.filter (fun y => decide (z ≤ y)) = [] → R .none n) ∧ (∀ y ys, S.filter (fun y => decide (z ≤ y)) = y :: ys → ∀ t x, n.ob t = none → (n.put t ⟨C.Shelf, shC [y]⟩).ob x = none → R (.int y) (((n.put t ⟨C.Shelf, shC [y]⟩).put x ⟨C.Shelf, shC (srt (S.erase y))⟩).put a ⟨C.Porter, poF x (k + 1)⟩))
def c_Shelf___eq__ (C : CA) : DSpecX := fun as n R E => ∃ (a b : Addr) (S T : List Int), as = [.dat (refD a), .dat (refD b)] ∧ n.ob a = some ⟨C.Shelf, shC S⟩ ∧ n.ob b = some ⟨C.Shelf, shC T⟩ ∧ R (.bool (decide (S = T))) n
def c_Shelf___contains__ (C : CA) : DSpecX := fun as n R E => ∃ (a b : Addr) (S T : List Int), as = [.dat (refD a), .dat (refD b)] ∧ n.ob a = some ⟨C.Shelf, shC S⟩ ∧ n.ob b = some ⟨C.Shelf, shC T⟩ ∧ R (.bool (missZ S T).isNone) n
def c_most_served : DSpec := fun as n R => ∃ feet pairs : List Int, as = [.dat (hallD feet pairs)] ∧ HallOk feet pairs ∧ ∀ m : Int, IsMost feet pairs m → R (.int m) n
def c_served_by : DSpec := fun as n R => ∃ feet pairs : List Int, ∃ run : List (Int × Int), as = [.dat (hallD feet pairs), .dat (.tuple (run.map prD))] ∧ RunOk feet.length pairs.length run ∧ feet.length ≤ 40 ∧ R (.tuple ((shodL feet.length run).map .int)) n
def c_Shelf___add__ (C : CA) : DSpecX := fun as n R E => ∃ (a b : Addr) (S T : List Int), as = [.dat (refD a), .dat (refD b)] ∧ n.ob a = some ⟨C.Shelf, shC S⟩ ∧ n.ob b = some ⟨C.Shelf, shC T⟩ ∧ In1 (10 ^ 6) S ∧ In1 (10 ^ 6) T ∧ S.length ≤ 100 ∧ T.length ≤ 100 ∧ (100 < S.length + T.length → E ⟨C.TooManyPairs, []⟩ n) ∧ (S.length + T.length ≤ 100 → ∀ x, n.ob x = none → R (refD x) (n.put x ⟨C.Shelf, shC (srt (S ++ T))⟩))
def c_left_by : DSpec := fun as n R => ∃ feet pairs : List Int, ∃ run : List (Int × Int), as = [.dat (hallD feet pairs), .dat (.tuple (run.map prD))] ∧ run.length ≤ 100 ∧ pairs.length ≤ 40 ∧ R (.tuple ((leftL pairs.length run).map .int)) n
def c__law_order_right (C : CA) : DSpec := fun as n R => ∃ (h : Hl) (order : List Int), as = [.dat (halD h), .dat (.tuple (order.map .int))] ∧ HlOk h ∧ order.Perm (intsN h.1.length) ∧ ∀ n', n'.n = n.n → R (.bool true) n'
def c_large_run : DSpec := fun as n R => ∃ feet pairs order : List Int, as = [.dat (hallD feet pairs), .dat (.tuple (order.map .int))] ∧ HallOk feet pairs ∧ InR feet.length order ∧ order.length ≤ 100 ∧ R (.tuple ((ruled (fun j => -getI pairs j) feet pairs order).map prD)) n
abbrev s__law_hall : Stmt := topS 36
abbrev N__law_hall : List Str := ["deck", "guests", "pairs", "wide", "feet", "guest", "pair"]
theorem sc__law_hall : FnScope N__law_hall ["deck", "guests", "pairs"] (defScope s__law_hall) := ⟨rfl, rfl, rfl, by decide +kernel, rfl, by decide +kernel, by decide +kernel⟩
theorem fn__law_hall {f : Addr} {fd : FuncData} (F : Fun K "_law_hall" "_law_hall" s__law_hall f fd) (B : Bn K mg C) (H__law_draw : Has P w K mg base "_law_draw" 1 ["deck", "bound"] c__law_draw) : FnG P w K mg base 2 f fd ["deck", "guests", "pairs"] (spD K 3 c__law_hall) := by
  refine fnd (k := 1) c__law_hall F sc__law_hall fun cdv A outer s H hgd0 hr Y => ?_
  have hu := hr.units
  have hu1 : (A.deeper (envOfC "_law_hall" (defScope s__law_hall) s.heap.objs.size f cdv)).units + 65 < cLine := by have := hr.un; omega
  have hu0 : (A.deeper (envOfC "_law_hall" (defScope s__law_hall) s.heap.objs.size f cdv)).units + 1 < cLine := by have := hr.un; omega
  have hgd : (A.deeper (envOfC "_law_hall" (defScope s__law_hall) s.heap.objs.size f cdv)).guards = some [] := hgd0
  refine ⟨_, (dss_cons (ds_set (i := 3) sc__law_hall.nd rfl (Or.inr rfl) (xe_d (we_ix (we_ofM (me_lst (wa_cons we_int (wa_cons we_int (wa_cons (we_bin op_pow bi_I we_int we_int) wa_nil))))) (we_has H__law_draw hgd (hr.mono (by decide)) (by rfl) (wa_cons (we_var 0) (wa_cons we_int wa_nil))) (fun _ _ => rfl)))) (dss_cons (ds_set (i := 4) sc__law_hall.nd rfl (Or.inl rfl) (xe_d (we_callTy call_tuple_of ck_tuple (by rfl) B.tuple PyProof.Rows.boot_tuple (wa_cons (we_ofM (me_compV (own := [("guest", 5)]) rfl sc__law_hall.nd (div_of (di_range1 (by rfl) B.range (wa_cons (we_bin or_addA bi_add we_int (we_has H__law_draw hgd (hr.mono (by decide)) (by rfl) (wa_cons (we_var 0) (wa_cons (we_var 1) wa_nil)))) wa_nil))) (blkOk_by (N := N__law_hall) (sc := defScope s__law_hall) (by decide +kernel)) gok_name (fun _ _ _ _ _ => (pg_name (i := 5) sc__law_hall.nd rfl (Or.inl rfl))) (fun _ _ _ _ _ => wts_nil) (fun _ _ _ _ _ => (we_bin or_addA bi_add we_int (we_has H__law_draw hgd (hr.mono (by decide)) (by rfl) (wa_cons (we_var 0) (wa_cons (we_var 3) wa_nil))))) (by decide))) wa_nil)))) (dss_one (ds_ret (we_tup (wa_cons (we_var 4) (wa_cons (we_callTy call_tuple_of ck_tuple (by rfl) B.tuple PyProof.Rows.boot_tuple (wa_cons (we_ofM (me_compV (own := [("pair", 6)]) rfl sc__law_hall.nd (div_of (di_range1 (by rfl) B.range (wa_cons (we_has H__law_draw hgd (hr.mono (by decide)) (by rfl) (wa_cons (we_var 0) (wa_cons (we_bin or_addA bi_add (we_var 2) we_int) wa_nil))) wa_nil))) (blkOk_by (N := N__law_hall) (sc := defScope s__law_hall) (by decide +kernel)) gok_name (fun _ _ _ _ _ => (pg_name (i := 6) sc__law_hall.nd rfl (Or.inl rfl))) (fun _ _ _ _ _ => wts_nil) (fun _ _ _ _ _ => (we_bin or_addA bi_add we_int (we_has H__law_draw hgd (hr.mono (by decide)) (by rfl) (wa_cons (we_var 0) (wa_cons (we_var 3) wa_nil))))) (by decide))) wa_nil)) wa_nil))))))), fun as n R hl hc => ?_⟩
  obtain ⟨g, p, rfl, g1, g2, p0, p1, hn, hR⟩ := hc
  refine ⟨⟨by decide, by decide, by decide⟩, by show 3 ≤ sizeLine; decide, _, rfl, rfl, 3, rfl, by decide, by decide, by omega, fun r r0 r1 => ?_⟩
  obtain ⟨w, hw, hw2⟩ := pick3 (a := .int 3) (b := .int 8) (c := .int (10 ^ (6 : Int).toNat)) (r := r) r0 r1
  obtain ⟨wd, rfl, w0, w1⟩ : ∃ wd : Int, w = .int wd ∧ 1 ≤ wd ∧ wd ≤ 1000000 := by
    rcases hw2 with rfl | rfl | rfl
    · exact ⟨_, rfl, by decide, by decide⟩
    · exact ⟨_, rfl, by decide, by decide⟩
    · exact ⟨_, rfl, by decide, by decide⟩
  refine ⟨r, _, rfl, hw, ?_⟩
  refine ⟨_, rfl, _, rfl, rfl, g, rfl, by omega, by omega, by show n.n + 1 ≤ _; omega, fun q q0 q1 => ?_⟩
  refine ⟨1 + q, rfl, by omega, by omega, ?_⟩
  have hrl : (rngD 0 (1 + q).toNat).length = (1 + q).toNat := by rw [rngD_length]
  refine compR_dr (m := (1 + q).toNat) _ (fun d => ∃ z : Int, d = .int z ∧ 1 ≤ z ∧ z ≤ 10 ^ 6) 1 hrl (small1000 (by omega)) (fun k x hx hk acc K ha hK => ?_) fun ys hy hyi => ?_
  · refine ⟨_, rfl, _, rfl, rfl, wd, rfl, w0, by omega, by show n.n + 1 + 1 + k * 1 ≤ _; omega, fun u u0 u1 => ⟨small1000 (by omega), ?_⟩⟩
    have := hK (.int (1 + u)) ⟨_, rfl, by omega, by omega⟩
    rw [Nat.mul_one] at this ⊢
    exact this
  · obtain ⟨F, rfl, hF⟩ := ints_of hyi
    rw [List.length_map] at hy
    refine ⟨_, _, rfl, rfl, _, rfl, ?_⟩
    refine ⟨_, rfl, _, rfl, rfl, p + 1, rfl, by omega, by omega, by show n.n + 1 + 1 + (1 + q).toNat * 1 ≤ _; omega, fun q2 q20 q21 => ?_⟩
    refine ⟨q2, rfl, by omega, by omega, ?_⟩
    have hrl2 : (rngD 0 q2.toNat).length = q2.toNat := by rw [rngD_length]
    refine compR_dr (m := q2.toNat) _ (fun d => ∃ z : Int, d = .int z ∧ 1 ≤ z ∧ z ≤ 10 ^ 6) 1 hrl2 (small1000 (by omega)) (fun k x hx hk acc K ha hK => ?_) fun ys hy2 hyi2 => ?_
    · refine ⟨_, rfl, _, rfl, rfl, wd, rfl, w0, by omega, by show n.n + 1 + 1 + (1 + q).toNat * 1 + 1 + k * 1 ≤ _; omega, fun u u0 u1 => ⟨small1000 (by omega), ?_⟩⟩
      have := hK (.int (1 + u)) ⟨_, rfl, by omega, by omega⟩
      rw [Nat.mul_one] at this ⊢
      exact this
    · obtain ⟨P, rfl, hP⟩ := ints_of hyi2
      rw [List.length_map] at hy2
      refine ⟨_, _, rfl, rfl, by show 2 ≤ sizeLine; decide, ?_⟩
      exact hR (F, P) _ ⟨⟨by show 1 ≤ F.length; omega, by show F.length ≤ 40; omega, by show P.length ≤ 40; omega, hF, hP⟩, by show F.length ≤ 20; omega, by show P.length ≤ 20; omega⟩ ⟨by show n.n + 1 + 1 + (1 + q).toNat * 1 + 1 + q2.toNat * 1 ≤ n.n + 100; omega, rfl, rfl⟩
abbrev s__law_mixed : Stmt := topS 37
abbrev N__law_mixed : List Str := ["deck", "items", "left", "found", "k"]
theorem sc__law_mixed : FnScope N__law_mixed ["deck", "items"] (defScope s__law_mixed) := ⟨rfl, rfl, rfl, by decide +kernel, rfl, by decide +kernel, by decide +kernel⟩
theorem fn__law_mixed {f : Addr} {fd : FuncData} (F : Fun K "_law_mixed" "_law_mixed" s__law_mixed f fd) (B : Bn K mg C) (H__law_draw : Has P w K mg base "_law_draw" 1 ["deck", "bound"] c__law_draw) : FnG P w K mg base 2 f fd ["deck", "items"] (spD K 2 c__law_mixed) := by
  refine fnd (k := 1) c__law_mixed F sc__law_mixed fun cdv A outer s H hgd0 hr Y => ?_
  have hu := hr.units
  have hu1 : (A.deeper (envOfC "_law_mixed" (defScope s__law_mixed) s.heap.objs.size f cdv)).units + 65 < cLine := by have := hr.un; omega
  have hu0 : (A.deeper (envOfC "_law_mixed" (defScope s__law_mixed) s.heap.objs.size f cdv)).units + 1 < cLine := by have := hr.un; omega
  have hgd : (A.deeper (envOfC "_law_mixed" (defScope s__law_mixed) s.heap.objs.size f cdv)).guards = some [] := hgd0
  refine ⟨_, (dss_cons (ds_par (i := 2) (j := 3) rfl sc__law_mixed.nd rfl rfl (by decide) rfl rfl (xe_m (me_callTy call_list_of ck_list (by rfl) B.list PyProof.Rows.boot_list (wa_cons (we_var 1) wa_nil))) (xe_m (me_lst wa_nil)) (by rfl)) (dss_cons (ds_for PassesOwn.never rfl (di_range1 (by rfl) B.range (wa_cons (we_callB call_len_seq ck_len (by rfl) B.len PySem.boot_len (wa_cons (we_var 1) wa_nil)) wa_nil)) ⟨(pg_name (i := 4) sc__law_mixed.nd rfl (Or.inl rfl)), gok_name⟩ (dss_one (ds_appPop (i := 3) (j := 2) (by decide) (pv 3) (pv 2) (we_has H__law_draw hgd (hr.mono (by decide)) (by rfl) (wa_cons (we_var 0) (wa_cons (we_callB call_len_seq ck_len (by rfl) B.len PySem.boot_len (wa_cons (we_var 2) wa_nil)) wa_nil)))))) (dss_one (ds_ret (we_callTy call_tuple_of ck_tuple (by rfl) B.tuple PyProof.Rows.boot_tuple (wa_cons (we_var 3) wa_nil)))))), fun as n R hl hc => ?_⟩
  obtain ⟨S, rfl, hl, hn, hR⟩ := hc
  have el : (S.map PyData.int).length = S.length := List.length_map ..
  refine ⟨_, rfl, _, _, rfl, rfl, Nat.zero_le _, ?_⟩
  refine ⟨_, rfl, _, _, rfl, rfl, (S.length : Nat), by rw [el], by omega, by omega, ?_⟩
  refine forR_inv (fun k ρ n' => n' = n + k ∧ ∃ L G : List Int, G.length = k ∧ (L ++ G).Perm S ∧ ∃ b4, ρ = [some (.deck false), some (.dat (.list (S.map .int))), some (.mt (L.map .int)), some (.mt (G.map .int)), b4]) ⟨rfl, S, [], rfl, by rw [List.append_nil], _, rfl⟩ ?_ ?_
  · rintro k y ρ n' hy ⟨rfl, L, G, hG, hp, b4, rfl⟩
    have hk : k < S.length := by have := (List.getElem?_eq_some_iff.mp hy).1; rw [rngD_length] at this; omega
    have hLl : L.length + k = S.length := by rw [← hG, ← List.length_append]; exact hp.length_eq
    have elL : (L.map PyData.int).length = L.length := List.length_map ..
    have hkn : k < S.length := hk
    refine ⟨_, _, rfl, rfl, _, rfl, _, rfl, _, _, rfl, rfl, rfl, (L.length : Nat), by rw [elL], by omega, by omega, by show n.n + k ≤ _; omega, fun r ra rb => ?_⟩
    have hr : r.toNat < L.length := by omega
    refine ⟨r, r.toNat, .int (L[r.toNat]), rfl, ⟨by omega, by omega⟩, seqIx ra (by rw [elL]; exact rb), by rw [List.getElem?_map, List.getElem?_eq_getElem hr]; rfl, line1000 (by rw [List.length_map]; omega), rfl, L.eraseIdx r.toNat, G ++ [L[r.toNat]], by rw [List.length_append, hG]; rfl, ?_, some (.dat y), ?_⟩
    · refine List.Perm.trans ?_ hp
      refine (List.perm_append_comm).trans ?_
      rw [List.append_assoc]
      refine (List.Perm.append_left G (cons_erase hr)).trans List.perm_append_comm
    · rw [eraseIdx_map', List.map_append]
      rfl
  · rintro ρ n' ⟨rfl, L, G, hG, hp, b4, rfl⟩
    rw [rngD_length] at hG
    have hG : G.length = S.length := by omega
    have hL : L = [] := List.eq_nil_of_length_eq_zero (by have := hp.length_eq; rw [List.length_append] at this; omega)
    subst hL
    refine ⟨_, rfl, _, _, rfl, rfl, hR G _ hp ⟨by show n.n + (rngD 0 ((S.length : Nat) : Int).toNat).length ≤ n.n + 100; rw [rngD_length]; omega, rfl, rfl⟩⟩
abbrev s_counts_at : Stmt := topS 14
abbrev N_counts_at : List Str := ["hall", "size", "feet", "pairs", "smaller", "larger", "foot", "pair"]
theorem sc_counts_at : FnScope N_counts_at ["hall", "size"] (defScope s_counts_at) := ⟨rfl, rfl, rfl, by decide +kernel, rfl, by decide +kernel, by decide +kernel⟩
theorem fn_counts_at {f : Addr} {fd : FuncData} (F : Fun K "counts_at" "counts_at" s_counts_at f fd) (B : Bn K mg C) : FnG P w K mg base 1 f fd ["hall", "size"] (spD K 2 c_counts_at) := by
  refine fnd (k := 0) c_counts_at F sc_counts_at fun cdv A outer s H hgd0 hr Y => ?_
  have hu := hr.units
  have hu1 : (A.deeper (envOfC "counts_at" (defScope s_counts_at) s.heap.objs.size f cdv)).units + 65 < cLine := by have := hr.un; omega
  have hu0 : (A.deeper (envOfC "counts_at" (defScope s_counts_at) s.heap.objs.size f cdv)).units + 1 < cLine := by have := hr.un; omega
  have hgd : (A.deeper (envOfC "counts_at" (defScope s_counts_at) s.heap.objs.size f cdv)).guards = some [] := hgd0
  refine ⟨_, (dss_cons (ds_asgG (we_var 0) ⟨(pg_tup rfl (pgs_cons (pg_name (i := 2) sc_counts_at.nd rfl (Or.inl rfl)) (pgs_cons (pg_name (i := 3) sc_counts_at.nd rfl (Or.inl rfl)) pgs_nil))), gok_two⟩) (dss_cons (ds_setLcV (i := 4) (u := xD (dOfM _)) (hyl := rfl) (hy := rfl) (hsw := sw_true rfl rfl rfl (by decide +kernel)) (hu := lc_dat) (own := [("foot", 6)]) (hc := rfl) (hN := sc_counts_at.nd) (hi := (di_seqV (we_var 2))) (ok := (blkOk_by (N := N_counts_at) (sc := defScope s_counts_at) (by decide +kernel))) (hk := gok_name) (hg := fun _ _ _ _ _ => (pg_name (i := 6) sc_counts_at.nd rfl (Or.inl rfl))) (ht := fun _ _ _ _ _ => (wts_one (wt_cmp op_lt bi_B0 (we_var 6) (we_var 1) (nomark _)))) (he := fun _ _ _ _ _ => (we_var 6)) (hv := by decide)) (dss_cons (ds_setLcV (i := 5) (u := xD (dOfM _)) (hyl := rfl) (hy := rfl) (hsw := sw_true rfl rfl rfl (by decide +kernel)) (hu := lc_dat) (own := [("pair", 7)]) (hc := rfl) (hN := sc_counts_at.nd) (hi := (di_seqV (we_var 3))) (ok := (blkOk_by (N := N_counts_at) (sc := defScope s_counts_at) (by decide +kernel))) (hk := gok_name) (hg := fun _ _ _ _ _ => (pg_name (i := 7) sc_counts_at.nd rfl (Or.inl rfl))) (ht := fun _ _ _ _ _ => (wts_one (wt_cmp op_ge bi_B0 (we_var 7) (we_var 1) (nomark _)))) (he := fun _ _ _ _ _ => (we_var 7)) (hv := by decide)) (dss_one (ds_ret (we_tup (wa_cons (we_callB call_len_seq ck_len (by rfl) B.len PySem.boot_len (wa_cons (we_var 4) wa_nil)) (wa_cons (we_callB call_len_seq ck_len (by rfl) B.len PySem.boot_len (wa_cons (we_var 5) wa_nil)) wa_nil)))))))), fun as n R hl hc => ?_⟩
  obtain ⟨feet, pairs, z, rfl, hf, hp, hR⟩ := hc
  refine ⟨_, rfl, _, _, rfl, _, rfl, _, rfl, compR_p feet .int (fun x => decide (x < z)) .int (small1000 (by omega)) (fun x hx acc KK hK => ⟨_, rfl, _, rfl, _, rfl, ite_imp (fun h => ⟨_, rfl, h⟩) id hK⟩) ?_⟩
  refine ⟨_, rfl, _, rfl, compR_p pairs .int (fun x => decide (z ≤ x)) .int (small1000 (by omega)) (fun x hx acc KK hK => ⟨_, rfl, _, rfl, _, rfl, ite_imp (fun h => ⟨_, rfl, h⟩) id hK⟩) ?_⟩
  refine ⟨_, rfl, _, _, rfl, rfl, _, rfl, _, _, rfl, rfl, by show 2 ≤ sizeLine; decide, ?_⟩
  simp only [List.length_map]
  exact hR
abbrev s__foot_sizes : Stmt := topS 29
abbrev N__foot_sizes : List Str := ["hall"]
theorem sc__foot_sizes : FnScope N__foot_sizes ["hall"] (defScope s__foot_sizes) := ⟨rfl, rfl, rfl, by decide +kernel, rfl, by decide +kernel, by decide +kernel⟩
theorem fn__foot_sizes {f : Addr} {fd : FuncData} (F : Fun K "_foot_sizes" "_foot_sizes" s__foot_sizes f fd) (B : Bn K mg C) : FnG P w K mg base 1 f fd ["hall"] (spD K 1 c__foot_sizes) := by
  refine fnd (k := 0) c__foot_sizes F sc__foot_sizes fun cdv A outer s H hgd0 hr Y => ?_
  have hu := hr.units
  have hu1 : (A.deeper (envOfC "_foot_sizes" (defScope s__foot_sizes) s.heap.objs.size f cdv)).units + 65 < cLine := by have := hr.un; omega
  have hu0 : (A.deeper (envOfC "_foot_sizes" (defScope s__foot_sizes) s.heap.objs.size f cdv)).units + 1 < cLine := by have := hr.un; omega
  have hgd : (A.deeper (envOfC "_foot_sizes" (defScope s__foot_sizes) s.heap.objs.size f cdv)).guards = some [] := hgd0
  refine ⟨_, (dss_one (ds_ret (we_ofM (me_sortedSet rfl (by rfl) B.sorted (by rfl) B.set (we_ix (we_var 0) we_int (fun _ _ => rfl)))))), fun as n R hl hc => ?_⟩
  obtain ⟨feet, pairs, rfl, hf, hR⟩ := hc
  exact ⟨_, rfl, 0, _, rfl, rfl, feet, rfl, by omega, fun ms hp hm => hR ms (sd_uniq hp hm) hm (Nat.le_trans (nodup_len (hp.imp fun h => Int.ne_of_lt h) fun x hx => (hm x).mp hx) hf)⟩
abbrev s__deciding_sizes : Stmt := topS 30
abbrev N__deciding_sizes : List Str := ["hall"]
theorem sc__deciding_sizes : FnScope N__deciding_sizes ["hall"] (defScope s__deciding_sizes) := ⟨rfl, rfl, rfl, by decide +kernel, rfl, by decide +kernel, by decide +kernel⟩
theorem fn__deciding_sizes {f : Addr} {fd : FuncData} (F : Fun K "_deciding_sizes" "_deciding_sizes" s__deciding_sizes f fd) (B : Bn K mg C) (H__foot_sizes : Has P w K mg base "_foot_sizes" 1 ["hall"] c__foot_sizes) : FnG P w K mg base 2 f fd ["hall"] (spD K 1 c__deciding_sizes) := by
  refine fnd (k := 1) c__deciding_sizes F sc__deciding_sizes fun cdv A outer s H hgd0 hr Y => ?_
  have hu := hr.units
  have hu1 : (A.deeper (envOfC "_deciding_sizes" (defScope s__deciding_sizes) s.heap.objs.size f cdv)).units + 65 < cLine := by have := hr.un; omega
  have hu0 : (A.deeper (envOfC "_deciding_sizes" (defScope s__deciding_sizes) s.heap.objs.size f cdv)).units + 1 < cLine := by have := hr.un; omega
  have hgd : (A.deeper (envOfC "_deciding_sizes" (defScope s__deciding_sizes) s.heap.objs.size f cdv)).guards = some [] := hgd0
  refine ⟨_, (dss_one (ds_ret (we_bin or_addA bi_add (we_has H__foot_sizes hgd (hr.mono (by decide)) (by rfl) (wa_cons (we_var 0) wa_nil)) (we_ofM (me_lst (wa_cons (we_bin or_addA bi_add (we_gint (by rfl) B.MAX_SIZE.choose_spec) we_int) wa_nil)))))), fun as n R hl hc => ?_⟩
  obtain ⟨feet, pairs, rfl, hf, hR⟩ := hc
  refine ⟨_, rfl, rfl, feet, pairs, rfl, hf, fun ms he hm hml => ⟨by show 1 ≤ sizeLine; decide, line1000 (by rw [List.length_map]; show ms.length + 1 ≤ 1000; omega), ?_⟩⟩
  have h := hR (ms ++ [1000000 + 1]) (by rw [he]; rfl) (fun k => by
    rw [List.mem_append, hm k, List.mem_singleton]
    exact Iff.rfl) (by rw [List.length_append]; exact Nat.succ_le_succ hml)
  rw [List.map_append] at h
  exact h
abbrev s_fewest_served : Stmt := topS 32
abbrev N_fewest_served : List Str := ["hall", "size"]
theorem sc_fewest_served : FnScope N_fewest_served ["hall"] (defScope s_fewest_served) := ⟨rfl, rfl, rfl, by decide +kernel, rfl, by decide +kernel, by decide +kernel⟩
theorem fn_fewest_served {f : Addr} {fd : FuncData} (F : Fun K "fewest_served" "fewest_served" s_fewest_served f fd) (B : Bn K mg C) (H_counts_at : Has P w K mg base "counts_at" 1 ["hall", "size"] c_counts_at) (H__deciding_sizes : Has P w K mg base "_deciding_sizes" 2 ["hall"] c__deciding_sizes) : FnG P w K mg base 3 f fd ["hall"] (spD K 1 c_fewest_served) := by
  refine fnd (k := 2) c_fewest_served F sc_fewest_served fun cdv A outer s H hgd0 hr Y => ?_
  have hu := hr.units
  have hu1 : (A.deeper (envOfC "fewest_served" (defScope s_fewest_served) s.heap.objs.size f cdv)).units + 65 < cLine := by have := hr.un; omega
  have hu0 : (A.deeper (envOfC "fewest_served" (defScope s_fewest_served) s.heap.objs.size f cdv)).units + 1 < cLine := by have := hr.un; omega
  have hgd : (A.deeper (envOfC "fewest_served" (defScope s_fewest_served) s.heap.objs.size f cdv)).guards = some [] := hgd0
  refine ⟨_, (dss_one (ds_ret (we_callB (call_minA rfl) ck_min (by rfl) B.min PyProof.Rows.boot_min (wa_cons (we_ofM (me_compV (own := [("size", 1)]) rfl sc_fewest_served.nd (di_seqV (we_has H__deciding_sizes hgd (hr.mono (by decide)) (by rfl) (wa_cons (we_var 0) wa_nil))) (blkOk_by (N := N_fewest_served) (sc := defScope s_fewest_served) (by decide +kernel)) gok_name (fun _ _ _ _ _ => (pg_name (i := 1) sc_fewest_served.nd rfl (Or.inl rfl))) (fun _ _ _ _ _ => wts_nil) (fun _ _ _ _ _ => (we_callB (call_maxA rfl) ck_max (by rfl) B.max PyProof.Rows.boot_max (wa_cons (we_has H_counts_at hgd (hr.mono (by decide)) (by rfl) (wa_cons (we_var 0) (wa_cons (we_var 1) wa_nil))) wa_nil))) (by decide))) wa_nil)))), fun as n R hl hc => ?_⟩
  obtain ⟨feet, pairs, rfl, hh, hR⟩ := hc
  have hf40 := hh.f2
  have hp40 := hh.p2
  refine ⟨_, rfl, rfl, feet, pairs, rfl, hf40, fun ms hme hm hml => ⟨_, rfl, compR_m ms .int (fun s => .int (((max (cF feet s) (cP pairs s) : Nat) : Int))) (small1000 (by omega)) (fun x hx acc KK ha hK => ⟨_, rfl, _, rfl, rfl, feet, pairs, x, rfl, by omega, by omega, [(cF feet x : Int), (cP pairs x : Int)], rfl, (by show 0 < 2; decide), fun m q1 q2 => ?_⟩) ?_⟩⟩
  · have e : m = ((max (cF feet x) (cP pairs x) : Nat) : Int) := by
      have a1 := q2 (cF feet x : Int) (by simp)
      have a2 := q2 (cP pairs x : Int) (by simp)
      simp only [List.mem_cons, List.not_mem_nil, or_false] at q1
      rcases q1 with rfl | rfl <;> omega
    subst e
    exact ⟨ha, hK⟩
  refine ⟨ms.map fun s => ((max (cF feet s) (cP pairs s) : Nat) : Int), by rw [List.map_map]; rfl, ?_, fun m hm2 hle => hR m ?_⟩
  · rw [List.length_map]
    exact List.length_pos_of_mem ((hm 1000001).mpr (.inr rfl))
  obtain ⟨s, hs, rfl⟩ := List.mem_map.mp hm2
  obtain ⟨s0, h0, h1⟩ := few_at (feet := feet) (pairs := pairs) (top := 1000001) fun x hx => by have := hh.pi x hx; omega
  refine ⟨⟨s, rfl⟩, fun s' => ?_⟩
  exact Int.le_trans (hle _ (List.mem_map_of_mem ((hm s0).mpr h0))) (h1 s')
abbrev s_is_tuple : Stmt := topS 13
abbrev N_is_tuple : List Str := ["value", "least", "most"]
theorem sc_is_tuple : FnScope N_is_tuple ["value", "least", "most"] (defScope s_is_tuple) := ⟨rfl, rfl, rfl, by decide +kernel, rfl, by decide +kernel, by decide +kernel⟩
theorem fn_is_tuple {f : Addr} {fd : FuncData} (F : Fun K "is_tuple" "is_tuple" s_is_tuple f fd) (B : Bn K mg C) : FnG P w K mg base 1 f fd ["value", "least", "most"] (spD K 3 c_is_tuple) := by
  refine fnd (k := 0) c_is_tuple F sc_is_tuple fun cdv A outer s H hgd0 hr Y => ?_
  have hu := hr.units
  have hu1 : (A.deeper (envOfC "is_tuple" (defScope s_is_tuple) s.heap.objs.size f cdv)).units + 65 < cLine := by have := hr.un; omega
  have hu0 : (A.deeper (envOfC "is_tuple" (defScope s_is_tuple) s.heap.objs.size f cdv)).units + 1 < cLine := by have := hr.un; omega
  have hgd : (A.deeper (envOfC "is_tuple" (defScope s_is_tuple) s.heap.objs.size f cdv)).guards = some [] := hgd0
  refine ⟨_, (dss_one (ds_ret (we_and (we_isi (.inr (.inr (.inr (.inl rfl)))) (by rfl) B.isinstance (we_var 0) (by rfl) B.tuple PyProof.Rows.boot_tuple) (we_one (we_chain op_le op_le bi_B0 bi_B0 (we_var 1) (we_callB call_len_seq ck_len (by rfl) B.len PySem.boot_len (wa_cons (we_var 0) wa_nil)) (we_var 2)))))), fun as n R hl hc => ?_⟩
  obtain ⟨d, a, b, rfl, hnr, hR⟩ := hc
  cases d with
  | tuple ds =>
    refine ⟨_, rfl, rfl, asB_T (isi_tt _) (iteT ?_)⟩
    refine ⟨_, rfl, _, rfl, _, _, rfl, rfl, _, rfl, ?_⟩
    have hR : R (.bool (decide (a ≤ ds.length) && decide ((ds.length : Int) ≤ b))) n := hR
    by_cases h : a ≤ (ds.length : Int)
    · rw [decide_eq_true h, Bool.true_and] at hR
      exact iteD h ⟨_, rfl, hR⟩
    · rw [decide_eq_false h, Bool.false_and] at hR
      exact ifF (decide_eq_false h) hR
  | int z => exact ⟨_, rfl, rfl, asB_F (show isiB "int" "tuple" = false by decide +kernel) hR⟩
  | bool z => exact ⟨_, rfl, rfl, asB_F (show isiB "bool" "tuple" = false by decide +kernel) hR⟩
  | none => exact ⟨_, rfl, rfl, asB_F (show isiB "NoneType" "tuple" = false by decide +kernel) hR⟩
  | str s => exact ⟨_, rfl, rfl, asB_F (show isiB "str" "tuple" = false by decide +kernel) hR⟩
  | list ds => exact ⟨_, rfl, rfl, asB_F (show isiB "list" "tuple" = false by decide +kernel) hR⟩
  | dict kvs => exact ⟨_, rfl, isDR_dat hnr, asB_F (show isiB "dict" "tuple" = false by decide +kernel) hR⟩
abbrev s_is_number : Stmt := topS 10
abbrev N_is_number : List Str := ["value"]
theorem sc_is_number : FnScope N_is_number ["value"] (defScope s_is_number) := ⟨rfl, rfl, rfl, by decide +kernel, rfl, by decide +kernel, by decide +kernel⟩
theorem fn_is_number {f : Addr} {fd : FuncData} (F : Fun K "is_number" "is_number" s_is_number f fd) (B : Bn K mg C) : FnG P w K mg base 1 f fd ["value"] (spD K 1 c_is_number) := by
  refine fnd (k := 0) c_is_number F sc_is_number fun cdv A outer s H hgd0 hr Y => ?_
  have hu := hr.units
  have hu1 : (A.deeper (envOfC "is_number" (defScope s_is_number) s.heap.objs.size f cdv)).units + 65 < cLine := by have := hr.un; omega
  have hu0 : (A.deeper (envOfC "is_number" (defScope s_is_number) s.heap.objs.size f cdv)).units + 1 < cLine := by have := hr.un; omega
  have hgd : (A.deeper (envOfC "is_number" (defScope s_is_number) s.heap.objs.size f cdv)).guards = some [] := hgd0
  refine ⟨_, (dss_one (ds_ret (we_and (we_isi (.inl rfl) (by rfl) B.isinstance (we_var 0) (by rfl) B.int PyProof.Rows.boot_int) (we_one (we_not (we_isi (.inr (.inl rfl)) (by rfl) B.isinstance (we_var 0) (by rfl) B.bool PyProof.Rows.boot_bool)))))), fun as n R hl hc => ?_⟩
  obtain ⟨d, rfl, hnr, hR⟩ := hc
  cases d with
  | int z => exact ⟨_, rfl, rfl, asB_T (isi_ii z) (iteT ⟨_, rfl, rfl, asB_F (isi_ib z) hR⟩)⟩
  | bool b => exact ⟨_, rfl, rfl, asB_T (isi_bi b) (iteT ⟨_, rfl, rfl, asB_T (isi_bb b) hR⟩)⟩
  | none => exact ⟨_, rfl, rfl, asB_F (show isiB "NoneType" "int" = false by decide +kernel) hR⟩
  | str s => exact ⟨_, rfl, rfl, asB_F (show isiB "str" "int" = false by decide +kernel) hR⟩
  | list ds => exact ⟨_, rfl, rfl, asB_F (show isiB "list" "int" = false by decide +kernel) hR⟩
  | tuple ds => exact ⟨_, rfl, rfl, asB_F (show isiB "tuple" "int" = false by decide +kernel) hR⟩
  | dict kvs => exact ⟨_, rfl, isDR_dat hnr, asB_F (show isiB "dict" "int" = false by decide +kernel) hR⟩
abbrev s_is_number_from : Stmt := topS 11
abbrev N_is_number_from : List Str := ["value", "low", "high"]
theorem sc_is_number_from : FnScope N_is_number_from ["value", "low", "high"] (defScope s_is_number_from) := ⟨rfl, rfl, rfl, by decide +kernel, rfl, by decide +kernel, by decide +kernel⟩
theorem fn_is_number_from {f : Addr} {fd : FuncData} (F : Fun K "is_number_from" "is_number_from" s_is_number_from f fd) (B : Bn K mg C) (H_is_number : Has P w K mg base "is_number" 1 ["value"] c_is_number) : FnG P w K mg base 2 f fd ["value", "low", "high"] (spD K 3 c_is_number_from) := by
  refine fnd (k := 1) c_is_number_from F sc_is_number_from fun cdv A outer s H hgd0 hr Y => ?_
  have hu := hr.units
  have hu1 : (A.deeper (envOfC "is_number_from" (defScope s_is_number_from) s.heap.objs.size f cdv)).units + 65 < cLine := by have := hr.un; omega
  have hu0 : (A.deeper (envOfC "is_number_from" (defScope s_is_number_from) s.heap.objs.size f cdv)).units + 1 < cLine := by have := hr.un; omega
  have hgd : (A.deeper (envOfC "is_number_from" (defScope s_is_number_from) s.heap.objs.size f cdv)).guards = some [] := hgd0
  refine ⟨_, (dss_one (ds_ret (we_and (we_has H_is_number hgd (hr.mono (by decide)) (by rfl) (wa_cons (we_var 0) wa_nil)) (we_one (we_chain op_le op_le bi_B0 bi_B0 (we_var 1) (we_var 0) (we_var 2)))))), fun as n R hl hc => ?_⟩
  obtain ⟨d, a, b, rfl, hnr, hR⟩ := hc
  refine ⟨_, rfl, rfl, d, rfl, hnr, ?_⟩
  cases d with
  | int z =>
    have hR : R (.bool (decide (a ≤ z) && decide (z ≤ b))) n := hR
    refine asB_T (c := true) rfl (iteT ⟨_, rfl, _, rfl, _, rfl, ?_⟩)
    by_cases h : a ≤ z
    · rw [decide_eq_true h, Bool.true_and] at hR
      exact iteD h ⟨_, rfl, hR⟩
    · rw [decide_eq_false h, Bool.false_and] at hR
      exact ifF (decide_eq_false h) hR
  | bool z => exact asB_F (c := false) rfl hR
  | none => exact asB_F (c := false) rfl hR
  | str s => exact asB_F (c := false) rfl hR
  | list ds => exact asB_F (c := false) rfl hR
  | tuple ds => exact asB_F (c := false) rfl hR
  | dict kvs => exact asB_F (c := false) rfl hR
abbrev s_is_size : Stmt := topS 12
abbrev N_is_size : List Str := ["value"]
theorem sc_is_size : FnScope N_is_size ["value"] (defScope s_is_size) := ⟨rfl, rfl, rfl, by decide +kernel, rfl, by decide +kernel, by decide +kernel⟩
theorem fn_is_size {f : Addr} {fd : FuncData} (F : Fun K "is_size" "is_size" s_is_size f fd) (B : Bn K mg C) (H_is_number_from : Has P w K mg base "is_number_from" 2 ["value", "low", "high"] c_is_number_from) : FnG P w K mg base 3 f fd ["value"] (spD K 1 c_is_size) := by
  refine fnd (k := 2) c_is_size F sc_is_size fun cdv A outer s H hgd0 hr Y => ?_
  have hu := hr.units
  have hu1 : (A.deeper (envOfC "is_size" (defScope s_is_size) s.heap.objs.size f cdv)).units + 65 < cLine := by have := hr.un; omega
  have hu0 : (A.deeper (envOfC "is_size" (defScope s_is_size) s.heap.objs.size f cdv)).units + 1 < cLine := by have := hr.un; omega
  have hgd : (A.deeper (envOfC "is_size" (defScope s_is_size) s.heap.objs.size f cdv)).guards = some [] := hgd0
  refine ⟨_, (dss_one (ds_ret (we_has H_is_number_from hgd (hr.mono (by decide)) (by rfl) (wa_cons (we_var 0) (wa_cons we_int (wa_cons (we_gint (by rfl) B.MAX_SIZE.choose_spec) wa_nil)))))), fun as n R hl hc => ?_⟩
  obtain ⟨d, rfl, hnr, hR⟩ := hc
  exact ⟨_, rfl, rfl, d, 1, 1000000, rfl, hnr, hR⟩
abbrev s__is_tuple_of_sizes : Stmt := topS 16
abbrev N__is_tuple_of_sizes : List Str := ["value", "size"]
theorem sc__is_tuple_of_sizes : FnScope N__is_tuple_of_sizes ["value"] (defScope s__is_tuple_of_sizes) := ⟨rfl, rfl, rfl, by decide +kernel, rfl, by decide +kernel, by decide +kernel⟩
theorem fn__is_tuple_of_sizes {f : Addr} {fd : FuncData} (F : Fun K "_is_tuple_of_sizes" "_is_tuple_of_sizes" s__is_tuple_of_sizes f fd) (B : Bn K mg C) (H_is_tuple : Has P w K mg base "is_tuple" 1 ["value", "least", "most"] c_is_tuple) (H_is_size : Has P w K mg base "is_size" 3 ["value"] c_is_size) : FnG P w K mg base 4 f fd ["value"] (spD K 1 c__is_tuple_of_sizes) := by
  refine fnd (k := 3) c__is_tuple_of_sizes F sc__is_tuple_of_sizes fun cdv A outer s H hgd0 hr Y => ?_
  have hu := hr.units
  have hu1 : (A.deeper (envOfC "_is_tuple_of_sizes" (defScope s__is_tuple_of_sizes) s.heap.objs.size f cdv)).units + 65 < cLine := by have := hr.un; omega
  have hu0 : (A.deeper (envOfC "_is_tuple_of_sizes" (defScope s__is_tuple_of_sizes) s.heap.objs.size f cdv)).units + 1 < cLine := by have := hr.un; omega
  have hgd : (A.deeper (envOfC "_is_tuple_of_sizes" (defScope s__is_tuple_of_sizes) s.heap.objs.size f cdv)).guards = some [] := hgd0
  refine ⟨_, (dss_one (ds_ret (we_and (we_has H_is_tuple hgd (hr.mono (by decide)) (by rfl) (wa_cons (we_var 0) (wa_cons we_int (wa_cons (we_gint (by rfl) B.MAX_SHELF.choose_spec) wa_nil)))) (we_one (we_callB (cr_all rfl) ck_all (by rfl) B.all PyProof.Rows.boot_all (wa_cons (we_ofM (me_compV (own := [("size", 1)]) rfl sc__is_tuple_of_sizes.nd (di_seqV (we_var 0)) (blkOk_by (N := N__is_tuple_of_sizes) (sc := defScope s__is_tuple_of_sizes) (by decide +kernel)) gok_name (fun _ _ _ _ _ => (pg_name (i := 1) sc__is_tuple_of_sizes.nd rfl (Or.inl rfl))) (fun _ _ _ _ _ => wts_nil) (fun _ _ _ _ _ => (we_has H_is_size hgd (hr.mono (by decide)) (by rfl) (wa_cons (we_var 1) wa_nil))) (by decide))) wa_nil)))))), fun as n R hl hc => ?_⟩
  obtain ⟨d, rfl, hn, hR⟩ := hc
  refine ⟨_, rfl, rfl, d, 0, 100, rfl, hn.nr, ?_⟩
  cases ht : tupB d 0 100 with
  | false =>
    rw [shB_no ht] at hR
    exact asB_F rfl hR
  | true =>
    obtain ⟨ds, rfl, _, h2⟩ := tupB_true ht
    refine asB_T rfl ?_
    refine ⟨_, rfl, ds, rfl, ?_⟩
    rw [shB_eq h2] at hR
    rw [← List.map_id ds]
    refine compR_m ds id (fun d => .bool (szD d)) (small1000 (by omega)) (fun x hx acc KK ha hK => ?_) ?_
    · exact ⟨_, rfl, rfl, x, rfl, (hn.of_tup x hx).nr, ha, hK⟩
    · refine ⟨_, ds.map szD, rfl, by show PyData.list (ds.map fun d => .bool (szD d)) = _; rw [List.map_map]; rfl, ?_⟩
      rw [all_map]
      exact hR
abbrev s_Shelf___init__ : Stmt := inCls (topS 18) 0
abbrev N_Shelf___init__ : List Str := ["self", "sizes"]
theorem sc_Shelf___init__ : FnScope N_Shelf___init__ ["self", "sizes"] (defScope s_Shelf___init__) := ⟨rfl, rfl, rfl, by decide +kernel, rfl, by decide +kernel, by decide +kernel⟩
theorem fn_Shelf___init__ {f : Addr} {fd : FuncData} (F : Fun K "__init__" "Shelf.__init__" s_Shelf___init__ f fd) (B : Bn K mg C) (H__is_tuple_of_sizes : Has P w K mg base "_is_tuple_of_sizes" 4 ["value"] c__is_tuple_of_sizes) (H_BadShelf : ErrC P w K mg base "BadShelf" C.BadShelf "value") : FnGX P w K mg base 5 f fd ["self", "sizes"] (spDX K 2 (c_Shelf___init__ C)) := by
  refine fndX (k := 4) (c_Shelf___init__ C) F sc_Shelf___init__ fun cdv A outer s H Eh hgd0 hr Y E ok tk => ?_
  have hu := hr.units
  have hu1 : (A.deeper (envOfC "Shelf.__init__" (defScope s_Shelf___init__) s.heap.objs.size f cdv)).units + 65 < cLine := by have := hr.un; omega
  have hu0 : (A.deeper (envOfC "Shelf.__init__" (defScope s_Shelf___init__) s.heap.objs.size f cdv)).units + 1 < cLine := by have := hr.un; omega
  have hgd : (A.deeper (envOfC "Shelf.__init__" (defScope s_Shelf___init__) s.heap.objs.size f cdv)).guards = some [] := hgd0
  refine ⟨_, (dss_cons (ds_if (wt_not (wt_val (we_has H__is_tuple_of_sizes hgd (hr.mono (by decide)) (by rfl) (wa_cons (we_var 1) wa_nil)))) (dss_one (ds_raise rfl tk ok H_BadShelf (hr.mono (by decide)) (by rfl) (we_var 1))) dss_nil) (dss_one (ds_fld (we_var 0) (we_callTy call_tupC ck_tupC (by rfl) B.tuple PyProof.Rows.boot_tuple (wa_cons (we_ofM (me_callB cr_sortIT ck_sortIT (by rfl) B.sorted PyProof.Rows.boot_sorted (wa_cons (we_var 1) wa_nil))) wa_nil))))), fun as n R hl hc => ?_⟩
  obtain ⟨a, d, rfl, hn, hob, hE, hR⟩ := hc
  refine ⟨_, rfl, rfl, d, rfl, hn, _, rfl, ?_⟩
  cases hs : shB d with
  | false => exact ifNF rfl ⟨_, rfl, hE hs⟩
  | true =>
    obtain ⟨S, rfl, hS, hl⟩ := shB_yes hs
    refine ifN rfl ?_
    refine ⟨_, rfl, _, S, rfl, rfl, fun S' hp hs' => ?_⟩
    obtain rfl := srt_uniq hp hs'
    refine ⟨_, _, rfl, rfl, ?_⟩
    exact ⟨_, rfl, a, _, rfl, hob, B.fl_Shelf_sizes, Nat.le_of_ble_eq_true rfl, hR S rfl hS hl⟩
abbrev s__fitting : Stmt := topS 22
abbrev N__fitting : List Str := ["hall", "guest", "left", "feet", "pairs", "pair"]
theorem sc__fitting : FnScope N__fitting ["hall", "guest", "left"] (defScope s__fitting) := ⟨rfl, rfl, rfl, by decide +kernel, rfl, by decide +kernel, by decide +kernel⟩
theorem fn__fitting {f : Addr} {fd : FuncData} (F : Fun K "_fitting" "_fitting" s__fitting f fd) (B : Bn K mg C) : FnG P w K mg base 1 f fd ["hall", "guest", "left"] (spD K 3 c__fitting) := by
  refine fnd (k := 0) c__fitting F sc__fitting fun cdv A outer s H hgd0 hr Y => ?_
  have hu := hr.units
  have hu1 : (A.deeper (envOfC "_fitting" (defScope s__fitting) s.heap.objs.size f cdv)).units + 65 < cLine := by have := hr.un; omega
  have hu0 : (A.deeper (envOfC "_fitting" (defScope s__fitting) s.heap.objs.size f cdv)).units + 1 < cLine := by have := hr.un; omega
  have hgd : (A.deeper (envOfC "_fitting" (defScope s__fitting) s.heap.objs.size f cdv)).guards = some [] := hgd0
  refine ⟨_, (dss_cons (ds_asgG (we_var 0) ⟨(pg_tup rfl (pgs_cons (pg_name (i := 3) sc__fitting.nd rfl (Or.inr rfl)) (pgs_cons (pg_name (i := 4) sc__fitting.nd rfl (Or.inr rfl)) pgs_nil))), gok_two⟩) (dss_one (ds_ret (we_ofM (me_compV (own := [("pair", 5)]) rfl sc__fitting.nd (di_seqV (we_var 2)) (blkOk_by (N := N__fitting) (sc := defScope s__fitting) (by decide +kernel)) gok_name (fun _ _ _ _ _ => (pg_name (i := 5) sc__fitting.nd rfl (Or.inl rfl))) (fun _ _ _ _ _ => (wts_one (wt_cmp op_ge bi_B0 (we_ix (we_var 4) (we_var 5) (fun _ _ => rfl)) (we_ix (we_var 3) (we_var 1) (fun _ _ => rfl)) (nomark _)))) (fun _ _ _ _ _ => (we_var 5)) (by decide)))))), fun as n R hl hc => ?_⟩
  obtain ⟨feet, pairs, left, g, rfl, hg1, hg2, hl1, hl2, hR⟩ := hc
  refine ⟨_, rfl, _, _, rfl, _, rfl, _, rfl, compR_p left .int (fun j => decide (getI feet g ≤ getI pairs j)) .int (small1000 (by omega)) (fun x hx acc KK hK => ⟨_, rfl, _, rfl, _, _, rfl, atI_get (hl1 x hx).1 (hl1 x hx).2, _, rfl, _, rfl, _, _, rfl, atI_get hg1 hg2, _, rfl, ite_imp (fun h => ⟨_, rfl, h⟩) id hK⟩) hR⟩
abbrev s_run_by_liking : Stmt := topS 25
abbrev N_run_by_liking : List Str := ["hall", "order", "liking", "left", "run", "guest", "fitting"]
theorem sc_run_by_liking : FnScope N_run_by_liking ["hall", "order", "liking"] (defScope s_run_by_liking) := ⟨rfl, rfl, rfl, by decide +kernel, rfl, by decide +kernel, by decide +kernel⟩
theorem fn_run_by_liking {f : Addr} {fd : FuncData} (F : Fun K "run_by_liking" "run_by_liking" s_run_by_liking f fd) (B : Bn K mg C) (H__fitting : Has P w K mg base "_fitting" 1 ["hall", "guest", "left"] c__fitting) : FnG P w K mg base 2 f fd ["hall", "order", "liking"] (spD K 3 c_run_by_liking) := by
  refine fnd (k := 1) c_run_by_liking F sc_run_by_liking fun cdv A outer s H hgd0 hr Y => ?_
  have hu := hr.units
  have hu1 : (A.deeper (envOfC "run_by_liking" (defScope s_run_by_liking) s.heap.objs.size f cdv)).units + 65 < cLine := by have := hr.un; omega
  have hu0 : (A.deeper (envOfC "run_by_liking" (defScope s_run_by_liking) s.heap.objs.size f cdv)).units + 1 < cLine := by have := hr.un; omega
  have hgd : (A.deeper (envOfC "run_by_liking" (defScope s_run_by_liking) s.heap.objs.size f cdv)).guards = some [] := hgd0
  refine ⟨_, (dss_cons (ds_set (i := 3) sc_run_by_liking.nd rfl (Or.inl rfl) (xe_m (me_callTy call_list_of ck_list (by rfl) B.list PyProof.Rows.boot_list (wa_cons (we_var 2) wa_nil)))) (dss_cons (ds_set (i := 4) sc_run_by_liking.nd rfl (Or.inl rfl) (xe_m (me_lst wa_nil))) (dss_cons (ds_for PassesOwn.never rfl (di_seq (we_var 1)) ⟨(pg_name (i := 5) sc_run_by_liking.nd rfl (Or.inl rfl)), gok_name⟩ (dss_cons (ds_set (i := 6) sc_run_by_liking.nd rfl (Or.inl rfl) (xe_d (we_has H__fitting hgd (hr.mono (by decide)) (by rfl) (wa_cons (we_var 0) (wa_cons (we_var 5) (wa_cons (we_var 3) wa_nil)))))) (dss_one (ds_if (wt_tru (we_var 6)) (dss_cons (ds_append (pv 4) (we_tup (wa_cons (we_var 5) (wa_cons (we_ix (we_var 6) we_int (fun _ _ => rfl)) wa_nil)))) (dss_one (ds_remove (pv 3) (we_ix (we_var 6) we_int (fun _ _ => rfl))))) (dss_one (ds_append (pv 4) (we_tup (wa_cons (we_var 5) (wa_cons (we_gint (by rfl) B.NO_PAIR.choose_spec) wa_nil))))))))) (dss_one (ds_ret (we_callTy call_tuple_of ck_tuple (by rfl) B.tuple PyProof.Rows.boot_tuple (wa_cons (we_var 4) wa_nil))))))), fun as n R hl hc => ?_⟩
  obtain ⟨feet, pairs, order, liking, rfl, ho, hk, ho2, hk2, hR⟩ := hc
  refine ⟨_, rfl, _, _, rfl, rfl, Nat.zero_le _, _, rfl, _, rfl, ?_⟩
  refine forR_inv (fun k ρ n' => n' = n ∧ ∃ left run, (left, run) = (order.take k).foldl (stepF feet pairs) (liking, []) ∧ InR pairs.length left ∧ left.length ≤ 100 ∧ run.length ≤ k ∧ ∃ a5 a6, ρ = [some (.dat (hallD feet pairs)), some (.dat (.tuple (order.map .int))), some (.dat (.list (liking.map .int))), some (.mt (left.map .int)), some (.mt (run.map prD)), a5, a6])
    ⟨rfl, liking, [], rfl, hk, hk2, Nat.le_refl _, none, none, rfl⟩ ?_ ?_
  · rintro k x ρ n' hx ⟨rfl, left, run, he, hl1, hl2, hr2, a5, a6, rfl⟩
    obtain ⟨g, hg, rfl⟩ := map_get hx
    have hgo := ho g (List.mem_of_getElem? hg)
    have hk100 : k < 100 := Nat.lt_of_lt_of_le (List.getElem?_eq_some_iff.mp hg).1 ho2
    have hstep := fold_take (f := stepF feet pairs) (b := (liking, [])) hg
    rw [← he] at hstep
    refine ⟨_, rfl, _, rfl, _, rfl, rfl, feet, pairs, left, g, rfl, hgo.1, hgo.2, hl1, hl2, ?_⟩
    unfold stepF at hstep
    simp only at hstep
    have hsub : ∀ j ∈ left.filter (fun j => decide (getI feet g ≤ getI pairs j)), j ∈ left := fun j hj => (List.mem_filter.mp hj).1
    cases e : left.filter (fun j => decide (getI feet g ≤ getI pairs j)) with
    | nil =>
      rw [e] at hstep
      refine ⟨_, rfl, _, rfl, _, rfl, by show 2 ≤ sizeLine; decide, small1000 (by rw [List.length_map]; omega), rfl, left, run ++ [(g, -1)], hstep.symm, hl1, hl2, by rw [List.length_append]; exact Nat.succ_le_succ hr2, some (.dat (.int g)), some (.dat (.list [])), by rw [List.map_append]; rfl⟩
    | cons j js =>
      rw [e] at hstep hsub
      have hj := hsub j (by simp)
      refine ⟨_, rfl, _, rfl, _, rfl, _, rfl, 0, _, rfl, atI0 j js, by show 2 ≤ sizeLine; decide, small1000 (by rw [List.length_map]; omega), _, rfl, _, rfl, 0, _, rfl, atI0 j js, left, j, rfl, rfl, hj, rfl, left.erase j, run ++ [(g, j)], hstep.symm, fun i hi => hl1 i (List.mem_of_mem_erase hi), Nat.le_trans (List.erase_sublist.length_le) hl2, by rw [List.length_append]; exact Nat.succ_le_succ hr2, some (.dat (.int g)), some (.dat (.list ((j :: js).map .int))), by rw [List.map_append]; rfl⟩
  · rintro ρ n' ⟨rfl, left, run, he, hl1, hl2, hr2, a5, a6, rfl⟩
    rw [List.length_map, List.take_length] at he
    rw [← he] at hR
    exact ⟨_, rfl, _, _, rfl, rfl, hR⟩
abbrev s_small_run : Stmt := topS 26
abbrev N_small_run : List Str := ["hall", "order", "ranks", "pair", "size", "_"]
theorem sc_small_run : FnScope N_small_run ["hall", "order"] (defScope s_small_run) := ⟨rfl, rfl, rfl, by decide +kernel, rfl, by decide +kernel, by decide +kernel⟩
theorem fn_small_run {f : Addr} {fd : FuncData} (F : Fun K "small_run" "small_run" s_small_run f fd) (B : Bn K mg C) (H_run_by_liking : Has P w K mg base "run_by_liking" 2 ["hall", "order", "liking"] c_run_by_liking) : FnG P w K mg base 3 f fd ["hall", "order"] (spD K 2 c_small_run) := by
  refine fnd (k := 2) c_small_run F sc_small_run fun cdv A outer s H hgd0 hr Y => ?_
  have hu := hr.units
  have hu1 : (A.deeper (envOfC "small_run" (defScope s_small_run) s.heap.objs.size f cdv)).units + 65 < cLine := by have := hr.un; omega
  have hu0 : (A.deeper (envOfC "small_run" (defScope s_small_run) s.heap.objs.size f cdv)).units + 1 < cLine := by have := hr.un; omega
  have hgd : (A.deeper (envOfC "small_run" (defScope s_small_run) s.heap.objs.size f cdv)).guards = some [] := hgd0
  refine ⟨_, (dss_cons (ds_set (i := 2) sc_small_run.nd rfl (Or.inl rfl) (xe_d (we_ofM (me_callB cr_sortedPO ck_sortP (by rfl) B.sorted PyProof.Rows.boot_sorted (wa_cons (we_ofM (me_compV (own := [("pair", 3), ("size", 4)]) rfl sc_small_run.nd (div_of (di_enumA (by rfl) B.enumerate (wa_cons (we_ix (we_var 0) we_int (fun _ _ => rfl)) wa_nil))) (blkOk_by (N := N_small_run) (sc := defScope s_small_run) (by decide +kernel)) gok_two (fun _ _ _ _ _ => (pg_tup rfl (pgs_cons (pg_name (i := 3) sc_small_run.nd rfl (Or.inl rfl)) (pgs_cons (pg_name (i := 4) sc_small_run.nd rfl (Or.inl rfl)) pgs_nil)))) (fun _ _ _ _ _ => wts_nil) (fun _ _ _ _ _ => (we_tup (wa_cons (we_var 4) (wa_cons (we_var 3) wa_nil)))) (by decide))) wa_nil))))) (dss_one (ds_ret (we_has H_run_by_liking hgd (hr.mono (by decide)) (by rfl) (wa_cons (we_var 0) (wa_cons (we_var 1) (wa_cons (we_ofM (me_compV (own := [("_", 5), ("pair", 3)]) rfl sc_small_run.nd (di_seqV (we_var 2)) (blkOk_by (N := N_small_run) (sc := defScope s_small_run) (by decide +kernel)) gok_two (fun _ _ _ _ _ => (pg_tup rfl (pgs_cons (pg_name (i := 5) sc_small_run.nd rfl (Or.inl rfl)) (pgs_cons (pg_name (i := 3) sc_small_run.nd rfl (Or.inl rfl)) pgs_nil)))) (fun _ _ _ _ _ => wts_nil) (fun _ _ _ _ _ => (we_var 3)) (by decide))) wa_nil))))))), fun as n R hl hc => ?_⟩
  obtain ⟨feet, pairs, order, rfl, hh, ho, ho2, hR⟩ := hc
  have hp40 := hh.p2
  have hil : (intsN pairs.length).length = pairs.length := by simp [intsN]
  refine ⟨_, rfl, 1, _, rfl, rfl, _, _, rfl, rfl, ?_⟩
  rw [enum_ints]
  refine compR_m (intsN pairs.length) _ (fun j => prD ((getI pairs) j, j)) (small1000 (by omega)) (fun x hx acc KK ha hK => ⟨_, _, rfl, _, rfl, _, rfl, by show 2 ≤ sizeLine; decide, ha, hK⟩) ?_
  refine ⟨_, (intsN pairs.length).map fun j => ((getI pairs) j, j), rfl, by rw [List.map_map]; rfl, fun qs hp hs => ?_⟩
  have hql : qs.length = pairs.length := by rw [hp.length_eq, List.length_map, hil]
  refine ⟨_, rfl, _, rfl, _, rfl, _, rfl, compR_m qs prD (fun q => .int q.2) (small1000 (by omega)) (fun x hx acc KK ha hK => ⟨_, _, rfl, _, rfl, ha, hK⟩) ?_⟩
  have hp2 : (qs.map (·.2)).Perm (intsN pairs.length) := by
    have := hp.map (·.2)
    rw [List.map_map] at this
    rwa [show ((fun x : Int × Int => x.2) ∘ fun j => ((getI pairs) j, j)) = id from rfl, List.map_id] at this
  have hkey : ∀ q ∈ qs, q.1 = (getI pairs) q.2 := fun q hq => by
    obtain ⟨j, _, rfl⟩ := List.mem_map.mp (hp.mem_iff.mp hq)
    rfl
  refine ⟨rfl, feet, pairs, order, qs.map (·.2), by rw [List.map_map]; rfl, ho, fun j hj => mem_intsN (hp2.mem_iff.mp hj), ho2, by rw [List.length_map]; omega, ?_⟩
  rw [run_same (getI pairs) feet pairs order _ (intsN pairs.length) [] hp2 ?_ (intsN_lt _) fun x hx => (mem_intsN hx).1]
  · exact hR
  · rw [List.pairwise_map]
    refine hs.imp_of_mem fun {a b} ha hb h => ?_
    rw [hkey a ha, hkey b hb] at h
    exact h
abbrev s_Porter___init__ : Stmt := inCls (topS 19) 0
abbrev N_Porter___init__ : List Str := ["self", "shelf"]
theorem sc_Porter___init__ : FnScope N_Porter___init__ ["self", "shelf"] (defScope s_Porter___init__) := ⟨rfl, rfl, rfl, by decide +kernel, rfl, by decide +kernel, by decide +kernel⟩
theorem fn_Porter___init__ {f : Addr} {fd : FuncData} (F : Fun K "__init__" "Porter.__init__" s_Porter___init__ f fd) (B : Bn K mg C) (H_BadShelf : ErrC P w K mg base "BadShelf" C.BadShelf "value") : FnGX P w K mg base 3 f fd ["self", "shelf"] (spDX K 2 (c_Porter___init__ C)) := by
  refine fndX (k := 2) (c_Porter___init__ C) F sc_Porter___init__ fun cdv A outer s H Eh hgd0 hr Y E ok tk => ?_
  have hu := hr.units
  have hu1 : (A.deeper (envOfC "Porter.__init__" (defScope s_Porter___init__) s.heap.objs.size f cdv)).units + 65 < cLine := by have := hr.un; omega
  have hu0 : (A.deeper (envOfC "Porter.__init__" (defScope s_Porter___init__) s.heap.objs.size f cdv)).units + 1 < cLine := by have := hr.un; omega
  have hgd : (A.deeper (envOfC "Porter.__init__" (defScope s_Porter___init__) s.heap.objs.size f cdv)).guards = some [] := hgd0
  refine ⟨_, (dss_cons (ds_if (wt_not (wt_val (we_is (by rfl) B.isinstance (we_var 1) (pe_glob (v := .ref C.Shelf) (by rfl) B.g_Shelf rfl) (.own _)))) (dss_one (ds_raise rfl tk ok H_BadShelf (hr.mono (by decide)) (by rfl) (we_var 1))) dss_nil) (dss_cons (ds_fld (we_var 0) (we_var 1)) (dss_one (ds_fld (we_var 0) we_int)))), fun as n R hl hc => ?_⟩
  obtain ⟨a, b, S, rfl, hob, hb, hR⟩ := hc
  refine ⟨_, rfl, _, true, .inr ⟨b, _, rfl, hb, B.i_Shelf, rfl⟩, B.k_Shelf_Shelf, _, rfl, iteF (A := False) ?_⟩
  refine ⟨_, rfl, _, rfl, a, _, rfl, hob, B.fl_Porter_left, Nat.le_of_ble_eq_true rfl, ?_⟩
  refine ⟨_, rfl, a, _, rfl, Wo.put_at, B.fl_Porter_served, Nat.le_of_ble_eq_true rfl, ?_⟩
  rw [Wo.put_put]
  exact hR
abbrev s__first_missing : Stmt := topS 17
abbrev N__first_missing : List Str := ["sizes", "wanted", "size"]
theorem sc__first_missing : FnScope N__first_missing ["sizes", "wanted"] (defScope s__first_missing) := ⟨rfl, rfl, rfl, by decide +kernel, rfl, by decide +kernel, by decide +kernel⟩
theorem fn__first_missing {f : Addr} {fd : FuncData} (F : Fun K "_first_missing" "_first_missing" s__first_missing f fd) (B : Bn K mg C) : FnG P w K mg base 1 f fd ["sizes", "wanted"] (spD K 2 c__first_missing) := by
  refine fnd (k := 0) c__first_missing F sc__first_missing fun cdv A outer s H hgd0 hr Y => ?_
  have hu := hr.units
  have hu1 : (A.deeper (envOfC "_first_missing" (defScope s__first_missing) s.heap.objs.size f cdv)).units + 65 < cLine := by have := hr.un; omega
  have hu0 : (A.deeper (envOfC "_first_missing" (defScope s__first_missing) s.heap.objs.size f cdv)).units + 1 < cLine := by have := hr.un; omega
  have hgd : (A.deeper (envOfC "_first_missing" (defScope s__first_missing) s.heap.objs.size f cdv)).guards = some [] := hgd0
  refine ⟨_, (dss_cons (ds_for PassesOwn.never rfl (di_seq (we_unc (we_var 1))) ⟨(pg_name (i := 2) sc__first_missing.nd rfl (Or.inl rfl)), gok_name⟩ (dss_one (ds_if (wt_cmp op_gt bi_B0 (we_countC (we_var 1) (we_var 2)) (we_countC (we_var 0) (we_var 2)) (nomark _)) (dss_one (ds_ret (we_var 2))) dss_nil))) (dss_one (ds_ret we_non))), fun as n R hl hc => ?_⟩
  obtain ⟨S, T, rfl, hR⟩ := hc
  refine ⟨_, rfl, T, rfl, _, rfl, ?_⟩
  refine forR_inv (fun k ρ n' => n' = n ∧ (∀ i z, T[i]? = some z → i < k → ¬ S.count z < T.count z) ∧ ∃ b, ρ = [some (.dat (clnD S)), some (.dat (clnD T)), b]) ⟨rfl, fun i z _ h => absurd h (Nat.not_lt_zero _), _, rfl⟩ ?_ ?_
  · rintro k y ρ n' hy ⟨rfl, ha, b, rfl⟩
    rw [List.getElem?_map] at hy
    obtain ⟨z, hz, rfl⟩ := Option.map_eq_some_iff.mp hy
    refine ⟨_, rfl, T, rfl, _, rfl, z, rfl, trivial, _, rfl, S, rfl, _, rfl, z, rfl, trivial, _, rfl, ?_⟩
    by_cases hlt : S.count z < T.count z
    · refine iteD (show ((S.count z : Nat) : Int) < ((T.count z : Nat) : Int) by omega) ⟨_, rfl, ?_⟩
      rw [missD_some (find_first hz (decide_eq_true hlt) fun i y hy hi => decide_eq_false (ha i y hy hi))] at hR
      exact hR
    · refine iteDF (show ¬ ((S.count z : Nat) : Int) < ((T.count z : Nat) : Int) by omega) ⟨rfl, fun i y hy2 hi => ?_, _, rfl⟩
      by_cases e : i = k
      · subst e
        obtain rfl : z = y := Option.some.inj (hz.symm.trans hy2)
        exact hlt
      · exact ha i y hy2 (by omega)
  · rintro ρ n' ⟨rfl, ha, b, rfl⟩
    rw [missD_none (List.find?_eq_none.mpr fun z hz => by
      obtain ⟨i, hi⟩ := List.mem_iff_getElem?.mp hz
      have := ha i z hi (by rw [List.length_map]; exact (List.getElem?_eq_some_iff.mp hi).1)
      simpa using this)] at hR
    exact hR
abbrev s_Shelf___sub__ : Stmt := inCls (topS 18) 4
abbrev N_Shelf___sub__ : List Str := ["self", "other", "missing", "left", "size"]
theorem sc_Shelf___sub__ : FnScope N_Shelf___sub__ ["self", "other"] (defScope s_Shelf___sub__) := ⟨rfl, rfl, rfl, by decide +kernel, rfl, by decide +kernel, by decide +kernel⟩
theorem fn_Shelf___sub__ {f : Addr} {fd : FuncData} (F : Fun K "__sub__" "Shelf.__sub__" s_Shelf___sub__ f fd) (B : Bn K mg C) (H__first_missing : Has P w K mg base "_first_missing" 1 ["sizes", "wanted"] c__first_missing) (H_Shelf___init__ : HasC P w K mg base "Shelf" C.Shelf 5 ["self", "sizes"] (c_Shelf___init__ C)) (H_Missing : ErrC P w K mg base "Missing" C.Missing "size") : FnGX P w K mg base 7 f fd ["self", "other"] (spDX K 2 (c_Shelf___sub__ C)) := by
  refine fndX (k := 6) (c_Shelf___sub__ C) F sc_Shelf___sub__ fun cdv A outer s H Eh hgd0 hr Y E ok tk => ?_
  have hu := hr.units
  have hu1 : (A.deeper (envOfC "Shelf.__sub__" (defScope s_Shelf___sub__) s.heap.objs.size f cdv)).units + 65 < cLine := by have := hr.un; omega
  have hu0 : (A.deeper (envOfC "Shelf.__sub__" (defScope s_Shelf___sub__) s.heap.objs.size f cdv)).units + 1 < cLine := by have := hr.un; omega
  have hgd : (A.deeper (envOfC "Shelf.__sub__" (defScope s_Shelf___sub__) s.heap.objs.size f cdv)).guards = some [] := hgd0
  refine ⟨_, (dss_cons (ds_set (i := 2) sc_Shelf___sub__.nd rfl (Or.inl rfl) (xe_d (we_has H__first_missing hgd (hr.mono (by decide)) (by rfl) (wa_cons (we_fld (we_var 0)) (wa_cons (we_fld (we_var 1)) wa_nil))))) (dss_cons (ds_if (wt_cmp op_notN bi_notN (we_var 2) we_non (nomark _)) (dss_one (ds_raise rfl tk ok H_Missing (hr.mono (by decide)) (by rfl) (we_var 2))) dss_nil) (dss_cons (ds_set (i := 3) sc_Shelf___sub__.nd rfl (Or.inl rfl) (xe_m (me_callTy call_list_of ck_list (by rfl) B.list PyProof.Rows.boot_list (wa_cons (we_unc (we_fld (we_var 0))) wa_nil)))) (dss_cons (ds_for (passes_of rfl) rfl (di_seq (we_unc (we_fld (we_var 1)))) ⟨(pg_name (i := 4) sc_Shelf___sub__.nd rfl (Or.inl rfl)), gok_name⟩ (dss_one (ds_remove (pv 3) (we_var 4)))) (dss_one (ds_ret (we_hasC tk ok H_Shelf___init__ hgd (hr.mono (by decide)) (by rfl) (wa_cons (we_callTy call_tuple_of ck_tuple (by rfl) B.tuple PyProof.Rows.boot_tuple (wa_cons (we_var 3) wa_nil)) wa_nil)))))))), fun as n R hl hc => ?_⟩
  obtain ⟨a, b, S, T, rfl, ha, hb, hS, hSl, hE, hR⟩ := hc
  refine ⟨_, rfl, a, _, _, rfl, ha, B.fl_Shelf_sizes, rfl, _, rfl, b, _, _, rfl, hb, B.fl_Shelf_sizes, rfl, rfl, S, T, rfl, ?_⟩
  cases hm : missZ S T with
  | some z =>
    rw [missD_some hm]
    exact ⟨_, rfl, rfl, rfl, _, rfl, ifNF (b := isN (.int z)) rfl ⟨_, rfl, hE z hm⟩⟩
  | none =>
    rw [missD_none hm]
    refine ⟨_, rfl, rfl, rfl, _, rfl, ifN (b := isN .none) rfl ?_⟩
    refine ⟨_, rfl, a, _, _, rfl, ha, B.fl_Shelf_sizes, rfl, S, rfl, _, _, rfl, rfl, ?_⟩
    refine ⟨_, rfl, b, _, _, rfl, hb, B.fl_Shelf_sizes, rfl, T, rfl, _, rfl, ?_⟩
    refine forR_inv (fun k ρ n' => n' = n ∧ ∃ b2 b4, ρ = [some (.dat (refD a)), some (.dat (refD b)), b2, some (.mt ((remL S (T.take k)).map .int)), b4]) ⟨rfl, _, _, rfl⟩ ?_ ?_
    · rintro k y ρ n' hy ⟨rfl, b2, b4, rfl⟩
      rw [List.getElem?_map] at hy
      obtain ⟨z, hz, rfl⟩ := Option.map_eq_some_iff.mp hy
      have et : T.take (k + 1) = T.take k ++ [z] := by rw [List.take_add_one, hz]; rfl
      have hmem : z ∈ remL S (T.take k) := by
        refine List.count_pos_iff.mp ?_
        rw [count_rem]
        have h1 := miss_none hm z
        have h2 : (T.take (k + 1)).count z ≤ T.count z := (List.take_sublist ..).count_le _
        rw [et, List.count_append] at h2
        have h3 : [z].count z = 1 := by simp
        omega
      exact ⟨_, rfl, _, rfl, _, z, rfl, rfl, hmem, rfl, _, _, by rw [et, remL_snoc]; rfl⟩
    · rintro ρ n' ⟨rfl, b2, b4, rfl⟩
      rw [List.length_map, List.take_length]
      have hI : In1 (10 ^ 6) (remL S T) := fun x hx => hS x (mem_rem hx)
      have hL : (remL S T).length ≤ 100 := Nat.le_trans (len_rem S T) hSl
      refine ⟨_, rfl, _, _, rfl, rfl, fun x hx => ?_⟩
      refine ⟨x, _, rfl, .tup fun y hy => by obtain ⟨z, _, rfl⟩ := List.mem_map.mp hy; exact .int z, Wo.put_at, fun he => Bool.noConfusion (he.symm.trans (shB_ints hI hL)), fun S' e _ _ => ⟨rfl, ?_⟩⟩
      obtain rfl := map_int_inj (PyData.tuple.inj e)
      rw [Wo.put_put]
      exact hR hm x hx
abbrev s_Porter___call__ : Stmt := inCls (topS 19) 1
abbrev N_Porter___call__ : List Str := ["self", "value", "fitting", "size"]
theorem sc_Porter___call__ : FnScope N_Porter___call__ ["self", "value"] (defScope s_Porter___call__) := ⟨rfl, rfl, rfl, by decide +kernel, rfl, by decide +kernel, by decide +kernel⟩
theorem fn_Porter___call__ {f : Addr} {fd : FuncData} (F : Fun K "__call__" "Porter.__call__" s_Porter___call__ f fd) (B : Bn K mg C) (HM___sub__ : HasM P w K mg base (fun D => D = C.Shelf) "__sub__" 7 ["self", "other"] (fun _ => c_Shelf___sub__ C)) (H_is_size : Has P w K mg base "is_size" 3 ["value"] c_is_size) (H_Shelf___init__ : HasC P w K mg base "Shelf" C.Shelf 5 ["self", "sizes"] (c_Shelf___init__ C)) (H_BadFoot : ErrC P w K mg base "BadFoot" C.BadFoot "value") : FnGX P w K mg base 8 f fd ["self", "value"] (spDX K 2 (c_Porter___call__ C)) := by
  refine fndX (k := 7) (c_Porter___call__ C) F sc_Porter___call__ fun cdv A outer s H Eh hgd0 hr Y E ok tk => ?_
  have hu := hr.units
  have hu1 : (A.deeper (envOfC "Porter.__call__" (defScope s_Porter___call__) s.heap.objs.size f cdv)).units + 65 < cLine := by have := hr.un; omega
  have hu0 : (A.deeper (envOfC "Porter.__call__" (defScope s_Porter___call__) s.heap.objs.size f cdv)).units + 1 < cLine := by have := hr.un; omega
  have hgd : (A.deeper (envOfC "Porter.__call__" (defScope s_Porter___call__) s.heap.objs.size f cdv)).guards = some [] := hgd0
  refine ⟨_, (dss_cons (ds_if (wt_not (wt_val (we_has H_is_size hgd (hr.mono (by decide)) (by rfl) (wa_cons (we_var 1) wa_nil)))) (dss_one (ds_raise rfl tk ok H_BadFoot (hr.mono (by decide)) (by rfl) (we_var 1))) dss_nil) (dss_cons (ds_setLcV (i := 2) (u := xD (dOfM _)) (hyl := rfl) (hy := rfl) (hsw := sw_true rfl rfl rfl (by decide +kernel)) (hu := lc_dat) (own := [("size", 3)]) (hc := rfl) (hN := sc_Porter___call__.nd) (hi := (di_seqV (we_unc (we_fld (we_fld (we_var 0)))))) (ok := (blkOk_by (N := N_Porter___call__) (sc := defScope s_Porter___call__) (by decide +kernel))) (hk := gok_name) (hg := fun _ _ _ _ _ => (pg_name (i := 3) sc_Porter___call__.nd rfl (Or.inl rfl))) (ht := fun _ _ _ _ _ => (wts_one (wt_cmp op_ge bi_B0 (we_var 3) (we_var 1) (nomark _)))) (he := fun _ _ _ _ _ => (we_var 3)) (hv := by decide)) (dss_cons (ds_if (wt_not (wt_tru (we_var 2))) (dss_one (ds_ret we_non)) dss_nil) (dss_cons (ds_fld (we_var 0) (we_binO tk ok HM___sub__ hgd (hr.mono (by decide)) rfl (we_fld (we_var 0)) (we_hasC tk ok H_Shelf___init__ hgd (hr.mono (by decide)) (by rfl) (wa_cons (we_tup (wa_cons (we_ix (we_var 2) we_int (fun _ _ => rfl)) wa_nil)) wa_nil)))) (dss_cons (ds_fldA (we_var 0) we_int) (dss_one (ds_ret (we_ix (we_var 2) we_int (fun _ _ => rfl))))))))), fun as n R hl hc => ?_⟩
  obtain ⟨a, b, S, k, z, rfl, ha, hb, hS, hSl, z0, z1, k0, k1, hN, hR⟩ := hc
  refine ⟨_, rfl, rfl, .int z, rfl, rfl, _, rfl, ifN (numIn_int z0 (show z ≤ 10 ^ 6 from z1)) ?_⟩
  refine ⟨_, rfl, a, _, _, rfl, ha, B.fl_Porter_left, rfl, b, _, _, rfl, hb, B.fl_Shelf_sizes, rfl, S, rfl, _, rfl, ?_⟩
  refine compR_p S .int (fun y => decide (z ≤ y)) .int (small1000 (by omega)) (fun y hy acc KK hK => ?_) ?_
  · exact ⟨_, rfl, _, rfl, _, rfl, ite_imp (fun h => ⟨_, rfl, h⟩) id hK⟩
  · cases hf : S.filter (fun y => decide (z ≤ y)) with
    | nil => exact ⟨_, rfl, iteT (B := False) (hN hf)⟩
    | cons y ys =>
      refine ⟨_, rfl, ?_⟩
      have hy : y ∈ S := (List.mem_filter.mp (show y ∈ S.filter (fun y => decide (z ≤ y)) by rw [hf]; simp)).1
      have hy2 : ∀ x ∈ S, 1 ≤ x ∧ x ≤ 10 ^ 6 := hS
      refine iteF (A := False) ?_
      refine ⟨_, rfl, a, _, _, rfl, ha, B.fl_Porter_left, rfl, ?_⟩
      refine ⟨_, rfl, 0, _, rfl, atI0 y ys, by show 1 ≤ sizeLine; decide, fun t ht => ?_⟩
      refine ⟨t, .tuple ([y].map .int), rfl, .tup (all1 (.int y)), Wo.put_at, fun he => Bool.noConfusion (he.symm.trans (shB_ints (T := [y]) (fun x hx => by rw [List.mem_singleton.mp hx]; exact hS y hy) (Nat.le_of_ble_eq_true rfl))), fun S' e _ _ => ⟨rfl, ?_⟩⟩
      obtain rfl := map_int_inj (PyData.tuple.inj e)
      rw [Wo.put_put, srt_one]
      have bt : b ≠ t := fun q => by rw [← q, hb] at ht; cases ht
      have at' : a ≠ t := fun q => by rw [← q, ha] at ht; cases ht
      refine ⟨b, _, t, _, rfl, rfl, (Wo.put_ne bt).trans hb, Wo.put_at, rfl, rfl, B.sf_Shelf, ?_⟩
      refine ⟨b, t, S, [y], rfl, (Wo.put_ne bt).trans hb, Wo.put_at, hS, hSl, fun w hw => absurd (hw.symm.trans (miss_one hy)) (by simp), fun _ x hx => ?_⟩
      have ax : a ≠ x := fun q => by rw [← q, Wo.put_ne at', ha] at hx; cases hx
      refine ⟨_, rfl, a, _, rfl, (Wo.put_ne ax).trans ((Wo.put_ne at').trans ha), B.fl_Porter_left, Nat.le_of_ble_eq_true rfl, ?_⟩
      refine ⟨_, rfl, a, _, k, rfl, Wo.put_at, B.fl_Porter_served, rfl, 1, _, rfl, Wo.put_at, rfl, Nat.le_of_ble_eq_true rfl, ?_⟩
      refine ⟨_, rfl, 0, _, rfl, atI0 y ys, ?_⟩
      rw [Wo.put_put]
      exact hR y ys hf t x ht hx
abbrev s_Shelf___eq__ : Stmt := inCls (topS 18) 8
abbrev N_Shelf___eq__ : List Str := ["self", "other"]
theorem sc_Shelf___eq__ : FnScope N_Shelf___eq__ ["self", "other"] (defScope s_Shelf___eq__) := ⟨rfl, rfl, rfl, by decide +kernel, rfl, by decide +kernel, by decide +kernel⟩
theorem fn_Shelf___eq__ {f : Addr} {fd : FuncData} (F : Fun K "__eq__" "Shelf.__eq__" s_Shelf___eq__ f fd) (B : Bn K mg C) : FnGX P w K mg base 1 f fd ["self", "other"] (spDX K 2 (c_Shelf___eq__ C)) := by
  refine fndX (k := 0) (c_Shelf___eq__ C) F sc_Shelf___eq__ fun cdv A outer s H Eh hgd0 hr Y E ok tk => ?_
  have hu := hr.units
  have hu1 : (A.deeper (envOfC "Shelf.__eq__" (defScope s_Shelf___eq__) s.heap.objs.size f cdv)).units + 65 < cLine := by have := hr.un; omega
  have hu0 : (A.deeper (envOfC "Shelf.__eq__" (defScope s_Shelf___eq__) s.heap.objs.size f cdv)).units + 1 < cLine := by have := hr.un; omega
  have hgd : (A.deeper (envOfC "Shelf.__eq__" (defScope s_Shelf___eq__) s.heap.objs.size f cdv)).guards = some [] := hgd0
  refine ⟨_, (dss_one (ds_ret (we_and (we_is (by rfl) B.isinstance (we_var 1) (pe_glob (v := .ref C.Shelf) (by rfl) B.g_Shelf rfl) (.own _)) (we_one (we_cmp (or_eqA hu) bi_eqA (we_unc (we_fld (we_var 0))) (we_unc (we_fld (we_var 1))) (nomark _)))))), fun as n R hl hc => ?_⟩
  obtain ⟨a, b, S, T, rfl, ha, hb, hR⟩ := hc
  refine ⟨_, rfl, _, true, .inr ⟨b, _, rfl, hb, B.i_Shelf, rfl⟩, B.k_Shelf_Shelf, ?_⟩
  refine asB_T rfl (iteT ?_)
  refine ⟨_, rfl, a, _, _, rfl, ha, B.fl_Shelf_sizes, rfl, S, rfl, _, rfl, b, _, _, rfl, hb, B.fl_Shelf_sizes, rfl, T, rfl, rfl, rfl, sh_tints _, sh_tints _, ?_⟩
  show R (.bool (PyData.eqv (.tuple (S.map .int)) (.tuple (T.map .int)))) n
  rw [eqv_tints]
  exact hR
abbrev s_Shelf___contains__ : Stmt := inCls (topS 18) 5
abbrev N_Shelf___contains__ : List Str := ["self", "value"]
theorem sc_Shelf___contains__ : FnScope N_Shelf___contains__ ["self", "value"] (defScope s_Shelf___contains__) := ⟨rfl, rfl, rfl, by decide +kernel, rfl, by decide +kernel, by decide +kernel⟩
theorem fn_Shelf___contains__ {f : Addr} {fd : FuncData} (F : Fun K "__contains__" "Shelf.__contains__" s_Shelf___contains__ f fd) (B : Bn K mg C) (H__first_missing : Has P w K mg base "_first_missing" 1 ["sizes", "wanted"] c__first_missing) : FnGX P w K mg base 2 f fd ["self", "value"] (spDX K 2 (c_Shelf___contains__ C)) := by
  refine fndX (k := 1) (c_Shelf___contains__ C) F sc_Shelf___contains__ fun cdv A outer s H Eh hgd0 hr Y E ok tk => ?_
  have hu := hr.units
  have hu1 : (A.deeper (envOfC "Shelf.__contains__" (defScope s_Shelf___contains__) s.heap.objs.size f cdv)).units + 65 < cLine := by have := hr.un; omega
  have hu0 : (A.deeper (envOfC "Shelf.__contains__" (defScope s_Shelf___contains__) s.heap.objs.size f cdv)).units + 1 < cLine := by have := hr.un; omega
  have hgd : (A.deeper (envOfC "Shelf.__contains__" (defScope s_Shelf___contains__) s.heap.objs.size f cdv)).guards = some [] := hgd0
  refine ⟨_, (dss_one (ds_ret (we_and (we_is (by rfl) B.isinstance (we_var 1) (pe_glob (v := .ref C.Shelf) (by rfl) B.g_Shelf rfl) (.own _)) (we_one (we_cmp op_isN bi_isN (we_has H__first_missing hgd (hr.mono (by decide)) (by rfl) (wa_cons (we_fld (we_var 0)) (wa_cons (we_fld (we_var 1)) wa_nil))) we_non (nomark _)))))), fun as n R hl hc => ?_⟩
  obtain ⟨a, b, S, T, rfl, ha, hb, hR⟩ := hc
  refine ⟨_, rfl, _, true, .inr ⟨b, _, rfl, hb, B.i_Shelf, rfl⟩, B.k_Shelf_Shelf, asB_T rfl (iteT ?_)⟩
  refine ⟨_, rfl, a, _, _, rfl, ha, B.fl_Shelf_sizes, rfl, _, rfl, b, _, _, rfl, hb, B.fl_Shelf_sizes, rfl, rfl, S, T, rfl, ?_⟩
  cases hm : missZ S T with
  | none =>
    rw [missD_none hm]
    rw [hm] at hR
    exact ⟨rfl, rfl, hR⟩
  | some z =>
    rw [missD_some hm]
    rw [hm] at hR
    exact ⟨rfl, rfl, hR⟩
abbrev s_most_served : Stmt := topS 31
abbrev N_most_served : List Str := ["hall", "size"]
theorem sc_most_served : FnScope N_most_served ["hall"] (defScope s_most_served) := ⟨rfl, rfl, rfl, by decide +kernel, rfl, by decide +kernel, by decide +kernel⟩
theorem fn_most_served {f : Addr} {fd : FuncData} (F : Fun K "most_served" "most_served" s_most_served f fd) (B : Bn K mg C) (H_counts_at : Has P w K mg base "counts_at" 1 ["hall", "size"] c_counts_at) (H__deciding_sizes : Has P w K mg base "_deciding_sizes" 2 ["hall"] c__deciding_sizes) : FnG P w K mg base 3 f fd ["hall"] (spD K 1 c_most_served) := by
  refine fnd (k := 2) c_most_served F sc_most_served fun cdv A outer s H hgd0 hr Y => ?_
  have hu := hr.units
  have hu1 : (A.deeper (envOfC "most_served" (defScope s_most_served) s.heap.objs.size f cdv)).units + 65 < cLine := by have := hr.un; omega
  have hu0 : (A.deeper (envOfC "most_served" (defScope s_most_served) s.heap.objs.size f cdv)).units + 1 < cLine := by have := hr.un; omega
  have hgd : (A.deeper (envOfC "most_served" (defScope s_most_served) s.heap.objs.size f cdv)).guards = some [] := hgd0
  refine ⟨_, (dss_one (ds_ret (we_callB (call_minA rfl) ck_min (by rfl) B.min PyProof.Rows.boot_min (wa_cons (we_ofM (me_compV (own := [("size", 1)]) rfl sc_most_served.nd (di_seqV (we_has H__deciding_sizes hgd (hr.mono (by decide)) (by rfl) (wa_cons (we_var 0) wa_nil))) (blkOk_by (N := N_most_served) (sc := defScope s_most_served) (by decide +kernel)) gok_name (fun _ _ _ _ _ => (pg_name (i := 1) sc_most_served.nd rfl (Or.inl rfl))) (fun _ _ _ _ _ => wts_nil) (fun _ _ _ _ _ => (we_callB (call_sumA rfl) ck_sum (by rfl) B.sum PyProof.Rows.boot_sum (wa_cons (we_has H_counts_at hgd (hr.mono (by decide)) (by rfl) (wa_cons (we_var 0) (wa_cons (we_var 1) wa_nil))) wa_nil))) (by decide))) wa_nil)))), fun as n R hl hc => ?_⟩
  obtain ⟨feet, pairs, rfl, hh, hR⟩ := hc
  have hf40 := hh.f2
  have hp40 := hh.p2
  refine ⟨_, rfl, rfl, feet, pairs, rfl, hf40, fun ms hme hm hml => ⟨_, rfl, compR_m ms .int (fun s => .int ((cF feet s : Int) + cP pairs s)) (small1000 (by omega)) (fun x hx acc KK ha hK => ⟨_, rfl, _, rfl, rfl, feet, pairs, x, rfl, by omega, by omega, _, [(cF feet x : Int), (cP pairs x : Int)], rfl, rfl, ?_⟩) ?_⟩⟩
  · rw [show ([(cF feet x : Int), (cP pairs x : Int)] : List Int).sum = (cF feet x : Int) + cP pairs x by simp]; exact ⟨ha, hK⟩
  refine ⟨ms.map fun s => (cF feet s : Int) + cP pairs s, by rw [List.map_map]; rfl, ?_, fun m hm2 hle => hR m ?_⟩
  · rw [List.length_map]
    exact List.length_pos_of_mem ((hm 1000001).mpr (.inr rfl))
  obtain ⟨s, hs, rfl⟩ := List.mem_map.mp hm2
  obtain ⟨s0, h0, h1⟩ := most_at (feet := feet) (pairs := pairs) (top := 1000001) (fun x hx => by have := hh.fi x hx; omega) fun x hx => by have := hh.pi x hx; omega
  refine ⟨⟨s, rfl⟩, fun s' => ?_⟩
  exact Int.le_trans (hle _ (List.mem_map_of_mem ((hm s0).mpr h0))) (h1 s')
abbrev s_served_by : Stmt := topS 23
abbrev N_served_by : List Str := ["hall", "run", "guest", "pair"]
theorem sc_served_by : FnScope N_served_by ["hall", "run"] (defScope s_served_by) := ⟨rfl, rfl, rfl, by decide +kernel, rfl, by decide +kernel, by decide +kernel⟩
theorem fn_served_by {f : Addr} {fd : FuncData} (F : Fun K "served_by" "served_by" s_served_by f fd) (B : Bn K mg C) : FnG P w K mg base 1 f fd ["hall", "run"] (spD K 2 c_served_by) := by
  refine fnd (k := 0) c_served_by F sc_served_by fun cdv A outer s H hgd0 hr Y => ?_
  have hu := hr.units
  have hu1 : (A.deeper (envOfC "served_by" (defScope s_served_by) s.heap.objs.size f cdv)).units + 65 < cLine := by have := hr.un; omega
  have hu0 : (A.deeper (envOfC "served_by" (defScope s_served_by) s.heap.objs.size f cdv)).units + 1 < cLine := by have := hr.un; omega
  have hgd : (A.deeper (envOfC "served_by" (defScope s_served_by) s.heap.objs.size f cdv)).guards = some [] := hgd0
  refine ⟨_, (dss_one (ds_ret (we_callTy call_tuple_of ck_tuple (by rfl) B.tuple PyProof.Rows.boot_tuple (wa_cons (we_ofM (me_callB cr_sortedI ck_sortI (by rfl) B.sorted PyProof.Rows.boot_sorted (wa_cons (we_ofM (me_compV (own := [("guest", 2), ("pair", 3)]) rfl sc_served_by.nd (di_seqV (we_var 1)) (blkOk_by (N := N_served_by) (sc := defScope s_served_by) (by decide +kernel)) gok_two (fun _ _ _ _ _ => (pg_tup rfl (pgs_cons (pg_name (i := 2) sc_served_by.nd rfl (Or.inl rfl)) (pgs_cons (pg_name (i := 3) sc_served_by.nd rfl (Or.inl rfl)) pgs_nil)))) (fun _ _ _ _ _ => (wts_one (wt_cmp (or_neA hu) bi_neA (we_var 3) (we_gint (by rfl) B.NO_PAIR.choose_spec) (nomark _)))) (fun _ _ _ _ _ => (we_var 2)) (by decide))) wa_nil))) wa_nil)))), fun as n R hl hc => ?_⟩
  obtain ⟨feet, pairs, run, rfl, hr1, hr2, hR⟩ := hc
  have hrl := hr1.len
  refine ⟨_, rfl, _, rfl, compR_p run prD (fun q => decide (q.2 ≠ -1)) (fun q => .int q.1) (small1000 (by omega)) (fun x hx acc KK hK => ⟨_, _, rfl, _, rfl, rfl, rfl, rfl, rfl, _, rfl, ?_⟩) ?_⟩
  · show if (!PyData.eqv (.int x.2) (.int (-1))) = true then _ else _
    rw [eqv_int, show (!decide (x.2 = -1)) = decide (x.2 ≠ -1) by simp]
    exact ite_imp (fun h => ⟨_, rfl, h⟩) id hK
  refine ⟨_, (run.filter fun q => decide (q.2 ≠ -1)).map (·.1), rfl, by rw [List.map_map]; rfl, fun ns' hp hs => ?_⟩
  rw [shod_uniq hr1 hp hs]
  exact ⟨_, _, rfl, rfl, hR⟩
abbrev s_Shelf___add__ : Stmt := inCls (topS 18) 3
abbrev N_Shelf___add__ : List Str := ["self", "other"]
theorem sc_Shelf___add__ : FnScope N_Shelf___add__ ["self", "other"] (defScope s_Shelf___add__) := ⟨rfl, rfl, rfl, by decide +kernel, rfl, by decide +kernel, by decide +kernel⟩
theorem fn_Shelf___add__ {f : Addr} {fd : FuncData} (F : Fun K "__add__" "Shelf.__add__" s_Shelf___add__ f fd) (B : Bn K mg C) (H_Shelf___init__ : HasC P w K mg base "Shelf" C.Shelf 5 ["self", "sizes"] (c_Shelf___init__ C)) : FnGX P w K mg base 7 f fd ["self", "other"] (spDX K 2 (c_Shelf___add__ C)) := by
  refine fndX (k := 6) (c_Shelf___add__ C) F sc_Shelf___add__ fun cdv A outer s H Eh hgd0 hr Y E ok tk => ?_
  have hu := hr.units
  have hu1 : (A.deeper (envOfC "Shelf.__add__" (defScope s_Shelf___add__) s.heap.objs.size f cdv)).units + 65 < cLine := by have := hr.un; omega
  have hu0 : (A.deeper (envOfC "Shelf.__add__" (defScope s_Shelf___add__) s.heap.objs.size f cdv)).units + 1 < cLine := by have := hr.un; omega
  have hgd : (A.deeper (envOfC "Shelf.__add__" (defScope s_Shelf___add__) s.heap.objs.size f cdv)).guards = some [] := hgd0
  refine ⟨_, (dss_cons (ds_if (wt_cmp op_gt bi_B0 (we_bin or_addA bi_add (we_callB call_len_seq ck_len (by rfl) B.len PySem.boot_len (wa_cons (we_unc (we_fld (we_var 0))) wa_nil)) (we_callB call_len_seq ck_len (by rfl) B.len PySem.boot_len (wa_cons (we_unc (we_fld (we_var 1))) wa_nil))) (we_gint (by rfl) B.MAX_SHELF.choose_spec) (nomark _)) (dss_one (ds_raise0 rfl tk ok B.e_TooManyPairs (by rfl))) dss_nil) (dss_one (ds_ret (we_hasC tk ok H_Shelf___init__ hgd (hr.mono (by decide)) (by rfl) (wa_cons (we_bin or_addA bi_add (we_unc (we_fld (we_var 0))) (we_unc (we_fld (we_var 1)))) wa_nil))))), fun as n R hl hc => ?_⟩
  obtain ⟨a, b, S, T, rfl, ha, hb, hS, hT, hSl, hTl, hE, hR⟩ := hc
  refine ⟨_, rfl, a, _, _, rfl, ha, B.fl_Shelf_sizes, rfl, S, rfl, _, _, rfl, rfl, _, rfl, b, _, _, rfl, hb, B.fl_Shelf_sizes, rfl, T, rfl, _, _, rfl, rfl, _, rfl, ?_⟩
  rw [List.length_map, List.length_map]
  by_cases hl : (100 : Int) < (S.length : Int) + T.length
  · exact iteD hl (hE (by omega))
  · refine iteDF hl ?_
    have hI : In1 (10 ^ 6) (S ++ T) := fun x hx => (List.mem_append.mp hx).elim (hS x) (hT x)
    have hL : (S ++ T).length ≤ 100 := by rw [List.length_append]; omega
    refine ⟨_, rfl, a, _, _, rfl, ha, B.fl_Shelf_sizes, rfl, S, rfl, _, rfl, b, _, _, rfl, hb, B.fl_Shelf_sizes, rfl, T, rfl, line1000 (by rw [List.length_map, List.length_map]; omega), fun x hx => ?_⟩
    have em : S.map PyData.int ++ T.map PyData.int = (S ++ T).map .int := (List.map_append ..).symm
    refine ⟨x, .tuple ((S ++ T).map .int), by rw [em], .tup fun y hy => by obtain ⟨z, _, rfl⟩ := List.mem_map.mp hy; exact .int z, Wo.put_at, fun he => Bool.noConfusion (he.symm.trans (shB_ints hI hL)), fun S' e _ _ => ⟨rfl, ?_⟩⟩
    obtain rfl := map_int_inj (PyData.tuple.inj e)
    rw [Wo.put_put]
    exact hR (by omega) x hx
abbrev s_left_by : Stmt := topS 24
abbrev N_left_by : List Str := ["hall", "run", "taken", "_", "pair"]
theorem sc_left_by : FnScope N_left_by ["hall", "run"] (defScope s_left_by) := ⟨rfl, rfl, rfl, by decide +kernel, rfl, by decide +kernel, by decide +kernel⟩
theorem fn_left_by {f : Addr} {fd : FuncData} (F : Fun K "left_by" "left_by" s_left_by f fd) (B : Bn K mg C) : FnG P w K mg base 1 f fd ["hall", "run"] (spD K 2 c_left_by) := by
  refine fnd (k := 0) c_left_by F sc_left_by fun cdv A outer s H hgd0 hr Y => ?_
  have hu := hr.units
  have hu1 : (A.deeper (envOfC "left_by" (defScope s_left_by) s.heap.objs.size f cdv)).units + 65 < cLine := by have := hr.un; omega
  have hu0 : (A.deeper (envOfC "left_by" (defScope s_left_by) s.heap.objs.size f cdv)).units + 1 < cLine := by have := hr.un; omega
  have hgd : (A.deeper (envOfC "left_by" (defScope s_left_by) s.heap.objs.size f cdv)).guards = some [] := hgd0
  refine ⟨_, (dss_cons (ds_set (i := 2) sc_left_by.nd rfl (Or.inr rfl) (xe_d (we_ofM (me_compV (own := [("_", 3), ("pair", 4)]) rfl sc_left_by.nd (di_seqV (we_var 1)) (blkOk_by (N := N_left_by) (sc := defScope s_left_by) (by decide +kernel)) gok_two (fun _ _ _ _ _ => (pg_tup rfl (pgs_cons (pg_name (i := 3) sc_left_by.nd rfl (Or.inl rfl)) (pgs_cons (pg_name (i := 4) sc_left_by.nd rfl (Or.inl rfl)) pgs_nil)))) (fun _ _ _ _ _ => wts_nil) (fun _ _ _ _ _ => (we_var 4)) (by decide))))) (dss_one (ds_ret (we_callTy call_tuple_of ck_tuple (by rfl) B.tuple PyProof.Rows.boot_tuple (wa_cons (we_ofM (me_compV (own := [("pair", 4)]) rfl sc_left_by.nd (div_of (di_range1 (by rfl) B.range (wa_cons (we_callB call_len_seq ck_len (by rfl) B.len PySem.boot_len (wa_cons (we_ix (we_var 0) we_int (fun _ _ => rfl)) wa_nil)) wa_nil))) (blkOk_by (N := N_left_by) (sc := defScope s_left_by) (by decide +kernel)) gok_name (fun _ _ _ _ _ => (pg_name (i := 4) sc_left_by.nd rfl (Or.inl rfl))) (fun _ _ _ _ _ => (wts_one (wt_cmp (op_notInD hu1) bi_notIn (we_var 4) (we_var 2) (by rfl)))) (fun _ _ _ _ _ => (we_var 4)) (by decide))) wa_nil))))), fun as n R hl hc => ?_⟩
  obtain ⟨feet, pairs, run, rfl, hr1, hp40, hR⟩ := hc
  refine ⟨_, rfl, _, rfl, compR_m run prD (fun q => .int q.2) (small1000 (by omega)) (fun x hx acc KK ha hK => ⟨_, _, rfl, _, rfl, ha, hK⟩) ?_⟩
  refine ⟨_, rfl, 1, _, rfl, rfl, _, _, rfl, rfl, ((pairs.map PyData.int).length : Nat), rfl, by omega, by rw [List.length_map]; omega, ?_⟩
  rw [List.length_map, rng_ints]
  refine compR_p (intsN pairs.length) .int (fun j => !(run.any fun q => decide (q.2 = j))) .int (small1000 (by rw [intsN_len]; omega)) (fun x hx acc KK hK => ⟨_, rfl, _, rfl, rfl, rfl, _, rfl, rfl, ?_, _, rfl, ?_⟩) ?_
  · rw [show (run.map fun q => PyData.int q.2) = (run.map (·.2)).map PyData.int by rw [List.map_map]; rfl]
    exact sh_ints _
  · show if (!((run.map fun q => PyData.int q.2).any fun z => PyData.eqv z (.int x))) = true then _ else _
    rw [show (run.map fun q => PyData.int q.2) = (run.map (·.2)).map PyData.int by rw [List.map_map]; rfl, any_eqv, List.any_map]
    exact ite_imp (fun h => ⟨_, rfl, h⟩) id hK
  · exact ⟨_, _, rfl, rfl, hR⟩
abbrev s__law_order_right : Stmt := topS 38
abbrev N__law_order_right : List Str := ["hall", "order", "feet", "sizes", "run", "porter", "given", "guest", "pair", "size", "left"]
theorem sc__law_order_right : FnScope N__law_order_right ["hall", "order"] (defScope s__law_order_right) := ⟨rfl, rfl, rfl, by decide +kernel, rfl, by decide +kernel, by decide +kernel⟩
theorem fn__law_order_right {f : Addr} {fd : FuncData} (F : Fun K "_law_order_right" "_law_order_right" s__law_order_right f fd) (B : Bn K mg C) (H_Shelf___init__ : HasC P w K mg base "Shelf" C.Shelf 5 ["self", "sizes"] (c_Shelf___init__ C)) (H_small_run : Has P w K mg base "small_run" 3 ["hall", "order"] c_small_run) (H_Porter___init__ : HasC P w K mg base "Porter" C.Porter 3 ["self", "shelf"] (c_Porter___init__ C)) (HM___call__ : HasM P w K mg base (fun D => D = C.Porter) "__call__" 8 ["self", "value"] (fun _ => c_Porter___call__ C)) (HFN___call__ : ∀ D g, (fun D => D = C.Porter) D → PySem.W.findIn K (.ref D) "__call__" = some (some (.ref g)) → PySem.W.fnIn K g = true) (HM___eq__ : HasM P w K mg base (fun D => D = C.Shelf) "__eq__" 1 ["self", "other"] (fun _ => c_Shelf___eq__ C)) (HM___contains__ : HasM P w K mg base (fun D => D = C.Shelf) "__contains__" 2 ["self", "value"] (fun _ => c_Shelf___contains__ C)) (H_most_served : Has P w K mg base "most_served" 3 ["hall"] c_most_served) (H_served_by : Has P w K mg base "served_by" 1 ["hall", "run"] c_served_by) (HM___add__ : HasM P w K mg base (fun D => D = C.Shelf) "__add__" 7 ["self", "other"] (fun _ => c_Shelf___add__ C)) (H_left_by : Has P w K mg base "left_by" 1 ["hall", "run"] c_left_by) : FnG P w K mg base 9 f fd ["hall", "order"] (spD K 2 (c__law_order_right C)) := by
  refine fnd (k := 8) (c__law_order_right C) F sc__law_order_right fun cdv A outer s H hgd0 hr Y => ?_
  have hu := hr.units
  have hu1 : (A.deeper (envOfC "_law_order_right" (defScope s__law_order_right) s.heap.objs.size f cdv)).units + 65 < cLine := by have := hr.un; omega
  have hu0 : (A.deeper (envOfC "_law_order_right" (defScope s__law_order_right) s.heap.objs.size f cdv)).units + 1 < cLine := by have := hr.un; omega
  have hgd : (A.deeper (envOfC "_law_order_right" (defScope s__law_order_right) s.heap.objs.size f cdv)).guards = some [] := hgd0
  refine ⟨_, (dss_cons (ds_asgG (we_var 0) ⟨(pg_tup rfl (pgs_cons (pg_name (i := 2) sc__law_order_right.nd rfl (Or.inl rfl)) (pgs_cons (pg_name (i := 3) sc__law_order_right.nd rfl (Or.inr rfl)) pgs_nil))), gok_two⟩) (dss_cons (ds_par3W (i := 4) (j := 5) (l := 6) rfl sc__law_order_right.nd rfl rfl rfl (by decide) (by decide) (by decide) rfl rfl rfl (we_has H_small_run hgd (hr.mono (by decide)) (by rfl) (wa_cons (we_var 0) (wa_cons (we_var 1) wa_nil))) (we_hasC takes0 wok0 H_Porter___init__ hgd (hr.mono (by decide)) (by rfl) (wa_cons (we_hasC takes0 wok0 H_Shelf___init__ hgd (hr.mono (by decide)) (by rfl) (wa_cons (we_var 3) wa_nil)) wa_nil)) (we_ofM (me_lst wa_nil)) (by rfl)) (dss_cons (ds_for PassesOwn.never rfl (di_seq (we_var 4)) ⟨(pg_tup rfl (pgs_cons (pg_name (i := 7) sc__law_order_right.nd rfl (Or.inl rfl)) (pgs_cons (pg_name (i := 8) sc__law_order_right.nd rfl (Or.inl rfl)) pgs_nil))), gok_two⟩ (dss_cons (ds_set (i := 9) sc__law_order_right.nd rfl (Or.inl rfl) (xe_d (we_callO (i := 5) takes0 wok0 HM___call__ HFN___call__ hgd (hr.mono (by decide)) rfl (Or.inl rfl) (wa_cons (we_ix (we_var 2) (we_var 7) (fun _ _ => rfl)) wa_nil)))) (dss_cons (ds_if (wt_cmp (or_neA hu) bi_neA (we_var 9) (we_if (wt_cmp op_ge bi_B0 (we_var 8) we_int (nomark _)) (we_ix (we_var 3) (we_var 8) (fun _ _ => rfl)) we_non) (nomark _)) (dss_one (ds_ret we_bl)) dss_nil) (dss_one (ds_set (i := 6) sc__law_order_right.nd rfl (Or.inl rfl) (xe_d (we_bin or_addA bi_add (we_var 6) (we_bin or_mulA bi_mul (we_ofM (me_lst (wa_cons (we_var 9) wa_nil))) (we_callTy call_int1 ck_int (by rfl) B.int PyProof.Rows.boot_int (wa_cons (we_cmp op_notN bi_notN (we_var 9) we_non (nomark _)) wa_nil)))))))))) (dss_cons (ds_set (i := 10) sc__law_order_right.nd rfl (Or.inl rfl) (xe_d (we_hasC takes0 wok0 H_Shelf___init__ hgd (hr.mono (by decide)) (by rfl) (wa_cons (we_callTy call_tuple_of ck_tuple (by rfl) B.tuple PyProof.Rows.boot_tuple (wa_cons (we_ofM (me_compV (own := [("pair", 8)]) rfl sc__law_order_right.nd (di_seqV (we_has H_left_by hgd (hr.mono (by decide)) (by rfl) (wa_cons (we_var 0) (wa_cons (we_var 4) wa_nil)))) (blkOk_by (N := N__law_order_right) (sc := defScope s__law_order_right) (by decide +kernel)) gok_name (fun _ _ _ _ _ => (pg_name (i := 8) sc__law_order_right.nd rfl (Or.inl rfl))) (fun _ _ _ _ _ => wts_nil) (fun _ _ _ _ _ => (we_ix (we_var 3) (we_var 8) (fun _ _ => rfl))) (by decide))) wa_nil)) wa_nil)))) (dss_cons (ds_if (wt_w (ww_or (wt_cmp (or_neA hu) bi_neA (we_fld (we_var 5)) (we_callB call_len_seq ck_len (by rfl) B.len PySem.boot_len (wa_cons (we_var 6) wa_nil)) (nomark _)) (ww_or (wt_cmp (or_neA hu) bi_neA (we_fld (we_var 5)) (we_has H_most_served hgd (hr.mono (by decide)) (by rfl) (wa_cons (we_var 0) wa_nil)) (nomark _)) (ww_or1 (wt_neO takes0 wok0 HM___eq__ hgd (hr.mono (by decide)) rfl hu0 (we_fld (we_var 5)) (we_var 10)))))) (dss_one (ds_ret we_bl)) dss_nil) (dss_cons (ds_if (wt_cmp (or_neA hu) bi_neA (we_callB call_len_seq ck_len (by rfl) B.len PySem.boot_len (wa_cons (we_has H_served_by hgd (hr.mono (by decide)) (by rfl) (wa_cons (we_var 0) (wa_cons (we_var 4) wa_nil))) wa_nil)) (we_callB call_len_seq ck_len (by rfl) B.len PySem.boot_len (wa_cons (we_var 6) wa_nil)) (nomark _)) (dss_one (ds_ret we_bl)) dss_nil) (dss_one (ds_ret (we_and (we_eqO takes0 wok0 HM___eq__ hgd (hr.mono (by decide)) rfl (Nat.lt_of_succ_lt hu0) (we_binO takes0 wok0 HM___add__ hgd (hr.mono (by decide)) rfl (we_fld (we_var 5)) (we_hasC takes0 wok0 H_Shelf___init__ hgd (hr.mono (by decide)) (by rfl) (wa_cons (we_callTy call_tuple_of ck_tuple (by rfl) B.tuple PyProof.Rows.boot_tuple (wa_cons (we_var 6) wa_nil)) wa_nil))) (we_hasC takes0 wok0 H_Shelf___init__ hgd (hr.mono (by decide)) (by rfl) (wa_cons (we_var 3) wa_nil))) (we_one (we_inO takes0 wok0 HM___contains__ hgd (hr.mono (by decide)) rfl (we_hasC takes0 wok0 H_Shelf___init__ hgd (hr.mono (by decide)) (by rfl) (wa_cons (we_callTy call_tuple_of ck_tuple (by rfl) B.tuple PyProof.Rows.boot_tuple (wa_cons (we_var 6) wa_nil)) wa_nil)) (we_hasC takes0 wok0 H_Shelf___init__ hgd (hr.mono (by decide)) (by rfl) (wa_cons (we_var 3) wa_nil))))))))))))), fun as n R hl hc => ?_⟩
  obtain ⟨h, order, rfl, hh, hp, hR⟩ := hc
  obtain ⟨Ft, P⟩ := h
  have hF : In1 (10 ^ 6) Ft := hh.ok.fi
  have hP : In1 (10 ^ 6) P := hh.ok.pi
  have l1 : Ft.length ≤ 20 := hh.l1
  have l2 : P.length ≤ 20 := hh.l2
  have hol : order.length ≤ 100 := by rw [hp.length_eq, intsN_len]; show Ft.length ≤ 100; omega
  have rv := ruled_small Ft P hp
  have rok := rv.ok
  refine ⟨_, rfl, .tuple (Ft.map .int), .tuple (P.map .int), rfl, ?_⟩
  refine ⟨_, rfl, _, rfl, rfl, Ft, P, order, rfl, hh.ok, fun j hj => mem_intsN (hp.mem_iff.mp hj), hol, ?_⟩
  refine ⟨_, rfl, fun b hb => ?_⟩
  refine ⟨b, .tuple (P.map .int), rfl, .tup fun y hy => by obtain ⟨z, _, rfl⟩ := List.mem_map.mp hy; exact .int z, Wo.put_at, fun he => Bool.noConfusion (he.symm.trans (shB_ints hP (by omega))), fun S e _ _ => ⟨rfl, ?_⟩⟩
  obtain rfl := map_int_inj (PyData.tuple.inj e)
  rw [Wo.put_put]
  refine fun a ha => ?_
  have ab : b ≠ a := fun q => by rw [← q, Wo.put_at] at ha; cases ha
  refine ⟨a, b, srt P, rfl, Wo.put_at, (Wo.put_ne ab).trans Wo.put_at, rfl, ?_⟩
  rw [Wo.put_put]
  refine ⟨Nat.zero_le _, ?_⟩
  have hoa : (((n.put b ⟨C.Shelf, shC (srt P)⟩).put a ⟨C.Porter, poF b 0⟩)).ob a = some ⟨C.Porter, poF b 0⟩ := Wo.put_at
  have hob : (((n.put b ⟨C.Shelf, shC (srt P)⟩).put a ⟨C.Porter, poF b 0⟩)).ob b = some ⟨C.Shelf, shC (srt P)⟩ := (Wo.put_ne ab).trans Wo.put_at
  have hN : (((n.put b ⟨C.Shelf, shC (srt P)⟩).put a ⟨C.Porter, poF b 0⟩)).n = n.n := rfl
  generalize ((n.put b ⟨C.Shelf, shC (srt P)⟩).put a ⟨C.Porter, poF b 0⟩) = n1 at hoa hob hN ⊢
  obtain ⟨run, hrun⟩ : ∃ run, run = ruled (getI P) Ft P order := ⟨_, rfl⟩
  rw [← hrun] at rv rok ⊢
  have hrl := rok.len
  refine ⟨_, rfl, run.map prD, rfl, ?_⟩
  refine forR_inv (fun k ρ n' => n'.n = n.n ∧ ∃ (L G : List Int) (b : Addr), Gs (fun x y => getI P x ≤ getI P y) Ft P L (run.drop k) ∧ L.Nodup ∧ (∀ j, j ∈ L ↔ j ∈ intsN P.length ∧ ∀ q ∈ run.take k, q.2 ≠ j) ∧ (L.map (getI P) ++ G).Perm P ∧ G.length = srv (run.take k) ∧ n'.ob a = some ⟨C.Porter, poF b G.length⟩ ∧ n'.ob b = some ⟨C.Shelf, shC (srt (L.map (getI P)))⟩ ∧
      ∃ b7 b8 b9 b10, ρ = [some (.dat (halD (Ft, P))), some (.dat (.tuple (order.map .int))), some (.dat (.tuple (Ft.map .int))), some (.dat (.tuple (P.map .int))), some (.dat (.tuple (run.map prD))), some (.dat (refD a)), some (.dat (.list (G.map .int))), b7, b8, b9, b10])
    ⟨hN, intsN P.length, [], b, rv.s, (intsN_lt _).imp fun h => Int.ne_of_lt h, fun j => by simp, by rw [List.append_nil]; exact List.Perm.of_eq (szL_ints P), rfl, hoa, by rw [show (intsN P.length).map (getI P) = P from szL_ints P]; exact hob, _, _, _, _, rfl⟩ ?_ ?_
  · rintro k y ρ n' hy ⟨hn', L, G, b, gs, nd, hL, hpm, hGl, hoa, hob, b7, b8, b9, b10, rfl⟩
    rw [List.getElem?_map] at hy
    obtain ⟨⟨g, j⟩, hq, rfl⟩ := Option.map_eq_some_iff.mp hy
    have hkl := (List.getElem?_eq_some_iff.mp hq).1
    have hqm := List.mem_of_getElem? hq
    obtain ⟨g0, g1⟩ := rok.fst hqm
    have hdrop : run.drop k = (g, j) :: run.drop (k + 1) := by rw [List.drop_eq_getElem_cons hkl]; rw [(List.getElem?_eq_some_iff.mp hq).2]
    have htake : run.take (k + 1) = run.take k ++ [(g, j)] := by rw [List.take_add_one, hq]; rfl
    have hz := hF (getI Ft g) (by unfold getI; rw [List.getElem?_eq_getElem (show g.toNat < Ft.length by omega)]; exact List.getElem_mem _)
    have hSm : In1 (10 ^ 6) (srt (L.map (getI P))) := fun x hx => hP x (hpm.mem_iff.mp (List.mem_append_left _ (mem_srt.mp hx)))
    have hlen : L.length + G.length = P.length := by have := hpm.length_eq; rw [List.length_append, List.length_map] at this; exact this
    have hSl : (srt (L.map (getI P))).length ≤ 100 := by rw [(srt_perm _).length_eq, List.length_map]; omega
    rw [hdrop] at gs
    refine ⟨_, _, rfl, ?_⟩
    refine ⟨a, rfl, _, rfl, _, rfl, g, _, rfl, atI_get g0 g1, ?_⟩
    refine ⟨_, hoa, rfl, rfl, a, b, _, _, _, rfl, hoa, hob, hSm, hSl, hz.1, hz.2, by omega, by omega, fun hnil => ?_, fun y ys hcons t x ht hx => ?_⟩
    · rcases gs with ⟨hno, hj, gs'⟩ | ⟨hjL, hfit, hbest, gs'⟩
      · have hj : j = -1 := hj
        subst hj
        refine ⟨_, rfl, _, rfl, _, rfl, iteF (A := False) ?_⟩
        refine ⟨rfl, rfl, rfl, rfl, _, rfl, ifN (b := PyData.eqv .none .none) rfl ?_⟩
        refine ⟨_, rfl, _, rfl, by show 1 ≤ sizeLine; decide, _, rfl, rfl, rfl, by decide, by decide, by decide, ?_⟩
        refine ⟨line1000 (by rw [List.length_map]; show G.length + 0 ≤ 1000; omega), hn', L, G, b, gs', nd, fun i => ?_, hpm, by rw [htake, srv_snoc, if_pos rfl]; exact hGl, hoa, hob, some (.dat (.int g)), some (.dat (.int (-1))), some (.dat .none), b10, ?_⟩
        · rw [htake]
          constructor
          · intro hi
            refine ⟨((hL i).mp hi).1, fun q hq' => ?_⟩
            rcases List.mem_append.mp hq' with h | h
            · exact ((hL i).mp hi).2 q h
            · rw [List.mem_singleton.mp h]
              have := mem_intsN ((hL i).mp hi).1
              show (-1 : Int) ≠ i
              omega
          · rintro ⟨hi, ho⟩
            exact (hL i).mpr ⟨hi, fun q hq' => ho q (List.mem_append_left _ hq')⟩
        · show ([_, _, _, _, _, _, some (Dv.dat (.list (G.map PyData.int ++ []))), _, _, _, _] : List (Option Dv)) = _
          rw [List.append_nil]
      · obtain ⟨ys, e⟩ := head_best (f := getI P) hjL (of_decide_eq_true hfit) fun i hi hz' => hbest i hi (decide_eq_true hz')
        rw [e] at hnil
        cases hnil
    · rcases gs with ⟨hno, hj, gs'⟩ | ⟨hjL, hfit, hbest, gs'⟩
      · rw [head_none fun i hi q => by have := hno i hi; unfold fitG at this; exact of_decide_eq_false this q] at hcons
        cases hcons
      · obtain ⟨ys', e⟩ := head_best (f := getI P) hjL (of_decide_eq_true hfit) fun i hi hz' => hbest i hi (decide_eq_true hz')
        rw [e] at hcons
        obtain rfl : getI P j = y := (List.cons.inj hcons).1
        have hjr := mem_intsN ((hL j).mp hjL).1
        refine ⟨_, rfl, _, rfl, _, rfl, iteD hjr.1 ?_⟩
        refine ⟨_, rfl, _, rfl, j, _, rfl, atI_get hjr.1 hjr.2, rfl, rfl, sh_int _, sh_int _, _, rfl, ifN ((eqv_int _ _).trans (decide_eq_true rfl)) ?_⟩
        refine ⟨_, rfl, _, rfl, by show 1 ≤ sizeLine; decide, _, rfl, rfl, rfl, by show -(2 ^ 63 : Int) ≤ 1; decide, by show (1 : Int) < 2 ^ 63; decide, by show 1 * 1 ≤ sizeLine; decide, ?_⟩
        have at' : a ≠ t := fun q => by rw [← q, hoa] at ht; cases ht
        have ax : x ≠ a := fun q => by rw [q, Wo.put_ne at', hoa] at hx; cases hx
        have pe := (List.perm_cons_erase hjL).map (getI P)
        refine ⟨line1000 (by rw [List.length_map]; show G.length + 1 ≤ 1000; omega), hn', L.erase j, G ++ [getI P j], x, gs', nd.erase j, fun i => ?_, ?_, by rw [htake, srv_snoc, if_neg (show j ≠ -1 by omega), List.length_append, hGl]; rfl, ?_, ?_, some (.dat (.int g)), some (.dat (.int j)), some (.dat (.int (getI P j))), b10, ?_⟩
        · rw [htake, nd.mem_erase_iff]
          constructor
          · rintro ⟨hij, hi⟩
            refine ⟨((hL i).mp hi).1, fun q hq' => ?_⟩
            rcases List.mem_append.mp hq' with h | h
            · exact ((hL i).mp hi).2 q h
            · rw [List.mem_singleton.mp h]
              exact fun e => hij e.symm
          · rintro ⟨hi, ho⟩
            exact ⟨fun e => ho (g, j) (List.mem_append_right _ (by simp)) e.symm, (hL i).mpr ⟨hi, fun q hq' => ho q (List.mem_append_left _ hq')⟩⟩
        · refine List.Perm.trans ?_ hpm
          refine List.Perm.trans ?_ ((pe.append_right G).symm)
          rw [List.map_cons, List.cons_append, ← List.append_assoc]
          exact List.perm_append_singleton ..
        · rw [Wo.put_at, List.length_append]
          rfl
        · rw [Wo.put_ne ax, Wo.put_at, srt_erase hjL]
        · show ([_, _, _, _, _, _, some (Dv.dat (.list (G.map PyData.int ++ [PyData.int (getI P j)]))), _, _, _, _] : List (Option Dv)) = _
          rw [List.map_append]
          rfl
  · rintro ρ n' ⟨hn', L, G, b, gs, nd, hL, hpm, hGl, hoa, hob, b7, b8, b9, b10, rfl⟩
    rw [List.length_map, List.take_length] at hGl hL
    have hLL : L.Perm (leftL P.length run) := (List.perm_ext_iff_of_nodup nd leftL_nd).mpr fun j => (hL j).trans leftL_iff.symm
    have hAp : (L.map (getI P)).Perm ((leftL P.length run).map (getI P)) := hLL.map _
    have hlen : L.length + G.length = P.length := by have := hpm.length_eq; rw [List.length_append, List.length_map] at this; exact this
    have hGI : In1 (10 ^ 6) G := fun x hx => hP x (hpm.mem_iff.mp (List.mem_append_right _ hx))
    have hLI : In1 (10 ^ 6) (L.map (getI P)) := fun x hx => hP x (hpm.mem_iff.mp (List.mem_append_left _ hx))
    have hAI : In1 (10 ^ 6) ((leftL P.length run).map (getI P)) := fun x hx => hLI x (hAp.mem_iff.mpr hx)
    have hAl : (leftL P.length run).length ≤ 20 := by rw [← hLL.length_eq]; omega
    refine ⟨_, rfl, _, rfl, rfl, Ft, P, run, rfl, by omega, by omega, _, rfl, ?_⟩
    refine compR_m (leftL P.length run) .int (fun j => .int (getI P j)) (small1000 (by omega)) (fun j hj acc KK ha' hK => ?_) ?_
    · have hjr := mem_intsN (leftL_iff.mp hj).1
      exact ⟨_, rfl, _, rfl, j, _, rfl, atI_get hjr.1 hjr.2, ha', hK⟩
    have eA : (leftL P.length run).map (fun j => PyData.int (getI P j)) = ((leftL P.length run).map (getI P)).map .int := (List.map_map ..).symm
    rw [eA]
    refine ⟨_, _, rfl, rfl, fun x hx => ⟨x, _, rfl, nr_ints _, Wo.put_at, sh_no hAI (by rw [List.length_map]; omega), fun S e _ _ => ⟨rfl, ?_⟩⟩⟩
    obtain rfl := map_int_inj (PyData.tuple.inj e)
    rw [Wo.put_put]
    have hoa1 := keepO (v := ⟨C.Shelf, shC (srt ((leftL P.length run).map (getI P)))⟩) hoa hx
    have hob1 := keepO (v := ⟨C.Shelf, shC (srt ((leftL P.length run).map (getI P)))⟩) hob hx
    have hox1 : (n'.put x ⟨C.Shelf, shC (srt ((leftL P.length run).map (getI P)))⟩).ob x = _ := Wo.put_at
    have hn1' : (n'.put x ⟨C.Shelf, shC (srt ((leftL P.length run).map (getI P)))⟩).n = n.n := hn'
    generalize n'.put x ⟨C.Shelf, shC (srt ((leftL P.length run).map (getI P)))⟩ = n2 at hoa1 hob1 hox1 hn1' ⊢
    refine ⟨_, rfl, a, _, _, rfl, hoa1, B.fl_Porter_served, rfl, _, rfl, _, _, rfl, rfl, rfl, rfl, sh_int _, sh_int _, _, rfl, ifN ((eqv_int _ _).trans (decide_eq_true (by rw [List.length_map]))) ?_⟩
    refine ⟨_, rfl, a, _, _, rfl, hoa1, B.fl_Porter_served, rfl, _, rfl, rfl, Ft, P, rfl, hh.ok, fun m hm => ⟨rfl, rfl, sh_int _, sh_int _, _, rfl, ifN ((eqv_int _ _).trans (decide_eq_true (by rw [hGl]; exact run_small rv hm))) ?_⟩⟩
    refine ⟨_, rfl, a, _, _, rfl, hoa1, B.fl_Porter_left, rfl, _, rfl, b, _, x, _, rfl, rfl, hob1, hox1, rfl, nf_same, B.ne_Shelf, B.mo_Shelf, b, x, _, _, rfl, hob1, hox1, _, rfl, ?_⟩
    refine ⟨_, rfl, ifN (decide_eq_true (srt_eq hAp)) ?_⟩
    refine ⟨_, rfl, _, rfl, rfl, Ft, P, run, rfl, rok, by omega, _, _, rfl, rfl, _, rfl, _, _, rfl, rfl, rfl, rfl, sh_int _, sh_int _, _, rfl, ifN ((eqv_int _ _).trans (decide_eq_true (by rw [List.length_map, List.length_map, shod_len rok, hGl]))) ?_⟩
    refine ⟨_, rfl, a, _, _, rfl, hoa1, B.fl_Porter_left, rfl, _, rfl, _, _, rfl, rfl, fun y hy => ⟨y, _, rfl, nr_ints _, Wo.put_at, sh_no hGI (by omega), fun S e _ _ => ⟨rfl, ?_⟩⟩⟩
    obtain rfl := map_int_inj (PyData.tuple.inj e)
    rw [Wo.put_put]
    have hob2 := keepO (v := ⟨C.Shelf, shC (srt G)⟩) hob1 hy
    have hoy2 : (n2.put y ⟨C.Shelf, shC (srt G)⟩).ob y = _ := Wo.put_at
    have hn2' : (n2.put y ⟨C.Shelf, shC (srt G)⟩).n = n.n := hn1'
    generalize n2.put y ⟨C.Shelf, shC (srt G)⟩ = n3 at hob2 hoy2 hn2' ⊢
    have sG : In1 (10 ^ 6) (srt G) := fun z hz => hGI z (mem_srt.mp hz)
    have sL : In1 (10 ^ 6) (srt (L.map (getI P))) := fun z hz => hLI z (mem_srt.mp hz)
    have sGl : (srt G).length = G.length := (srt_perm G).length_eq
    have sLl : (srt (L.map (getI P))).length = L.length := by rw [(srt_perm _).length_eq, List.length_map]
    refine ⟨b, _, y, _, rfl, rfl, hob2, hoy2, rfl, rfl, B.sf_Shelf, b, y, _, _, rfl, hob2, hoy2, sL, sG, by omega, by omega, fun q => absurd q (by omega), fun _ z hz => ?_⟩
    have hoz3 : (n3.put z ⟨C.Shelf, shC (srt (srt (L.map (getI P)) ++ srt G))⟩).ob z = _ := Wo.put_at
    have hn3' : (n3.put z ⟨C.Shelf, shC (srt (srt (L.map (getI P)) ++ srt G))⟩).n = n.n := hn2'
    generalize n3.put z ⟨C.Shelf, shC (srt (srt (L.map (getI P)) ++ srt G))⟩ = n4 at hoz3 hn3' ⊢
    refine ⟨_, rfl, fun u hu => ⟨u, _, rfl, nr_ints _, Wo.put_at, sh_no hP (by omega), fun S2 e2 _ _ => ⟨rfl, ?_⟩⟩⟩
    obtain rfl := map_int_inj (PyData.tuple.inj e2)
    rw [Wo.put_put]
    have hoz4 := keepO (v := ⟨C.Shelf, shC (srt P)⟩) hoz3 hu
    have hou4 : (n4.put u ⟨C.Shelf, shC (srt P)⟩).ob u = _ := Wo.put_at
    have hn4' : (n4.put u ⟨C.Shelf, shC (srt P)⟩).n = n.n := hn3'
    generalize n4.put u ⟨C.Shelf, shC (srt P)⟩ = n5 at hoz4 hou4 hn4' ⊢
    have eE : srt (srt (L.map (getI P)) ++ srt G) = srt P := srt_eq (((srt_perm _).append (srt_perm _)).trans hpm)
    refine ⟨z, _, u, _, rfl, rfl, hoz4, hou4, rfl, nf_same, z, u, _, _, rfl, hoz4, hou4, _, rfl, asB_T (decide_eq_true eE) ?_⟩
    refine ⟨_, rfl, _, _, rfl, rfl, fun v hv => ⟨v, _, rfl, nr_ints _, Wo.put_at, sh_no hGI (by omega), fun S3 e3 _ _ => ⟨rfl, ?_⟩⟩⟩
    obtain rfl := map_int_inj (PyData.tuple.inj e3)
    rw [Wo.put_put]
    have hov5 : (n5.put v ⟨C.Shelf, shC (srt G)⟩).ob v = _ := Wo.put_at
    have hn5' : (n5.put v ⟨C.Shelf, shC (srt G)⟩).n = n.n := hn4'
    generalize n5.put v ⟨C.Shelf, shC (srt G)⟩ = n6 at hov5 hn5' ⊢
    refine ⟨_, rfl, fun w2 hw => ⟨w2, _, rfl, nr_ints _, Wo.put_at, sh_no hP (by omega), fun S4 e4 _ _ => ⟨rfl, ?_⟩⟩⟩
    obtain rfl := map_int_inj (PyData.tuple.inj e4)
    rw [Wo.put_put]
    have hov6 := keepO (v := ⟨C.Shelf, shC (srt P)⟩) hov5 hw
    have how6 : (n6.put w2 ⟨C.Shelf, shC (srt P)⟩).ob w2 = _ := Wo.put_at
    have hms : missZ (srt P) (srt G) = none := miss_of fun z => by
      rw [(srt_perm P).count_eq, (srt_perm G).count_eq, ← hpm.count_eq, List.count_append]
      omega
    refine ⟨w2, _, rfl, how6, rfl, w2, v, _, _, rfl, how6, hov6, _, rfl, ?_⟩
    rw [hms]
    exact hR _ hn5'
abbrev s_large_run : Stmt := topS 27
abbrev N_large_run : List Str := ["hall", "order", "ranks", "pair", "size", "_"]
theorem sc_large_run : FnScope N_large_run ["hall", "order"] (defScope s_large_run) := ⟨rfl, rfl, rfl, by decide +kernel, rfl, by decide +kernel, by decide +kernel⟩
theorem fn_large_run {f : Addr} {fd : FuncData} (F : Fun K "large_run" "large_run" s_large_run f fd) (B : Bn K mg C) (H_run_by_liking : Has P w K mg base "run_by_liking" 2 ["hall", "order", "liking"] c_run_by_liking) : FnG P w K mg base 3 f fd ["hall", "order"] (spD K 2 c_large_run) := by
  refine fnd (k := 2) c_large_run F sc_large_run fun cdv A outer s H hgd0 hr Y => ?_
  have hu := hr.units
  have hu1 : (A.deeper (envOfC "large_run" (defScope s_large_run) s.heap.objs.size f cdv)).units + 65 < cLine := by have := hr.un; omega
  have hu0 : (A.deeper (envOfC "large_run" (defScope s_large_run) s.heap.objs.size f cdv)).units + 1 < cLine := by have := hr.un; omega
  have hgd : (A.deeper (envOfC "large_run" (defScope s_large_run) s.heap.objs.size f cdv)).guards = some [] := hgd0
  refine ⟨_, (dss_cons (ds_set (i := 2) sc_large_run.nd rfl (Or.inl rfl) (xe_d (we_ofM (me_callB cr_sortedPO ck_sortP (by rfl) B.sorted PyProof.Rows.boot_sorted (wa_cons (we_ofM (me_compV (own := [("pair", 3), ("size", 4)]) rfl sc_large_run.nd (div_of (di_enumA (by rfl) B.enumerate (wa_cons (we_ix (we_var 0) we_int (fun _ _ => rfl)) wa_nil))) (blkOk_by (N := N_large_run) (sc := defScope s_large_run) (by decide +kernel)) gok_two (fun _ _ _ _ _ => (pg_tup rfl (pgs_cons (pg_name (i := 3) sc_large_run.nd rfl (Or.inl rfl)) (pgs_cons (pg_name (i := 4) sc_large_run.nd rfl (Or.inl rfl)) pgs_nil)))) (fun _ _ _ _ _ => wts_nil) (fun _ _ _ _ _ => (we_tup (wa_cons (we_neg (we_var 4)) (wa_cons (we_var 3) wa_nil)))) (by decide))) wa_nil))))) (dss_one (ds_ret (we_has H_run_by_liking hgd (hr.mono (by decide)) (by rfl) (wa_cons (we_var 0) (wa_cons (we_var 1) (wa_cons (we_ofM (me_compV (own := [("_", 5), ("pair", 3)]) rfl sc_large_run.nd (di_seqV (we_var 2)) (blkOk_by (N := N_large_run) (sc := defScope s_large_run) (by decide +kernel)) gok_two (fun _ _ _ _ _ => (pg_tup rfl (pgs_cons (pg_name (i := 5) sc_large_run.nd rfl (Or.inl rfl)) (pgs_cons (pg_name (i := 3) sc_large_run.nd rfl (Or.inl rfl)) pgs_nil)))) (fun _ _ _ _ _ => wts_nil) (fun _ _ _ _ _ => (we_var 3)) (by decide))) wa_nil))))))), fun as n R hl hc => ?_⟩
  obtain ⟨feet, pairs, order, rfl, hh, ho, ho2, hR⟩ := hc
  have hp40 := hh.p2
  have hil : (intsN pairs.length).length = pairs.length := by simp [intsN]
  refine ⟨_, rfl, 1, _, rfl, rfl, _, _, rfl, rfl, ?_⟩
  rw [enum_ints]
  refine compR_m (intsN pairs.length) _ (fun j => prD ((fun j => -getI pairs j) j, j)) (small1000 (by omega)) (fun x hx acc KK ha hK => ⟨_, _, rfl, _, rfl, _, rfl, by show 2 ≤ sizeLine; decide, ha, hK⟩) ?_
  refine ⟨_, (intsN pairs.length).map fun j => ((fun j => -getI pairs j) j, j), rfl, by rw [List.map_map]; rfl, fun qs hp hs => ?_⟩
  have hql : qs.length = pairs.length := by rw [hp.length_eq, List.length_map, hil]
  refine ⟨_, rfl, _, rfl, _, rfl, _, rfl, compR_m qs prD (fun q => .int q.2) (small1000 (by omega)) (fun x hx acc KK ha hK => ⟨_, _, rfl, _, rfl, ha, hK⟩) ?_⟩
  have hp2 : (qs.map (·.2)).Perm (intsN pairs.length) := by
    have := hp.map (·.2)
    rw [List.map_map] at this
    rwa [show ((fun x : Int × Int => x.2) ∘ fun j => ((fun j => -getI pairs j) j, j)) = id from rfl, List.map_id] at this
  have hkey : ∀ q ∈ qs, q.1 = (fun j => -getI pairs j) q.2 := fun q hq => by
    obtain ⟨j, _, rfl⟩ := List.mem_map.mp (hp.mem_iff.mp hq)
    rfl
  refine ⟨rfl, feet, pairs, order, qs.map (·.2), by rw [List.map_map]; rfl, ho, fun j hj => mem_intsN (hp2.mem_iff.mp hj), ho2, by rw [List.length_map]; omega, ?_⟩
  rw [run_same (fun j => -getI pairs j) feet pairs order _ (intsN pairs.length) [] hp2 ?_ (intsN_lt _) fun x hx => (mem_intsN hx).1]
  · exact hR
  · rw [List.pairwise_map]
    refine hs.imp_of_mem fun {a b} ha hb h => ?_
    rw [hkey a ha, hkey b hb] at h
    exact h
/-- a def of the module with any promise -/
def HasS (P : Program) (w : World) (K : PySem.W.Frag) (mg : Str → Option Value) (base : Heap) (x : Str) (k : Nat) (ps : List Str) (sp : Sp) : Prop :=
  ∃ f fd, mg x = some (.ref f) ∧ PySem.W.keepIn K (.ref f) = true ∧ Binds K fd ps [] ∧ FnG P w K mg base k f fd ps sp
theorem pe_hasS {X : Cx} {k : Nat} {ps : List Str} {sp : Sp} {x : Str} {p pos : Pos} {e : Expr} {es : List Expr} {t : TA} (h : HasS X.prog X.w X.K X.mg X.base x k ps sp) (hgd : X.A.guards = some []) (hr : Room k X.A) (hg : Gl X x)
    (ha : PA X (e :: es) t) (hdb : (x == ("__debug__" : Str)) = false := by decide) (he : starEach (e :: es) X.env = (false, eval e X.env) :: starEach es X.env := by rfl) (hpl : (backTo pos (starEach es X.env)).any (·.1) = false := by rfl) :
    PE X (.Call (.Name x p) (e :: es) [] pos) (fun σ H Q => t σ H fun vs H1 => sp vs H1 Q E0) := by
  obtain ⟨f, fd, h1, h2, h3, h4⟩ := h
  exact pe_callg h4 hgd hr hg h1 h2 h3 ha hdb he hpl
theorem spDeckA_ok {K : PySem.W.Frag} (a : Addr) (ns : List Int) (H : Hp) (Q : VK) (hS : SqL K H a (ns.map V.int)) (hl : ns.length ≤ 63)
    (k : ∀ (H' : Hp) (δ : DkS) (p : Addr), Same H H' → IsDk false δ p → δ.at0 H' 0 → (∀ b, b ∈ δ.own → H' b ≠ none) → Q (.ref p) H') : spDeckA K [.ref a] H Q E0 :=
  ⟨a, ns, rfl, hS, hl, fun H' p q s _ _ hat => k H' (dkA p q) p s ⟨q, rfl⟩ hat fun b hb => by
    obtain ⟨cells, h1, h2, _⟩ := hat
    simp only [dkA, List.mem_cons, List.not_mem_nil, or_false] at hb
    rcases hb with rfl | rfl
    · rw [h1]; nofun
    · rw [h2]; nofun⟩
abbrev s_law : Stmt := topS 39
abbrev N_law : List Str := ["script", "deck", "turn", "hall", "guests", "order", "guest", "foot"]
theorem sc_law : FnScope N_law ["script"] (defScope s_law) := ⟨rfl, rfl, rfl, by decide +kernel, rfl, by decide +kernel, by decide +kernel⟩
theorem fn_law {f : Addr} {fd : FuncData} (F : Fun K "law" "law" s_law f fd) (B : Bn K mg C) (HD : HasS P w K mg base "_law_deck" 1 ["script"] (spDeckA K)) (H__law_hall : Has P w K mg base "_law_hall" 2 ["deck", "guests", "pairs"] c__law_hall) (H__law_mixed : Has P w K mg base "_law_mixed" 2 ["deck", "items"] c__law_mixed) (H_fewest_served : Has P w K mg base "fewest_served" 3 ["hall"] c_fewest_served) (H__law_order_right : Has P w K mg base "_law_order_right" 9 ["hall", "order"] (c__law_order_right C)) (H_served_by : Has P w K mg base "served_by" 1 ["hall", "run"] c_served_by) (H_large_run : Has P w K mg base "large_run" 3 ["hall", "order"] c_large_run) : FnG P w K mg base 10 f fd ["script"] (spLaw K) := by
  refine law_start (N := N_law) (k := 9) (m := 6) (kd := false) (spD0 := spDeckA) F sc_law rfl rfl spDeckA_ok fun cdv A outer s H hgd0 hr => ?_
  have hu := hr.units
  have hu1 : (A.deeper (envOfC "law" (defScope s_law) s.heap.objs.size f cdv)).units + 65 < cLine := by have := hr.un; omega
  have hu0 : (A.deeper (envOfC "law" (defScope s_law) s.heap.objs.size f cdv)).units + 1 < cLine := by have := hr.un; omega
  have hgd : (A.deeper (envOfC "law" (defScope s_law) s.heap.objs.size f cdv)).guards = some [] := hgd0
  refine ⟨ps_set (i := 1) sc_law.nd rfl (Or.inl rfl) (pe_hasS HD hgd (hr.mono (by decide)) (by rfl) (pa_cons (pv 0) pa_nil)), fun Y => ⟨_, (dss_cons (ds_for PassesOwn.never rfl (di_range1 (by rfl) B.range (wa_cons we_int wa_nil)) ⟨(pg_name (i := 2) sc_law.nd rfl (Or.inl rfl)), gok_name⟩ (dss_cons (ds_set (i := 3) sc_law.nd rfl (Or.inr rfl) (xe_d (we_has H__law_hall hgd (hr.mono (by decide)) (by rfl) (wa_cons (we_var 1) (wa_cons (we_ix (we_ofM (me_lst (wa_cons we_int (wa_cons we_int wa_nil)))) (we_bin op_mod bi_I (we_var 2) we_int) (fun _ _ => rfl)) (wa_cons (we_ix (we_ofM (me_lst (wa_cons we_int (wa_cons we_int wa_nil)))) (we_bin op_mod bi_I (we_var 2) we_int) (fun _ _ => rfl)) wa_nil)))))) (dss_cons (ds_set (i := 4) sc_law.nd rfl (Or.inl rfl) (xe_d (we_ofM (me_listRg rfl (by rfl) B.list (wr_1 (by rfl) B.range (we_callB call_len_seq ck_len (by rfl) B.len PySem.boot_len (wa_cons (we_ix (we_var 3) we_int (fun _ _ => rfl)) wa_nil))))))) (dss_cons (ds_for PassesOwn.never rfl (di_seq (we_ofM (me_lst (wa_cons (we_callTy call_tuple_of ck_tuple (by rfl) B.tuple PyProof.Rows.boot_tuple (wa_cons (we_var 4) wa_nil)) (wa_cons (we_callTy call_tuple_of ck_tuple (by rfl) B.tuple PyProof.Rows.boot_tuple (wa_cons (we_revL (we_var 4)) wa_nil)) (wa_cons (we_has H__law_mixed hgd (hr.mono (by decide)) (by rfl) (wa_cons (we_var 1) (wa_cons (we_var 4) wa_nil))) wa_nil)))))) ⟨(pg_name (i := 5) sc_law.nd rfl (Or.inl rfl)), gok_name⟩ (dss_one (ds_if (wt_not (wt_val (we_has H__law_order_right hgd (hr.mono (by decide)) (by rfl) (wa_cons (we_var 3) (wa_cons (we_var 5) wa_nil))))) (dss_one (ds_ret we_bl)) dss_nil))) (dss_cons (ds_set (i := 5) sc_law.nd rfl (Or.inl rfl) (xe_d (we_callTy call_tuple_of ck_tuple (by rfl) B.tuple PyProof.Rows.boot_tuple (wa_cons (we_ofM (me_compV (own := [("foot", 7), ("guest", 6)]) rfl sc_law.nd (di_seqV (we_ofM (me_callB cr_sortedPO ck_sortP (by rfl) B.sorted PyProof.Rows.boot_sorted (wa_cons (we_ofM (me_compV (own := [("guest", 6)]) rfl sc_law.nd (di_seqV (we_var 4)) (blkOk_by (N := N_law) (sc := defScope s_law) (by decide +kernel)) gok_name (fun _ _ _ _ _ => (pg_name (i := 6) sc_law.nd rfl (Or.inl rfl))) (fun _ _ _ _ _ => wts_nil) (fun _ _ _ _ _ => (we_tup (wa_cons (we_ix (we_ix (we_var 3) we_int (fun _ _ => rfl)) (we_var 6) (fun _ _ => rfl)) (wa_cons (we_var 6) wa_nil)))) (by decide))) wa_nil)))) (blkOk_by (N := N_law) (sc := defScope s_law) (by decide +kernel)) gok_two (fun _ _ _ _ _ => (pg_tup rfl (pgs_cons (pg_name (i := 7) sc_law.nd rfl (Or.inl rfl)) (pgs_cons (pg_name (i := 6) sc_law.nd rfl (Or.inl rfl)) pgs_nil)))) (fun _ _ _ _ _ => wts_nil) (fun _ _ _ _ _ => (we_var 6)) (by decide))) wa_nil)))) (dss_one (ds_if (wt_cmp (or_neA hu) bi_neA (we_callB call_len_seq ck_len (by rfl) B.len PySem.boot_len (wa_cons (we_has H_served_by hgd (hr.mono (by decide)) (by rfl) (wa_cons (we_var 3) (wa_cons (we_has H_large_run hgd (hr.mono (by decide)) (by rfl) (wa_cons (we_var 3) (wa_cons (we_var 5) wa_nil))) wa_nil))) wa_nil)) (we_has H_fewest_served hgd (hr.mono (by decide)) (by rfl) (wa_cons (we_var 3) wa_nil)) (nomark _)) (dss_one (ds_ret we_bl)) dss_nil))))))) (dss_one (ds_ret we_bl))), ?_⟩⟩
  refine ⟨8, rfl, by decide, by decide, forR_inv (fun k ρ n => n.n ≤ k * 300 ∧ ∃ b2 b3 b4 b5 b6 b7, ρ = [none, some (.deck false), b2, b3, b4, b5, b6, b7])
    ⟨Nat.zero_le _, _, _, _, _, _, _, rfl⟩ ?_ ?_⟩
  · rintro k y ρ n hy ⟨hn, b2, b3, b4, b5, b6, b7, rfl⟩
    obtain ⟨rfl, hk⟩ := rngD_mem hy
    have hk : k < 8 := hk
    obtain ⟨d0, hd0, hd02⟩ := pick2 (a := .int 20) (b := .int 6) (r := (0 + (k : Int)) % 2) (by omega) (by omega)
    obtain ⟨d1, hd1, hd12⟩ := pick2 (a := .int 20) (b := .int 7) (r := (0 + (k : Int)) % 2) (by omega) (by omega)
    obtain ⟨g, rfl, m1, m2⟩ : ∃ g : Int, d0 = .int g ∧ 1 ≤ g ∧ g ≤ 20 := by
      rcases hd02 with rfl | rfl
      · exact ⟨_, rfl, by decide, by decide⟩
      · exact ⟨_, rfl, by decide, by decide⟩
    obtain ⟨q, rfl, m3, m4⟩ : ∃ g : Int, d1 = .int g ∧ 0 ≤ g ∧ g ≤ 20 := by
      rcases hd12 with rfl | rfl
      · exact ⟨_, rfl, by decide, by decide⟩
      · exact ⟨_, rfl, by decide, by decide⟩
    refine ⟨_, rfl, by show 2 ≤ sizeLine; decide, _, rfl, (by decide : (0 : Int) < 2), _, _, rfl, hd0, ?_⟩
    refine ⟨by show 2 ≤ sizeLine; decide, _, rfl, (by decide : (0 : Int) < 2), _, _, rfl, hd1, rfl, g, q, rfl, m1, m2, m3, m4, by omega, fun h n1 hh hn1 => ?_⟩
    have hn1' : n1.n ≤ n.n + 100 := hn1.1
    have l1 := hh.l1
    have l2 := hh.l2
    refine ⟨_, rfl, 0, _, rfl, rfl, _, _, rfl, rfl, _, rfl, ⟨by decide, by decide, by omega, by rw [List.length_map]; omega⟩, ?_⟩
    have eg : rngD 0 ((((h.1.map PyData.int).length : Nat) : Int) - 0).toNat = (intsN h.1.length).map PyData.int := by
      rw [Int.sub_zero, List.length_map]; exact rng_ints _
    rw [eg]
    refine ⟨_, rfl, _, _, rfl, rfl, _, rfl, _, rfl, _, _, rfl, rfl, _, rfl, _, rfl, rfl, intsN h.1.length, rfl, by rw [intsN_len]; omega, by omega, fun T n2 hT hn2 => ?_⟩
    have hn2' : n2.n ≤ n1.n + 100 := hn2.1
    refine ⟨by show 3 ≤ sizeLine; decide, _, rfl, ?_⟩
    refine forR_inv (fun _ ρ n' => n'.n = n2.n ∧ ∃ b5 b6 b7, ρ = [none, some (.deck false), some (.dat (.int (0 + k))), some (.dat (halD h)), some (.dat (.list ((intsN h.1.length).map .int))), b5, b6, b7]) ⟨rfl, _, _, _, rfl⟩ ?_ ?_
    · rintro k' y ρ n3 hy ⟨hn3, b5, b6, b7, rfl⟩
      obtain ⟨S, rfl, hS⟩ : ∃ S : List Int, y = .tuple (S.map .int) ∧ S.Perm (intsN h.1.length) := by
        have hy := List.mem_of_getElem? hy
        simp only [List.mem_cons, List.not_mem_nil, or_false] at hy
        rcases hy with rfl | rfl | rfl
        · exact ⟨_, rfl, .refl _⟩
        · exact ⟨(intsN h.1.length).reverse, by rw [List.map_reverse], List.reverse_perm _⟩
        · exact ⟨T, rfl, hT⟩
      refine ⟨_, rfl, _, rfl, rfl, h, S, rfl, hh, hS, fun n4 hn4 => ⟨_, rfl, iteF (A := False) ⟨hn4.trans hn3, _, _, _, rfl⟩⟩⟩
    · rintro ρ n3 ⟨hn3, b5, b6, b7, rfl⟩
      refine ⟨_, rfl, _, rfl, ?_⟩
      refine compR_m (intsN h.1.length) PyData.int (fun j => prD (getI h.1 j, j)) (small1000 (by rw [intsN_len]; omega)) (fun x hx acc KK ha hK => ?_) ?_
      · have hxr := mem_intsN hx
        refine ⟨_, rfl, 0, _, rfl, rfl, _, rfl, x, _, rfl, atI_get hxr.1 hxr.2, _, rfl, by show 2 ≤ sizeLine; decide, ha, hK⟩
      refine ⟨_, (intsN h.1.length).map fun j => (getI h.1 j, j), rfl, by rw [List.map_map]; rfl, fun qs hp hs => ?_⟩
      have hql : qs.length = h.1.length := by rw [hp.length_eq, List.length_map, intsN_len]
      refine ⟨_, rfl, compR_m qs prD (fun q => .int q.2) (small1000 (by omega)) (fun x hx acc KK ha hK => ⟨_, _, rfl, _, rfl, ha, hK⟩) ?_⟩
      have e : (qs.map fun q => PyData.int q.2) = (obf h.1).map PyData.int := by
        unfold obf
        rw [← like_of hp hs, List.map_map]
        rfl
      rw [e]
      have op := obf_perm h.1
      have rv := ruled_large h.1 h.2 op
      have rok := rv.ok
      refine ⟨_, _, rfl, rfl, _, rfl, _, rfl, _, rfl, rfl, h.1, h.2, obf h.1, rfl, hh.ok, fun j hj => mem_intsN (op.mem_iff.mp hj), by rw [op.length_eq, intsN_len]; omega, ?_⟩
      refine ⟨rfl, h.1, h.2, _, rfl, rok, by omega, _, _, rfl, rfl, _, rfl, rfl, h.1, h.2, rfl, hh.ok, fun m hm => ⟨rfl, rfl, sh_int _, sh_int _, _, rfl, ifN ((eqv_int _ _).trans (decide_eq_true ?_)) ⟨by omega, _, _, _, _, _, _, rfl⟩⟩⟩
      rw [List.length_map, shod_len rok]
      exact obf_few h.1 h.2 hm
  · rintro ρ' n' ⟨_, _, _, _, _, _, _, rfl⟩
    exact rfl
end
theorem all_mk {l : PySem.W.OpenLaw} {w : World} {K : PySem.W.Frag} {h : Heap} {mg : Str → Option Value} {fa : Addr} {C : CA} (X : K.In h) (G : h.Ns mainGlobals mg) (hfa : mg "law" = some (.ref fa))
    {f0 : Addr} {od0 an0 : Option Addr} {sl0 : Array (Option Value)} {oc0 kV0 dc0 pm0 cd0 ct0 : Value}
    (a0 : PySem.W.nsIn K mainGlobals "_law_deck" = some (some (.ref f0)))
    (l0 : K.lookup f0 = some ⟨oc0, od0, .func (PySem.W.fnOf "_law_deck" "_law_deck" (defArgs s__law_deck) (defBody s__law_deck) (defScope s__law_deck) .none kV0 dc0 pm0 an0 cd0 ct0), sl0⟩) (c0 : PySem.W.codeIn K cd0 "_law_deck" = true) (k0 : PySem.W.keepIn K (.ref f0) = true)
    {f1 : Addr} {od1 an1 : Option Addr} {sl1 : Array (Option Value)} {oc1 kV1 dc1 pm1 cd1 ct1 : Value}
    (a1 : PySem.W.nsIn K mainGlobals "_law_draw" = some (some (.ref f1)))
    (l1 : K.lookup f1 = some ⟨oc1, od1, .func (PySem.W.fnOf "_law_draw" "_law_draw" (defArgs s__law_draw) (defBody s__law_draw) (defScope s__law_draw) .none kV1 dc1 pm1 an1 cd1 ct1), sl1⟩) (c1 : PySem.W.codeIn K cd1 "_law_draw" = true) (k1 : PySem.W.keepIn K (.ref f1) = true)
    {f2 : Addr} {od2 an2 : Option Addr} {sl2 : Array (Option Value)} {oc2 kV2 dc2 pm2 cd2 ct2 : Value}
    (a2 : PySem.W.nsIn K mainGlobals "_law_hall" = some (some (.ref f2)))
    (l2 : K.lookup f2 = some ⟨oc2, od2, .func (PySem.W.fnOf "_law_hall" "_law_hall" (defArgs s__law_hall) (defBody s__law_hall) (defScope s__law_hall) .none kV2 dc2 pm2 an2 cd2 ct2), sl2⟩) (c2 : PySem.W.codeIn K cd2 "_law_hall" = true) (k2 : PySem.W.keepIn K (.ref f2) = true)
    {f3 : Addr} {od3 an3 : Option Addr} {sl3 : Array (Option Value)} {oc3 kV3 dc3 pm3 cd3 ct3 : Value}
    (a3 : PySem.W.nsIn K mainGlobals "_law_mixed" = some (some (.ref f3)))
    (l3 : K.lookup f3 = some ⟨oc3, od3, .func (PySem.W.fnOf "_law_mixed" "_law_mixed" (defArgs s__law_mixed) (defBody s__law_mixed) (defScope s__law_mixed) .none kV3 dc3 pm3 an3 cd3 ct3), sl3⟩) (c3 : PySem.W.codeIn K cd3 "_law_mixed" = true) (k3 : PySem.W.keepIn K (.ref f3) = true)
    {f4 : Addr} {od4 an4 : Option Addr} {sl4 : Array (Option Value)} {oc4 kV4 dc4 pm4 cd4 ct4 : Value}
    (a4 : PySem.W.nsIn K mainGlobals "counts_at" = some (some (.ref f4)))
    (l4 : K.lookup f4 = some ⟨oc4, od4, .func (PySem.W.fnOf "counts_at" "counts_at" (defArgs s_counts_at) (defBody s_counts_at) (defScope s_counts_at) .none kV4 dc4 pm4 an4 cd4 ct4), sl4⟩) (c4 : PySem.W.codeIn K cd4 "counts_at" = true) (k4 : PySem.W.keepIn K (.ref f4) = true)
    {f5 : Addr} {od5 an5 : Option Addr} {sl5 : Array (Option Value)} {oc5 kV5 dc5 pm5 cd5 ct5 : Value}
    (a5 : PySem.W.nsIn K mainGlobals "_foot_sizes" = some (some (.ref f5)))
    (l5 : K.lookup f5 = some ⟨oc5, od5, .func (PySem.W.fnOf "_foot_sizes" "_foot_sizes" (defArgs s__foot_sizes) (defBody s__foot_sizes) (defScope s__foot_sizes) .none kV5 dc5 pm5 an5 cd5 ct5), sl5⟩) (c5 : PySem.W.codeIn K cd5 "_foot_sizes" = true) (k5 : PySem.W.keepIn K (.ref f5) = true)
    {f6 : Addr} {od6 an6 : Option Addr} {sl6 : Array (Option Value)} {oc6 kV6 dc6 pm6 cd6 ct6 : Value}
    (a6 : PySem.W.nsIn K mainGlobals "_deciding_sizes" = some (some (.ref f6)))
    (l6 : K.lookup f6 = some ⟨oc6, od6, .func (PySem.W.fnOf "_deciding_sizes" "_deciding_sizes" (defArgs s__deciding_sizes) (defBody s__deciding_sizes) (defScope s__deciding_sizes) .none kV6 dc6 pm6 an6 cd6 ct6), sl6⟩) (c6 : PySem.W.codeIn K cd6 "_deciding_sizes" = true) (k6 : PySem.W.keepIn K (.ref f6) = true)
    {f7 : Addr} {od7 an7 : Option Addr} {sl7 : Array (Option Value)} {oc7 kV7 dc7 pm7 cd7 ct7 : Value}
    (a7 : PySem.W.nsIn K mainGlobals "fewest_served" = some (some (.ref f7)))
    (l7 : K.lookup f7 = some ⟨oc7, od7, .func (PySem.W.fnOf "fewest_served" "fewest_served" (defArgs s_fewest_served) (defBody s_fewest_served) (defScope s_fewest_served) .none kV7 dc7 pm7 an7 cd7 ct7), sl7⟩) (c7 : PySem.W.codeIn K cd7 "fewest_served" = true) (k7 : PySem.W.keepIn K (.ref f7) = true)
    {f8 : Addr} {od8 an8 : Option Addr} {sl8 : Array (Option Value)} {oc8 kV8 dc8 pm8 cd8 ct8 : Value}
    (a8 : PySem.W.nsIn K mainGlobals "is_tuple" = some (some (.ref f8)))
    (l8 : K.lookup f8 = some ⟨oc8, od8, .func (PySem.W.fnOf "is_tuple" "is_tuple" (defArgs s_is_tuple) (defBody s_is_tuple) (defScope s_is_tuple) .none kV8 dc8 pm8 an8 cd8 ct8), sl8⟩) (c8 : PySem.W.codeIn K cd8 "is_tuple" = true) (k8 : PySem.W.keepIn K (.ref f8) = true)
    {f9 : Addr} {od9 an9 : Option Addr} {sl9 : Array (Option Value)} {oc9 kV9 dc9 pm9 cd9 ct9 : Value}
    (a9 : PySem.W.nsIn K mainGlobals "is_number" = some (some (.ref f9)))
    (l9 : K.lookup f9 = some ⟨oc9, od9, .func (PySem.W.fnOf "is_number" "is_number" (defArgs s_is_number) (defBody s_is_number) (defScope s_is_number) .none kV9 dc9 pm9 an9 cd9 ct9), sl9⟩) (c9 : PySem.W.codeIn K cd9 "is_number" = true) (k9 : PySem.W.keepIn K (.ref f9) = true)
    {f10 : Addr} {od10 an10 : Option Addr} {sl10 : Array (Option Value)} {oc10 kV10 dc10 pm10 cd10 ct10 : Value}
    (a10 : PySem.W.nsIn K mainGlobals "is_number_from" = some (some (.ref f10)))
    (l10 : K.lookup f10 = some ⟨oc10, od10, .func (PySem.W.fnOf "is_number_from" "is_number_from" (defArgs s_is_number_from) (defBody s_is_number_from) (defScope s_is_number_from) .none kV10 dc10 pm10 an10 cd10 ct10), sl10⟩) (c10 : PySem.W.codeIn K cd10 "is_number_from" = true) (k10 : PySem.W.keepIn K (.ref f10) = true)
    {f11 : Addr} {od11 an11 : Option Addr} {sl11 : Array (Option Value)} {oc11 kV11 dc11 pm11 cd11 ct11 : Value}
    (a11 : PySem.W.nsIn K mainGlobals "is_size" = some (some (.ref f11)))
    (l11 : K.lookup f11 = some ⟨oc11, od11, .func (PySem.W.fnOf "is_size" "is_size" (defArgs s_is_size) (defBody s_is_size) (defScope s_is_size) .none kV11 dc11 pm11 an11 cd11 ct11), sl11⟩) (c11 : PySem.W.codeIn K cd11 "is_size" = true) (k11 : PySem.W.keepIn K (.ref f11) = true)
    {f12 : Addr} {od12 an12 : Option Addr} {sl12 : Array (Option Value)} {oc12 kV12 dc12 pm12 cd12 ct12 : Value}
    (a12 : PySem.W.nsIn K mainGlobals "_is_tuple_of_sizes" = some (some (.ref f12)))
    (l12 : K.lookup f12 = some ⟨oc12, od12, .func (PySem.W.fnOf "_is_tuple_of_sizes" "_is_tuple_of_sizes" (defArgs s__is_tuple_of_sizes) (defBody s__is_tuple_of_sizes) (defScope s__is_tuple_of_sizes) .none kV12 dc12 pm12 an12 cd12 ct12), sl12⟩) (c12 : PySem.W.codeIn K cd12 "_is_tuple_of_sizes" = true) (k12 : PySem.W.keepIn K (.ref f12) = true)
    {f13 : Addr} {od13 an13 : Option Addr} {sl13 : Array (Option Value)} {oc13 kV13 dc13 pm13 cd13 ct13 : Value}
    (a13 : PySem.W.nsIn K mainGlobals "_fitting" = some (some (.ref f13)))
    (l13 : K.lookup f13 = some ⟨oc13, od13, .func (PySem.W.fnOf "_fitting" "_fitting" (defArgs s__fitting) (defBody s__fitting) (defScope s__fitting) .none kV13 dc13 pm13 an13 cd13 ct13), sl13⟩) (c13 : PySem.W.codeIn K cd13 "_fitting" = true) (k13 : PySem.W.keepIn K (.ref f13) = true)
    {f14 : Addr} {od14 an14 : Option Addr} {sl14 : Array (Option Value)} {oc14 kV14 dc14 pm14 cd14 ct14 : Value}
    (a14 : PySem.W.nsIn K mainGlobals "run_by_liking" = some (some (.ref f14)))
    (l14 : K.lookup f14 = some ⟨oc14, od14, .func (PySem.W.fnOf "run_by_liking" "run_by_liking" (defArgs s_run_by_liking) (defBody s_run_by_liking) (defScope s_run_by_liking) .none kV14 dc14 pm14 an14 cd14 ct14), sl14⟩) (c14 : PySem.W.codeIn K cd14 "run_by_liking" = true) (k14 : PySem.W.keepIn K (.ref f14) = true)
    {f15 : Addr} {od15 an15 : Option Addr} {sl15 : Array (Option Value)} {oc15 kV15 dc15 pm15 cd15 ct15 : Value}
    (a15 : PySem.W.nsIn K mainGlobals "small_run" = some (some (.ref f15)))
    (l15 : K.lookup f15 = some ⟨oc15, od15, .func (PySem.W.fnOf "small_run" "small_run" (defArgs s_small_run) (defBody s_small_run) (defScope s_small_run) .none kV15 dc15 pm15 an15 cd15 ct15), sl15⟩) (c15 : PySem.W.codeIn K cd15 "small_run" = true) (k15 : PySem.W.keepIn K (.ref f15) = true)
    {f16 : Addr} {od16 an16 : Option Addr} {sl16 : Array (Option Value)} {oc16 kV16 dc16 pm16 cd16 ct16 : Value}
    (a16 : PySem.W.nsIn K mainGlobals "_first_missing" = some (some (.ref f16)))
    (l16 : K.lookup f16 = some ⟨oc16, od16, .func (PySem.W.fnOf "_first_missing" "_first_missing" (defArgs s__first_missing) (defBody s__first_missing) (defScope s__first_missing) .none kV16 dc16 pm16 an16 cd16 ct16), sl16⟩) (c16 : PySem.W.codeIn K cd16 "_first_missing" = true) (k16 : PySem.W.keepIn K (.ref f16) = true)
    {f17 : Addr} {od17 an17 : Option Addr} {sl17 : Array (Option Value)} {oc17 kV17 dc17 pm17 cd17 ct17 : Value}
    (a17 : PySem.W.nsIn K mainGlobals "most_served" = some (some (.ref f17)))
    (l17 : K.lookup f17 = some ⟨oc17, od17, .func (PySem.W.fnOf "most_served" "most_served" (defArgs s_most_served) (defBody s_most_served) (defScope s_most_served) .none kV17 dc17 pm17 an17 cd17 ct17), sl17⟩) (c17 : PySem.W.codeIn K cd17 "most_served" = true) (k17 : PySem.W.keepIn K (.ref f17) = true)
    {f18 : Addr} {od18 an18 : Option Addr} {sl18 : Array (Option Value)} {oc18 kV18 dc18 pm18 cd18 ct18 : Value}
    (a18 : PySem.W.nsIn K mainGlobals "served_by" = some (some (.ref f18)))
    (l18 : K.lookup f18 = some ⟨oc18, od18, .func (PySem.W.fnOf "served_by" "served_by" (defArgs s_served_by) (defBody s_served_by) (defScope s_served_by) .none kV18 dc18 pm18 an18 cd18 ct18), sl18⟩) (c18 : PySem.W.codeIn K cd18 "served_by" = true) (k18 : PySem.W.keepIn K (.ref f18) = true)
    {f19 : Addr} {od19 an19 : Option Addr} {sl19 : Array (Option Value)} {oc19 kV19 dc19 pm19 cd19 ct19 : Value}
    (a19 : PySem.W.nsIn K mainGlobals "left_by" = some (some (.ref f19)))
    (l19 : K.lookup f19 = some ⟨oc19, od19, .func (PySem.W.fnOf "left_by" "left_by" (defArgs s_left_by) (defBody s_left_by) (defScope s_left_by) .none kV19 dc19 pm19 an19 cd19 ct19), sl19⟩) (c19 : PySem.W.codeIn K cd19 "left_by" = true) (k19 : PySem.W.keepIn K (.ref f19) = true)
    {f20 : Addr} {od20 an20 : Option Addr} {sl20 : Array (Option Value)} {oc20 kV20 dc20 pm20 cd20 ct20 : Value}
    (a20 : PySem.W.nsIn K mainGlobals "_law_order_right" = some (some (.ref f20)))
    (l20 : K.lookup f20 = some ⟨oc20, od20, .func (PySem.W.fnOf "_law_order_right" "_law_order_right" (defArgs s__law_order_right) (defBody s__law_order_right) (defScope s__law_order_right) .none kV20 dc20 pm20 an20 cd20 ct20), sl20⟩) (c20 : PySem.W.codeIn K cd20 "_law_order_right" = true) (k20 : PySem.W.keepIn K (.ref f20) = true)
    {f21 : Addr} {od21 an21 : Option Addr} {sl21 : Array (Option Value)} {oc21 kV21 dc21 pm21 cd21 ct21 : Value}
    (a21 : PySem.W.nsIn K mainGlobals "large_run" = some (some (.ref f21)))
    (l21 : K.lookup f21 = some ⟨oc21, od21, .func (PySem.W.fnOf "large_run" "large_run" (defArgs s_large_run) (defBody s_large_run) (defScope s_large_run) .none kV21 dc21 pm21 an21 cd21 ct21), sl21⟩) (c21 : PySem.W.codeIn K cd21 "large_run" = true) (k21 : PySem.W.keepIn K (.ref f21) = true)
    {f22 : Addr} {od22 an22 : Option Addr} {sl22 : Array (Option Value)} {oc22 kV22 dc22 pm22 cd22 ct22 : Value}
    (a22 : PySem.W.nsIn K mainGlobals "law" = some (some (.ref f22)))
    (l22 : K.lookup f22 = some ⟨oc22, od22, .func (PySem.W.fnOf "law" "law" (defArgs s_law) (defBody s_law) (defScope s_law) .none kV22 dc22 pm22 an22 cd22 ct22), sl22⟩) (c22 : PySem.W.codeIn K cd22 "law" = true) (k22 : PySem.W.keepIn K (.ref f22) = true)
    {f23 : Addr} {od23 an23 : Option Addr} {sl23 : Array (Option Value)} {oc23 kV23 dc23 pm23 cd23 ct23 : Value}
    (a23 : PySem.W.findIn K (.ref C.Shelf) "__init__" = some (some (.ref f23))) (fn23 : PySem.W.isFn K (.ref f23) = true)
    (l23 : K.lookup f23 = some ⟨oc23, od23, .func (PySem.W.fnOf "__init__" "Shelf.__init__" (defArgs s_Shelf___init__) (defBody s_Shelf___init__) (defScope s_Shelf___init__) .none kV23 dc23 pm23 an23 cd23 ct23), sl23⟩) (c23 : PySem.W.codeIn K cd23 "Shelf.__init__" = true) (k23 : PySem.W.keepIn K (.ref f23) = true)
    {f24 : Addr} {od24 an24 : Option Addr} {sl24 : Array (Option Value)} {oc24 kV24 dc24 pm24 cd24 ct24 : Value}
    (a24 : PySem.W.findIn K (.ref C.Porter) "__init__" = some (some (.ref f24))) (fn24 : PySem.W.isFn K (.ref f24) = true)
    (l24 : K.lookup f24 = some ⟨oc24, od24, .func (PySem.W.fnOf "__init__" "Porter.__init__" (defArgs s_Porter___init__) (defBody s_Porter___init__) (defScope s_Porter___init__) .none kV24 dc24 pm24 an24 cd24 ct24), sl24⟩) (c24 : PySem.W.codeIn K cd24 "Porter.__init__" = true) (k24 : PySem.W.keepIn K (.ref f24) = true)
    {f25 : Addr} {od25 an25 : Option Addr} {sl25 : Array (Option Value)} {oc25 kV25 dc25 pm25 cd25 ct25 : Value}
    (a25 : PySem.W.findIn K (.ref C.Shelf) "__sub__" = some (some (.ref f25))) (fn25 : PySem.W.isFn K (.ref f25) = true)
    (l25 : K.lookup f25 = some ⟨oc25, od25, .func (PySem.W.fnOf "__sub__" "Shelf.__sub__" (defArgs s_Shelf___sub__) (defBody s_Shelf___sub__) (defScope s_Shelf___sub__) .none kV25 dc25 pm25 an25 cd25 ct25), sl25⟩) (c25 : PySem.W.codeIn K cd25 "Shelf.__sub__" = true) (k25 : PySem.W.keepIn K (.ref f25) = true)
    {f26 : Addr} {od26 an26 : Option Addr} {sl26 : Array (Option Value)} {oc26 kV26 dc26 pm26 cd26 ct26 : Value}
    (a26 : PySem.W.findIn K (.ref C.Porter) "__call__" = some (some (.ref f26))) (fn26 : PySem.W.isFn K (.ref f26) = true)
    (fx26 : PySem.W.fnIn K f26 = true)
    (l26 : K.lookup f26 = some ⟨oc26, od26, .func (PySem.W.fnOf "__call__" "Porter.__call__" (defArgs s_Porter___call__) (defBody s_Porter___call__) (defScope s_Porter___call__) .none kV26 dc26 pm26 an26 cd26 ct26), sl26⟩) (c26 : PySem.W.codeIn K cd26 "Porter.__call__" = true) (k26 : PySem.W.keepIn K (.ref f26) = true)
    {f27 : Addr} {od27 an27 : Option Addr} {sl27 : Array (Option Value)} {oc27 kV27 dc27 pm27 cd27 ct27 : Value}
    (a27 : PySem.W.findIn K (.ref C.Shelf) "__eq__" = some (some (.ref f27))) (fn27 : PySem.W.isFn K (.ref f27) = true)
    (l27 : K.lookup f27 = some ⟨oc27, od27, .func (PySem.W.fnOf "__eq__" "Shelf.__eq__" (defArgs s_Shelf___eq__) (defBody s_Shelf___eq__) (defScope s_Shelf___eq__) .none kV27 dc27 pm27 an27 cd27 ct27), sl27⟩) (c27 : PySem.W.codeIn K cd27 "Shelf.__eq__" = true) (k27 : PySem.W.keepIn K (.ref f27) = true)
    {f28 : Addr} {od28 an28 : Option Addr} {sl28 : Array (Option Value)} {oc28 kV28 dc28 pm28 cd28 ct28 : Value}
    (a28 : PySem.W.findIn K (.ref C.Shelf) "__contains__" = some (some (.ref f28))) (fn28 : PySem.W.isFn K (.ref f28) = true)
    (l28 : K.lookup f28 = some ⟨oc28, od28, .func (PySem.W.fnOf "__contains__" "Shelf.__contains__" (defArgs s_Shelf___contains__) (defBody s_Shelf___contains__) (defScope s_Shelf___contains__) .none kV28 dc28 pm28 an28 cd28 ct28), sl28⟩) (c28 : PySem.W.codeIn K cd28 "Shelf.__contains__" = true) (k28 : PySem.W.keepIn K (.ref f28) = true)
    {f29 : Addr} {od29 an29 : Option Addr} {sl29 : Array (Option Value)} {oc29 kV29 dc29 pm29 cd29 ct29 : Value}
    (a29 : PySem.W.findIn K (.ref C.Shelf) "__add__" = some (some (.ref f29))) (fn29 : PySem.W.isFn K (.ref f29) = true)
    (l29 : K.lookup f29 = some ⟨oc29, od29, .func (PySem.W.fnOf "__add__" "Shelf.__add__" (defArgs s_Shelf___add__) (defBody s_Shelf___add__) (defScope s_Shelf___add__) .none kV29 dc29 pm29 an29 cd29 ct29), sl29⟩) (c29 : PySem.W.codeIn K cd29 "Shelf.__add__" = true) (k29 : PySem.W.keepIn K (.ref f29) = true)
    {f30 : Addr} {od30 an30 : Option Addr} {sl30 : Array (Option Value)} {oc30 kV30 dc30 pm30 cd30 ct30 : Value}
    (a30 : PySem.W.findIn K (.ref C.BadShelf) "__init__" = some (some (.ref f30))) (tI30 : PySem.W.typeIn K (.ref f30) = some (.type "function"))
    (l30 : K.lookup f30 = some ⟨oc30, od30, .func (PySem.W.fnOf "__init__" "BadShelf.__init__" (defArgs s_BadShelf_init) (defBody s_BadShelf_init) (defScope s_BadShelf_init) .none kV30 dc30 pm30 an30 cd30 ct30), sl30⟩) (c30 : PySem.W.codeIn K cd30 "BadShelf.__init__" = true) (k30 : PySem.W.keepIn K (.ref f30) = true)
    {f31 : Addr} {od31 an31 : Option Addr} {sl31 : Array (Option Value)} {oc31 kV31 dc31 pm31 cd31 ct31 : Value}
    (a31 : PySem.W.findIn K (.ref C.Missing) "__init__" = some (some (.ref f31))) (tI31 : PySem.W.typeIn K (.ref f31) = some (.type "function"))
    (l31 : K.lookup f31 = some ⟨oc31, od31, .func (PySem.W.fnOf "__init__" "Missing.__init__" (defArgs s_Missing_init) (defBody s_Missing_init) (defScope s_Missing_init) .none kV31 dc31 pm31 an31 cd31 ct31), sl31⟩) (c31 : PySem.W.codeIn K cd31 "Missing.__init__" = true) (k31 : PySem.W.keepIn K (.ref f31) = true)
    {f32 : Addr} {od32 an32 : Option Addr} {sl32 : Array (Option Value)} {oc32 kV32 dc32 pm32 cd32 ct32 : Value}
    (a32 : PySem.W.findIn K (.ref C.BadFoot) "__init__" = some (some (.ref f32))) (tI32 : PySem.W.typeIn K (.ref f32) = some (.type "function"))
    (l32 : K.lookup f32 = some ⟨oc32, od32, .func (PySem.W.fnOf "__init__" "BadFoot.__init__" (defArgs s_BadFoot_init) (defBody s_BadFoot_init) (defScope s_BadFoot_init) .none kV32 dc32 pm32 an32 cd32 ct32), sl32⟩) (c32 : PySem.W.codeIn K cd32 "BadFoot.__init__" = true) (k32 : PySem.W.keepIn K (.ref f32) = true)
    (z_LookupError : PySem.W.nsIn K mainGlobals "LookupError" = some none)
    (z_ValueError : PySem.W.nsIn K mainGlobals "ValueError" = some none)
    (z_abs : PySem.W.nsIn K mainGlobals "abs" = some none)
    (z_all : PySem.W.nsIn K mainGlobals "all" = some none)
    (z_bool : PySem.W.nsIn K mainGlobals "bool" = some none)
    (z_enumerate : PySem.W.nsIn K mainGlobals "enumerate" = some none)
    (z_int : PySem.W.nsIn K mainGlobals "int" = some none)
    (z_isinstance : PySem.W.nsIn K mainGlobals "isinstance" = some none)
    (z_len : PySem.W.nsIn K mainGlobals "len" = some none)
    (z_list : PySem.W.nsIn K mainGlobals "list" = some none)
    (z_max : PySem.W.nsIn K mainGlobals "max" = some none)
    (z_min : PySem.W.nsIn K mainGlobals "min" = some none)
    (z_range : PySem.W.nsIn K mainGlobals "range" = some none)
    (z_set : PySem.W.nsIn K mainGlobals "set" = some none)
    (z_sorted : PySem.W.nsIn K mainGlobals "sorted" = some none)
    (z_sum : PySem.W.nsIn K mainGlobals "sum" = some none)
    (z_tuple : PySem.W.nsIn K mainGlobals "tuple" = some none)
    {t_MAX_SIZE : Tok} (y_MAX_SIZE : PySem.W.nsIn K mainGlobals "MAX_SIZE" = some (some (.int (1000000) t_MAX_SIZE)))
    {t_MAX_SHELF : Tok} (y_MAX_SHELF : PySem.W.nsIn K mainGlobals "MAX_SHELF" = some (some (.int (100) t_MAX_SHELF)))
    {t_NO_PAIR : Tok} (y_NO_PAIR : PySem.W.nsIn K mainGlobals "NO_PAIR" = some (some (.int (-1) t_NO_PAIR)))
    (h_cg : PySem.W.specialIn K (.builtin "object.__class__") "__get__" = some (some (.builtin "getset_descriptor.__get__")))
    (h_ct : PySem.W.takesIn K (.builtin "object.__class__") = some true)
    (h_a_PartyError : PySem.W.nsIn K mainGlobals "PartyError" = some (some (.ref C.PartyError)))
    (h_a_BadShelf : PySem.W.nsIn K mainGlobals "BadShelf" = some (some (.ref C.BadShelf)))
    (h_ty_BadShelf : PySem.W.typeIn K (.ref C.BadShelf) = some (.type "type"))
    (h_k_BadShelf : PySem.W.keepIn K (.ref C.BadShelf) = true)
    (h_sa_BadShelf : PySem.W.findIn K (.ref C.BadShelf) "__setattr__" = some (some (.builtin "object.__setattr__")))
    (h_a_TooManyPairs : PySem.W.nsIn K mainGlobals "TooManyPairs" = some (some (.ref C.TooManyPairs)))
    (h_ty_TooManyPairs : PySem.W.typeIn K (.ref C.TooManyPairs) = some (.type "type"))
    (h_k_TooManyPairs : PySem.W.keepIn K (.ref C.TooManyPairs) = true)
    (h_a_Missing : PySem.W.nsIn K mainGlobals "Missing" = some (some (.ref C.Missing)))
    (h_ty_Missing : PySem.W.typeIn K (.ref C.Missing) = some (.type "type"))
    (h_k_Missing : PySem.W.keepIn K (.ref C.Missing) = true)
    (h_sa_Missing : PySem.W.findIn K (.ref C.Missing) "__setattr__" = some (some (.builtin "object.__setattr__")))
    (h_a_BadFoot : PySem.W.nsIn K mainGlobals "BadFoot" = some (some (.ref C.BadFoot)))
    (h_ty_BadFoot : PySem.W.typeIn K (.ref C.BadFoot) = some (.type "type"))
    (h_k_BadFoot : PySem.W.keepIn K (.ref C.BadFoot) = true)
    (h_sa_BadFoot : PySem.W.findIn K (.ref C.BadFoot) "__setattr__" = some (some (.builtin "object.__setattr__")))
    (h_a_NoPlace : PySem.W.nsIn K mainGlobals "NoPlace" = some (some (.ref C.NoPlace)))
    (h_a_Shelf : PySem.W.nsIn K mainGlobals "Shelf" = some (some (.ref C.Shelf)))
    (h_cl_Shelf : PySem.W.isClsIn K C.Shelf = true)
    (h_ty_Shelf : PySem.W.typeIn K (.ref C.Shelf) = some (.type "type"))
    (h_k_Shelf : PySem.W.keepIn K (.ref C.Shelf) = true)
    (h_hd_Shelf : PySem.W.hasDictIn K C.Shelf = true)
    (h_ca_Shelf : PySem.W.findIn K (.ref C.Shelf) "__class__" = some (some (.builtin "object.__class__")))
    (h_mo_Shelf : PySem.W.mroIn K C.Shelf (.type "object") = some true)
    (h_sa_Shelf : PySem.W.findIn K (.ref C.Shelf) "__setattr__" = some (some (.builtin "object.__setattr__")))
    (h_s_Shelf_Shelf : PySem.W.subIn K (.ref C.Shelf) (.ref C.Shelf) = some true)
    (h_a_Porter : PySem.W.nsIn K mainGlobals "Porter" = some (some (.ref C.Porter)))
    (h_k_Porter : PySem.W.keepIn K (.ref C.Porter) = true)
    (h_hd_Porter : PySem.W.hasDictIn K C.Porter = true)
    (h_sa_Porter : PySem.W.findIn K (.ref C.Porter) "__setattr__" = some (some (.builtin "object.__setattr__")))
    (h_sb_BadShelf : PySem.W.subIn K (.ref C.BadShelf) (.type "BaseException") = some true)
    (h_n_BadShelf : PySem.W.findIn K (.ref C.BadShelf) "value" = some none)
    (h_sb_TooManyPairs : PySem.W.subIn K (.ref C.TooManyPairs) (.type "BaseException") = some true)
    (h_sb_Missing : PySem.W.subIn K (.ref C.Missing) (.type "BaseException") = some true)
    (h_n_Missing : PySem.W.findIn K (.ref C.Missing) "size" = some none)
    (h_sb_BadFoot : PySem.W.subIn K (.ref C.BadFoot) (.type "BaseException") = some true)
    (h_n_BadFoot : PySem.W.findIn K (.ref C.BadFoot) "value" = some none)
    (h_pg_Shelf : PySem.W.plainGet K C.Shelf Str.empty = true)
    (h_po_Shelf : PySem.W.plainOver K C.Shelf = true)
    (h_mk_Shelf : PySem.W.makesIn K C.Shelf = true)
    (h_sf_Shelf : PySem.W.selfFirst K C.Shelf = true)
    (h_ne_Shelf : PySem.W.findIn K (.ref C.Shelf) "__ne__" = some (some (.builtin "object.__ne__")))
    (h_f_Shelf_sizes : PySem.W.findIn K (.ref C.Shelf) "sizes" = some none)
    (h_pg_Porter : PySem.W.plainGet K C.Porter Str.empty = true)
    (h_po_Porter : PySem.W.plainOver K C.Porter = true)
    (h_mk_Porter : PySem.W.makesIn K C.Porter = true)
    (h_f_Porter_left : PySem.W.findIn K (.ref C.Porter) "left" = some none)
    (h_f_Porter_served : PySem.W.findIn K (.ref C.Porter) "served" = some none)
    {nm_BadShelf q_BadShelf : Str} {N_BadShelf : Addr} {bs_BadShelf bm_BadShelf : List Value} {sn_BadShelf : List Str} {sub_BadShelf : List Value} {ab_BadShelf : Bool} {col_BadShelf : Option Bool} {dd_BadShelf : Option Addr} {m0_BadShelf m1_BadShelf m2_BadShelf m3_BadShelf m5_BadShelf : Option Value}
    (xL_BadShelf : K.lookup C.BadShelf = some (excClassObj nm_BadShelf q_BadShelf C.BadShelf N_BadShelf bs_BadShelf bm_BadShelf true sn_BadShelf sub_BadShelf ab_BadShelf col_BadShelf dd_BadShelf m0_BadShelf m1_BadShelf m2_BadShelf m3_BadShelf m5_BadShelf "ValueError.__new__")) (xr_BadShelf : PySem.HandSPX.refsVE bm_BadShelf = true)
    {nm_Missing q_Missing : Str} {N_Missing : Addr} {bs_Missing bm_Missing : List Value} {sn_Missing : List Str} {sub_Missing : List Value} {ab_Missing : Bool} {col_Missing : Option Bool} {dd_Missing : Option Addr} {m0_Missing m1_Missing m2_Missing m3_Missing m5_Missing : Option Value}
    (xL_Missing : K.lookup C.Missing = some (excClassObj nm_Missing q_Missing C.Missing N_Missing bs_Missing bm_Missing true sn_Missing sub_Missing ab_Missing col_Missing dd_Missing m0_Missing m1_Missing m2_Missing m3_Missing m5_Missing "ValueError.__new__")) (xr_Missing : PySem.HandSPX.refsVE bm_Missing = true)
    {nm_BadFoot q_BadFoot : Str} {N_BadFoot : Addr} {bs_BadFoot bm_BadFoot : List Value} {sn_BadFoot : List Str} {sub_BadFoot : List Value} {ab_BadFoot : Bool} {col_BadFoot : Option Bool} {dd_BadFoot : Option Addr} {m0_BadFoot m1_BadFoot m2_BadFoot m3_BadFoot m5_BadFoot : Option Value}
    (xL_BadFoot : K.lookup C.BadFoot = some (excClassObj nm_BadFoot q_BadFoot C.BadFoot N_BadFoot bs_BadFoot bm_BadFoot true sn_BadFoot sub_BadFoot ab_BadFoot col_BadFoot dd_BadFoot m0_BadFoot m1_BadFoot m2_BadFoot m3_BadFoot m5_BadFoot "ValueError.__new__")) (xr_BadFoot : PySem.HandSPX.refsVE bm_BadFoot = true)
    (e0_PartyError : PySem.W.excIn K C.PartyError [.type "ValueError", .type "Exception", .type "BaseException", .type "object"] "ValueError.__new__" = true)
    (e0_TooManyPairs : PySem.W.excIn K C.TooManyPairs [.type "ValueError", .type "Exception", .type "BaseException", .type "object"] "ValueError.__new__" = true)
    : ∃ fd : FuncData, (∀ (s : Shared) (v : Value), BindsTo s fd ⟨[v], []⟩ [("script", v)]) ∧ ∀ base : Heap, K.In base → base.Ns mainGlobals mg → FnG l.prog w K mg base 10 fa fd ["script"] (spLaw K) := by
  have e := hfa.symm.trans (PySem.W.mg_of X G a22)
  cases e
  have B : Bn K mg C := { LookupError := PySem.W.mg_none_of X G z_LookupError, ValueError := PySem.W.mg_none_of X G z_ValueError, abs := PySem.W.mg_none_of X G z_abs, all := PySem.W.mg_none_of X G z_all, bool := PySem.W.mg_none_of X G z_bool, enumerate := PySem.W.mg_none_of X G z_enumerate, int := PySem.W.mg_none_of X G z_int, isinstance := PySem.W.mg_none_of X G z_isinstance, len := PySem.W.mg_none_of X G z_len, list := PySem.W.mg_none_of X G z_list, max := PySem.W.mg_none_of X G z_max, min := PySem.W.mg_none_of X G z_min, range := PySem.W.mg_none_of X G z_range, set := PySem.W.mg_none_of X G z_set, sorted := PySem.W.mg_none_of X G z_sorted, sum := PySem.W.mg_none_of X G z_sum, tuple := PySem.W.mg_none_of X G z_tuple, MAX_SIZE := ⟨_, PySem.W.mg_of X G y_MAX_SIZE⟩, MAX_SHELF := ⟨_, PySem.W.mg_of X G y_MAX_SHELF⟩, NO_PAIR := ⟨_, PySem.W.mg_of X G y_NO_PAIR⟩, g_PartyError := PySem.W.mg_of X G h_a_PartyError, g_BadShelf := PySem.W.mg_of X G h_a_BadShelf, g_TooManyPairs := PySem.W.mg_of X G h_a_TooManyPairs, g_Missing := PySem.W.mg_of X G h_a_Missing, g_BadFoot := PySem.W.mg_of X G h_a_BadFoot, g_NoPlace := PySem.W.mg_of X G h_a_NoPlace, g_Shelf := PySem.W.mg_of X G h_a_Shelf, g_Porter := PySem.W.mg_of X G h_a_Porter, cg := h_cg, ct := h_ct, ty_BadShelf := h_ty_BadShelf, k_BadShelf := h_k_BadShelf, sa_BadShelf := h_sa_BadShelf, ty_TooManyPairs := h_ty_TooManyPairs, k_TooManyPairs := h_k_TooManyPairs, ty_Missing := h_ty_Missing, k_Missing := h_k_Missing, sa_Missing := h_sa_Missing, ty_BadFoot := h_ty_BadFoot, k_BadFoot := h_k_BadFoot, sa_BadFoot := h_sa_BadFoot, cl_Shelf := h_cl_Shelf, ty_Shelf := h_ty_Shelf, k_Shelf := h_k_Shelf, hd_Shelf := h_hd_Shelf, ca_Shelf := h_ca_Shelf, mo_Shelf := h_mo_Shelf, sa_Shelf := h_sa_Shelf, s_Shelf_Shelf := h_s_Shelf_Shelf, k_Porter := h_k_Porter, hd_Porter := h_hd_Porter, sa_Porter := h_sa_Porter, sb_BadShelf := h_sb_BadShelf, n_BadShelf := h_n_BadShelf, sb_TooManyPairs := h_sb_TooManyPairs, sb_Missing := h_sb_Missing, n_Missing := h_n_Missing, sb_BadFoot := h_sb_BadFoot, n_BadFoot := h_n_BadFoot, pg_Shelf := h_pg_Shelf, po_Shelf := h_po_Shelf, mk_Shelf := h_mk_Shelf, sf_Shelf := h_sf_Shelf, ne_Shelf := h_ne_Shelf, f_Shelf_sizes := h_f_Shelf_sizes, pg_Porter := h_pg_Porter, po_Porter := h_po_Porter, mk_Porter := h_mk_Porter, f_Porter_left := h_f_Porter_left, f_Porter_served := h_f_Porter_served, e0_PartyError := e0_PartyError, e0_TooManyPairs := e0_TooManyPairs }
  have F0 := fun_mk (st := s__law_deck) l0 c0 k0
  have b0 := F0.binds (ps := ["script"]) fun _ _ _ _ _ _ us hl => match us, hl with | [_], _ => rfl
  have F1 := fun_mk (st := s__law_draw) l1 c1 k1
  have b1 := F1.binds (ps := ["deck", "bound"]) fun _ _ _ _ _ _ us hl => match us, hl with | [_, _], _ => rfl
  have F2 := fun_mk (st := s__law_hall) l2 c2 k2
  have b2 := F2.binds (ps := ["deck", "guests", "pairs"]) fun _ _ _ _ _ _ us hl => match us, hl with | [_, _, _], _ => rfl
  have F3 := fun_mk (st := s__law_mixed) l3 c3 k3
  have b3 := F3.binds (ps := ["deck", "items"]) fun _ _ _ _ _ _ us hl => match us, hl with | [_, _], _ => rfl
  have F4 := fun_mk (st := s_counts_at) l4 c4 k4
  have b4 := F4.binds (ps := ["hall", "size"]) fun _ _ _ _ _ _ us hl => match us, hl with | [_, _], _ => rfl
  have F5 := fun_mk (st := s__foot_sizes) l5 c5 k5
  have b5 := F5.binds (ps := ["hall"]) fun _ _ _ _ _ _ us hl => match us, hl with | [_], _ => rfl
  have F6 := fun_mk (st := s__deciding_sizes) l6 c6 k6
  have b6 := F6.binds (ps := ["hall"]) fun _ _ _ _ _ _ us hl => match us, hl with | [_], _ => rfl
  have F7 := fun_mk (st := s_fewest_served) l7 c7 k7
  have b7 := F7.binds (ps := ["hall"]) fun _ _ _ _ _ _ us hl => match us, hl with | [_], _ => rfl
  have F8 := fun_mk (st := s_is_tuple) l8 c8 k8
  have b8 := F8.binds (ps := ["value", "least", "most"]) fun _ _ _ _ _ _ us hl => match us, hl with | [_, _, _], _ => rfl
  have F9 := fun_mk (st := s_is_number) l9 c9 k9
  have b9 := F9.binds (ps := ["value"]) fun _ _ _ _ _ _ us hl => match us, hl with | [_], _ => rfl
  have F10 := fun_mk (st := s_is_number_from) l10 c10 k10
  have b10 := F10.binds (ps := ["value", "low", "high"]) fun _ _ _ _ _ _ us hl => match us, hl with | [_, _, _], _ => rfl
  have F11 := fun_mk (st := s_is_size) l11 c11 k11
  have b11 := F11.binds (ps := ["value"]) fun _ _ _ _ _ _ us hl => match us, hl with | [_], _ => rfl
  have F12 := fun_mk (st := s__is_tuple_of_sizes) l12 c12 k12
  have b12 := F12.binds (ps := ["value"]) fun _ _ _ _ _ _ us hl => match us, hl with | [_], _ => rfl
  have F13 := fun_mk (st := s__fitting) l13 c13 k13
  have b13 := F13.binds (ps := ["hall", "guest", "left"]) fun _ _ _ _ _ _ us hl => match us, hl with | [_, _, _], _ => rfl
  have F14 := fun_mk (st := s_run_by_liking) l14 c14 k14
  have b14 := F14.binds (ps := ["hall", "order", "liking"]) fun _ _ _ _ _ _ us hl => match us, hl with | [_, _, _], _ => rfl
  have F15 := fun_mk (st := s_small_run) l15 c15 k15
  have b15 := F15.binds (ps := ["hall", "order"]) fun _ _ _ _ _ _ us hl => match us, hl with | [_, _], _ => rfl
  have F16 := fun_mk (st := s__first_missing) l16 c16 k16
  have b16 := F16.binds (ps := ["sizes", "wanted"]) fun _ _ _ _ _ _ us hl => match us, hl with | [_, _], _ => rfl
  have F17 := fun_mk (st := s_most_served) l17 c17 k17
  have b17 := F17.binds (ps := ["hall"]) fun _ _ _ _ _ _ us hl => match us, hl with | [_], _ => rfl
  have F18 := fun_mk (st := s_served_by) l18 c18 k18
  have b18 := F18.binds (ps := ["hall", "run"]) fun _ _ _ _ _ _ us hl => match us, hl with | [_, _], _ => rfl
  have F19 := fun_mk (st := s_left_by) l19 c19 k19
  have b19 := F19.binds (ps := ["hall", "run"]) fun _ _ _ _ _ _ us hl => match us, hl with | [_, _], _ => rfl
  have F20 := fun_mk (st := s__law_order_right) l20 c20 k20
  have b20 := F20.binds (ps := ["hall", "order"]) fun _ _ _ _ _ _ us hl => match us, hl with | [_, _], _ => rfl
  have F21 := fun_mk (st := s_large_run) l21 c21 k21
  have b21 := F21.binds (ps := ["hall", "order"]) fun _ _ _ _ _ _ us hl => match us, hl with | [_, _], _ => rfl
  have F23 := fun_mk (st := s_Shelf___init__) l23 c23 k23
  have b23 := F23.binds (ps := ["self", "sizes"]) fun _ _ _ _ _ _ us hl => match us, hl with | [_, _], _ => rfl
  have F24 := fun_mk (st := s_Porter___init__) l24 c24 k24
  have b24 := F24.binds (ps := ["self", "shelf"]) fun _ _ _ _ _ _ us hl => match us, hl with | [_, _], _ => rfl
  have F25 := fun_mk (st := s_Shelf___sub__) l25 c25 k25
  have b25 := F25.binds (ps := ["self", "other"]) fun _ _ _ _ _ _ us hl => match us, hl with | [_, _], _ => rfl
  have F26 := fun_mk (st := s_Porter___call__) l26 c26 k26
  have b26 := F26.binds (ps := ["self", "value"]) fun _ _ _ _ _ _ us hl => match us, hl with | [_, _], _ => rfl
  have F27 := fun_mk (st := s_Shelf___eq__) l27 c27 k27
  have b27 := F27.binds (ps := ["self", "other"]) fun _ _ _ _ _ _ us hl => match us, hl with | [_, _], _ => rfl
  have F28 := fun_mk (st := s_Shelf___contains__) l28 c28 k28
  have b28 := F28.binds (ps := ["self", "value"]) fun _ _ _ _ _ _ us hl => match us, hl with | [_, _], _ => rfl
  have F29 := fun_mk (st := s_Shelf___add__) l29 c29 k29
  have b29 := F29.binds (ps := ["self", "other"]) fun _ _ _ _ _ _ us hl => match us, hl with | [_, _], _ => rfl
  have F30 := fun_mk (st := s_BadShelf_init) l30 c30 k30
  have b30 := F30.binds (ps := ["self", "value"]) fun _ _ _ _ _ _ us hl => match us, hl with | [_, _], _ => rfl
  have F31 := fun_mk (st := s_Missing_init) l31 c31 k31
  have b31 := F31.binds (ps := ["self", "size"]) fun _ _ _ _ _ _ us hl => match us, hl with | [_, _], _ => rfl
  have F32 := fun_mk (st := s_BadFoot_init) l32 c32 k32
  have b32 := F32.binds (ps := ["self", "value"]) fun _ _ _ _ _ _ us hl => match us, hl with | [_, _], _ => rfl
  refine ⟨PySem.W.fnOf "law" "law" (defArgs s_law) (defBody s_law) (defScope s_law) .none kV22 dc22 pm22 an22 cd22 ct22, fun s v => .of_eq rfl, fun base _ _ => ?_⟩
  have T_BadShelf : OexC K C.BadShelf := ⟨⟨_, _, _, _, _, _, _, _, _, _, _, _, _, _, _, xL_BadShelf, xr_BadShelf⟩, h_sa_BadShelf, h_sb_BadShelf, h_ty_BadShelf, h_k_BadShelf⟩
  have H_BadShelf : ErrC l.prog w K mg base "BadShelf" C.BadShelf "value" := ⟨B.g_BadShelf, T_BadShelf, f30, _, _, a30, tI30, ok_BadShelf_init F30 T_BadShelf B, b30⟩
  have T_Missing : OexC K C.Missing := ⟨⟨_, _, _, _, _, _, _, _, _, _, _, _, _, _, _, xL_Missing, xr_Missing⟩, h_sa_Missing, h_sb_Missing, h_ty_Missing, h_k_Missing⟩
  have H_Missing : ErrC l.prog w K mg base "Missing" C.Missing "size" := ⟨B.g_Missing, T_Missing, f31, _, _, a31, tI31, ok_Missing_init F31 T_Missing B, b31⟩
  have T_BadFoot : OexC K C.BadFoot := ⟨⟨_, _, _, _, _, _, _, _, _, _, _, _, _, _, _, xL_BadFoot, xr_BadFoot⟩, h_sa_BadFoot, h_sb_BadFoot, h_ty_BadFoot, h_k_BadFoot⟩
  have H_BadFoot : ErrC l.prog w K mg base "BadFoot" C.BadFoot "value" := ⟨B.g_BadFoot, T_BadFoot, f32, _, _, a32, tI32, ok_BadFoot_init F32 T_BadFoot B, b32⟩
  have H__law_deck : HasS l.prog w K mg base "_law_deck" 1 ["script"] (spDeckA K) := ⟨f0, _, PySem.W.mg_of X G a0, k0, b0, ok_deck F0 B.abs⟩
  have H__law_draw : Has l.prog w K mg base "_law_draw" 1 ["deck", "bound"] c__law_draw := ⟨f1, _, PySem.W.mg_of X G a1, k1, b1, ok_draw F1 B.len B.max⟩
  have H__law_hall : Has l.prog w K mg base "_law_hall" 2 ["deck", "guests", "pairs"] c__law_hall := ⟨f2, _, PySem.W.mg_of X G a2, k2, b2, fn__law_hall F2 B H__law_draw⟩
  have H__law_mixed : Has l.prog w K mg base "_law_mixed" 2 ["deck", "items"] c__law_mixed := ⟨f3, _, PySem.W.mg_of X G a3, k3, b3, fn__law_mixed F3 B H__law_draw⟩
  have H_counts_at : Has l.prog w K mg base "counts_at" 1 ["hall", "size"] c_counts_at := ⟨f4, _, PySem.W.mg_of X G a4, k4, b4, fn_counts_at F4 B⟩
  have H__foot_sizes : Has l.prog w K mg base "_foot_sizes" 1 ["hall"] c__foot_sizes := ⟨f5, _, PySem.W.mg_of X G a5, k5, b5, fn__foot_sizes F5 B⟩
  have H__deciding_sizes : Has l.prog w K mg base "_deciding_sizes" 2 ["hall"] c__deciding_sizes := ⟨f6, _, PySem.W.mg_of X G a6, k6, b6, fn__deciding_sizes F6 B H__foot_sizes⟩
  have H_fewest_served : Has l.prog w K mg base "fewest_served" 3 ["hall"] c_fewest_served := ⟨f7, _, PySem.W.mg_of X G a7, k7, b7, fn_fewest_served F7 B H_counts_at H__deciding_sizes⟩
  have H_is_tuple : Has l.prog w K mg base "is_tuple" 1 ["value", "least", "most"] c_is_tuple := ⟨f8, _, PySem.W.mg_of X G a8, k8, b8, fn_is_tuple F8 B⟩
  have H_is_number : Has l.prog w K mg base "is_number" 1 ["value"] c_is_number := ⟨f9, _, PySem.W.mg_of X G a9, k9, b9, fn_is_number F9 B⟩
  have H_is_number_from : Has l.prog w K mg base "is_number_from" 2 ["value", "low", "high"] c_is_number_from := ⟨f10, _, PySem.W.mg_of X G a10, k10, b10, fn_is_number_from F10 B H_is_number⟩
  have H_is_size : Has l.prog w K mg base "is_size" 3 ["value"] c_is_size := ⟨f11, _, PySem.W.mg_of X G a11, k11, b11, fn_is_size F11 B H_is_number_from⟩
  have H__is_tuple_of_sizes : Has l.prog w K mg base "_is_tuple_of_sizes" 4 ["value"] c__is_tuple_of_sizes := ⟨f12, _, PySem.W.mg_of X G a12, k12, b12, fn__is_tuple_of_sizes F12 B H_is_tuple H_is_size⟩
  have H_Shelf___init__ : HasC l.prog w K mg base "Shelf" C.Shelf 5 ["self", "sizes"] (c_Shelf___init__ C) := ⟨B.g_Shelf, len_Shelf___init__, f23, _, ⟨B.mk_Shelf, a23, fn23, B.k_Shelf⟩, b23, fn_Shelf___init__ F23 B H__is_tuple_of_sizes H_BadShelf⟩
  have H__fitting : Has l.prog w K mg base "_fitting" 1 ["hall", "guest", "left"] c__fitting := ⟨f13, _, PySem.W.mg_of X G a13, k13, b13, fn__fitting F13 B⟩
  have H_run_by_liking : Has l.prog w K mg base "run_by_liking" 2 ["hall", "order", "liking"] c_run_by_liking := ⟨f14, _, PySem.W.mg_of X G a14, k14, b14, fn_run_by_liking F14 B H__fitting⟩
  have H_small_run : Has l.prog w K mg base "small_run" 3 ["hall", "order"] c_small_run := ⟨f15, _, PySem.W.mg_of X G a15, k15, b15, fn_small_run F15 B H_run_by_liking⟩
  have H_Porter___init__ : HasC l.prog w K mg base "Porter" C.Porter 3 ["self", "shelf"] (c_Porter___init__ C) := ⟨B.g_Porter, len_Porter___init__, f24, _, ⟨B.mk_Porter, a24, fn24, B.k_Porter⟩, b24, fn_Porter___init__ F24 B H_BadShelf⟩
  have H__first_missing : Has l.prog w K mg base "_first_missing" 1 ["sizes", "wanted"] c__first_missing := ⟨f16, _, PySem.W.mg_of X G a16, k16, b16, fn__first_missing F16 B⟩
  have G_Shelf___sub__ : FnGX l.prog w K mg base 7 f25 _ ["self", "other"] (spDX K 2 (c_Shelf___sub__ C)) := fn_Shelf___sub__ F25 B H__first_missing H_Shelf___init__ H_Missing
  have HM___sub__ : HasM l.prog w K mg base (fun D => D = C.Shelf) "__sub__" 7 ["self", "other"] (fun _ => c_Shelf___sub__ C) := fun D hD => by
    subst hD
    · exact ⟨B.c_Shelf, f25, _, ⟨a25, fn25, k25⟩, b25, G_Shelf___sub__⟩
  have G_Porter___call__ : FnGX l.prog w K mg base 8 f26 _ ["self", "value"] (spDX K 2 (c_Porter___call__ C)) := fn_Porter___call__ F26 B HM___sub__ H_is_size H_Shelf___init__ H_BadFoot
  have HM___call__ : HasM l.prog w K mg base (fun D => D = C.Porter) "__call__" 8 ["self", "value"] (fun _ => c_Porter___call__ C) := fun D hD => by
    subst hD
    · exact ⟨B.c_Porter, f26, _, ⟨a26, fn26, k26⟩, b26, G_Porter___call__⟩
  have HFN___call__ : ∀ D g, (fun D => D = C.Porter) D → PySem.W.findIn K (.ref D) "__call__" = some (some (.ref g)) → PySem.W.fnIn K g = true := fun D g hD hg => by
    subst hD
    cases a26.symm.trans hg
    exact fx26
  have G_Shelf___eq__ : FnGX l.prog w K mg base 1 f27 _ ["self", "other"] (spDX K 2 (c_Shelf___eq__ C)) := fn_Shelf___eq__ F27 B
  have HM___eq__ : HasM l.prog w K mg base (fun D => D = C.Shelf) "__eq__" 1 ["self", "other"] (fun _ => c_Shelf___eq__ C) := fun D hD => by
    subst hD
    · exact ⟨B.c_Shelf, f27, _, ⟨a27, fn27, k27⟩, b27, G_Shelf___eq__⟩
  have G_Shelf___contains__ : FnGX l.prog w K mg base 2 f28 _ ["self", "value"] (spDX K 2 (c_Shelf___contains__ C)) := fn_Shelf___contains__ F28 B H__first_missing
  have HM___contains__ : HasM l.prog w K mg base (fun D => D = C.Shelf) "__contains__" 2 ["self", "value"] (fun _ => c_Shelf___contains__ C) := fun D hD => by
    subst hD
    · exact ⟨B.c_Shelf, f28, _, ⟨a28, fn28, k28⟩, b28, G_Shelf___contains__⟩
  have H_most_served : Has l.prog w K mg base "most_served" 3 ["hall"] c_most_served := ⟨f17, _, PySem.W.mg_of X G a17, k17, b17, fn_most_served F17 B H_counts_at H__deciding_sizes⟩
  have H_served_by : Has l.prog w K mg base "served_by" 1 ["hall", "run"] c_served_by := ⟨f18, _, PySem.W.mg_of X G a18, k18, b18, fn_served_by F18 B⟩
  have G_Shelf___add__ : FnGX l.prog w K mg base 7 f29 _ ["self", "other"] (spDX K 2 (c_Shelf___add__ C)) := fn_Shelf___add__ F29 B H_Shelf___init__
  have HM___add__ : HasM l.prog w K mg base (fun D => D = C.Shelf) "__add__" 7 ["self", "other"] (fun _ => c_Shelf___add__ C) := fun D hD => by
    subst hD
    · exact ⟨B.c_Shelf, f29, _, ⟨a29, fn29, k29⟩, b29, G_Shelf___add__⟩
  have H_left_by : Has l.prog w K mg base "left_by" 1 ["hall", "run"] c_left_by := ⟨f19, _, PySem.W.mg_of X G a19, k19, b19, fn_left_by F19 B⟩
  have H__law_order_right : Has l.prog w K mg base "_law_order_right" 9 ["hall", "order"] (c__law_order_right C) := ⟨f20, _, PySem.W.mg_of X G a20, k20, b20, fn__law_order_right F20 B H_Shelf___init__ H_small_run H_Porter___init__ HM___call__ HFN___call__ HM___eq__ HM___contains__ H_most_served H_served_by HM___add__ H_left_by⟩
  have H_large_run : Has l.prog w K mg base "large_run" 3 ["hall", "order"] c_large_run := ⟨f21, _, PySem.W.mg_of X G a21, k21, b21, fn_large_run F21 B H_run_by_liking⟩
  exact fn_law (fun_mk (st := s_law) l22 c22 k22) B H__law_deck H__law_hall H__law_mixed H_fewest_served H__law_order_right H_served_by H_large_run
theorem all_mk2 {l : PySem.W.OpenLaw} {w : World} {K : PySem.W.Frag} {h : Heap} {mg : Str → Option Value} {fa : Addr} {C_PartyError C_BadShelf C_TooManyPairs C_Missing C_BadFoot C_NoPlace C_Shelf C_Porter : Addr} (X : K.In h) (G : h.Ns mainGlobals mg) (hfa : mg "law" = some (.ref fa))
    {f0 : Addr} {od0 an0 : Option Addr} {sl0 : Array (Option Value)} {oc0 kV0 dc0 pm0 cd0 ct0 : Value}
    (a0 : PySem.W.nsIn K mainGlobals "_law_deck" = some (some (.ref f0)))
    (l0 : K.lookup f0 = some ⟨oc0, od0, .func (PySem.W.fnOf "_law_deck" "_law_deck" (defArgs s__law_deck) (defBody s__law_deck) (defScope s__law_deck) .none kV0 dc0 pm0 an0 cd0 ct0), sl0⟩) (c0 : PySem.W.codeIn K cd0 "_law_deck" = true) (k0 : PySem.W.keepIn K (.ref f0) = true)
    {f1 : Addr} {od1 an1 : Option Addr} {sl1 : Array (Option Value)} {oc1 kV1 dc1 pm1 cd1 ct1 : Value}
    (a1 : PySem.W.nsIn K mainGlobals "_law_draw" = some (some (.ref f1)))
    (l1 : K.lookup f1 = some ⟨oc1, od1, .func (PySem.W.fnOf "_law_draw" "_law_draw" (defArgs s__law_draw) (defBody s__law_draw) (defScope s__law_draw) .none kV1 dc1 pm1 an1 cd1 ct1), sl1⟩) (c1 : PySem.W.codeIn K cd1 "_law_draw" = true) (k1 : PySem.W.keepIn K (.ref f1) = true)
    {f2 : Addr} {od2 an2 : Option Addr} {sl2 : Array (Option Value)} {oc2 kV2 dc2 pm2 cd2 ct2 : Value}
    (a2 : PySem.W.nsIn K mainGlobals "_law_hall" = some (some (.ref f2)))
    (l2 : K.lookup f2 = some ⟨oc2, od2, .func (PySem.W.fnOf "_law_hall" "_law_hall" (defArgs s__law_hall) (defBody s__law_hall) (defScope s__law_hall) .none kV2 dc2 pm2 an2 cd2 ct2), sl2⟩) (c2 : PySem.W.codeIn K cd2 "_law_hall" = true) (k2 : PySem.W.keepIn K (.ref f2) = true)
    {f3 : Addr} {od3 an3 : Option Addr} {sl3 : Array (Option Value)} {oc3 kV3 dc3 pm3 cd3 ct3 : Value}
    (a3 : PySem.W.nsIn K mainGlobals "_law_mixed" = some (some (.ref f3)))
    (l3 : K.lookup f3 = some ⟨oc3, od3, .func (PySem.W.fnOf "_law_mixed" "_law_mixed" (defArgs s__law_mixed) (defBody s__law_mixed) (defScope s__law_mixed) .none kV3 dc3 pm3 an3 cd3 ct3), sl3⟩) (c3 : PySem.W.codeIn K cd3 "_law_mixed" = true) (k3 : PySem.W.keepIn K (.ref f3) = true)
    {f4 : Addr} {od4 an4 : Option Addr} {sl4 : Array (Option Value)} {oc4 kV4 dc4 pm4 cd4 ct4 : Value}
    (a4 : PySem.W.nsIn K mainGlobals "counts_at" = some (some (.ref f4)))
    (l4 : K.lookup f4 = some ⟨oc4, od4, .func (PySem.W.fnOf "counts_at" "counts_at" (defArgs s_counts_at) (defBody s_counts_at) (defScope s_counts_at) .none kV4 dc4 pm4 an4 cd4 ct4), sl4⟩) (c4 : PySem.W.codeIn K cd4 "counts_at" = true) (k4 : PySem.W.keepIn K (.ref f4) = true)
    {f5 : Addr} {od5 an5 : Option Addr} {sl5 : Array (Option Value)} {oc5 kV5 dc5 pm5 cd5 ct5 : Value}
    (a5 : PySem.W.nsIn K mainGlobals "_foot_sizes" = some (some (.ref f5)))
    (l5 : K.lookup f5 = some ⟨oc5, od5, .func (PySem.W.fnOf "_foot_sizes" "_foot_sizes" (defArgs s__foot_sizes) (defBody s__foot_sizes) (defScope s__foot_sizes) .none kV5 dc5 pm5 an5 cd5 ct5), sl5⟩) (c5 : PySem.W.codeIn K cd5 "_foot_sizes" = true) (k5 : PySem.W.keepIn K (.ref f5) = true)
    {f6 : Addr} {od6 an6 : Option Addr} {sl6 : Array (Option Value)} {oc6 kV6 dc6 pm6 cd6 ct6 : Value}
    (a6 : PySem.W.nsIn K mainGlobals "_deciding_sizes" = some (some (.ref f6)))
    (l6 : K.lookup f6 = some ⟨oc6, od6, .func (PySem.W.fnOf "_deciding_sizes" "_deciding_sizes" (defArgs s__deciding_sizes) (defBody s__deciding_sizes) (defScope s__deciding_sizes) .none kV6 dc6 pm6 an6 cd6 ct6), sl6⟩) (c6 : PySem.W.codeIn K cd6 "_deciding_sizes" = true) (k6 : PySem.W.keepIn K (.ref f6) = true)
    {f7 : Addr} {od7 an7 : Option Addr} {sl7 : Array (Option Value)} {oc7 kV7 dc7 pm7 cd7 ct7 : Value}
    (a7 : PySem.W.nsIn K mainGlobals "fewest_served" = some (some (.ref f7)))
    (l7 : K.lookup f7 = some ⟨oc7, od7, .func (PySem.W.fnOf "fewest_served" "fewest_served" (defArgs s_fewest_served) (defBody s_fewest_served) (defScope s_fewest_served) .none kV7 dc7 pm7 an7 cd7 ct7), sl7⟩) (c7 : PySem.W.codeIn K cd7 "fewest_served" = true) (k7 : PySem.W.keepIn K (.ref f7) = true)
    {f8 : Addr} {od8 an8 : Option Addr} {sl8 : Array (Option Value)} {oc8 kV8 dc8 pm8 cd8 ct8 : Value}
    (a8 : PySem.W.nsIn K mainGlobals "is_tuple" = some (some (.ref f8)))
    (l8 : K.lookup f8 = some ⟨oc8, od8, .func (PySem.W.fnOf "is_tuple" "is_tuple" (defArgs s_is_tuple) (defBody s_is_tuple) (defScope s_is_tuple) .none kV8 dc8 pm8 an8 cd8 ct8), sl8⟩) (c8 : PySem.W.codeIn K cd8 "is_tuple" = true) (k8 : PySem.W.keepIn K (.ref f8) = true)
    {f9 : Addr} {od9 an9 : Option Addr} {sl9 : Array (Option Value)} {oc9 kV9 dc9 pm9 cd9 ct9 : Value}
    (a9 : PySem.W.nsIn K mainGlobals "is_number" = some (some (.ref f9)))
    (l9 : K.lookup f9 = some ⟨oc9, od9, .func (PySem.W.fnOf "is_number" "is_number" (defArgs s_is_number) (defBody s_is_number) (defScope s_is_number) .none kV9 dc9 pm9 an9 cd9 ct9), sl9⟩) (c9 : PySem.W.codeIn K cd9 "is_number" = true) (k9 : PySem.W.keepIn K (.ref f9) = true)
    {f10 : Addr} {od10 an10 : Option Addr} {sl10 : Array (Option Value)} {oc10 kV10 dc10 pm10 cd10 ct10 : Value}
    (a10 : PySem.W.nsIn K mainGlobals "is_number_from" = some (some (.ref f10)))
    (l10 : K.lookup f10 = some ⟨oc10, od10, .func (PySem.W.fnOf "is_number_from" "is_number_from" (defArgs s_is_number_from) (defBody s_is_number_from) (defScope s_is_number_from) .none kV10 dc10 pm10 an10 cd10 ct10), sl10⟩) (c10 : PySem.W.codeIn K cd10 "is_number_from" = true) (k10 : PySem.W.keepIn K (.ref f10) = true)
    {f11 : Addr} {od11 an11 : Option Addr} {sl11 : Array (Option Value)} {oc11 kV11 dc11 pm11 cd11 ct11 : Value}
    (a11 : PySem.W.nsIn K mainGlobals "is_size" = some (some (.ref f11)))
    (l11 : K.lookup f11 = some ⟨oc11, od11, .func (PySem.W.fnOf "is_size" "is_size" (defArgs s_is_size) (defBody s_is_size) (defScope s_is_size) .none kV11 dc11 pm11 an11 cd11 ct11), sl11⟩) (c11 : PySem.W.codeIn K cd11 "is_size" = true) (k11 : PySem.W.keepIn K (.ref f11) = true)
    {f12 : Addr} {od12 an12 : Option Addr} {sl12 : Array (Option Value)} {oc12 kV12 dc12 pm12 cd12 ct12 : Value}
    (a12 : PySem.W.nsIn K mainGlobals "_is_tuple_of_sizes" = some (some (.ref f12)))
    (l12 : K.lookup f12 = some ⟨oc12, od12, .func (PySem.W.fnOf "_is_tuple_of_sizes" "_is_tuple_of_sizes" (defArgs s__is_tuple_of_sizes) (defBody s__is_tuple_of_sizes) (defScope s__is_tuple_of_sizes) .none kV12 dc12 pm12 an12 cd12 ct12), sl12⟩) (c12 : PySem.W.codeIn K cd12 "_is_tuple_of_sizes" = true) (k12 : PySem.W.keepIn K (.ref f12) = true)
    {f13 : Addr} {od13 an13 : Option Addr} {sl13 : Array (Option Value)} {oc13 kV13 dc13 pm13 cd13 ct13 : Value}
    (a13 : PySem.W.nsIn K mainGlobals "_fitting" = some (some (.ref f13)))
    (l13 : K.lookup f13 = some ⟨oc13, od13, .func (PySem.W.fnOf "_fitting" "_fitting" (defArgs s__fitting) (defBody s__fitting) (defScope s__fitting) .none kV13 dc13 pm13 an13 cd13 ct13), sl13⟩) (c13 : PySem.W.codeIn K cd13 "_fitting" = true) (k13 : PySem.W.keepIn K (.ref f13) = true)
    {f14 : Addr} {od14 an14 : Option Addr} {sl14 : Array (Option Value)} {oc14 kV14 dc14 pm14 cd14 ct14 : Value}
    (a14 : PySem.W.nsIn K mainGlobals "run_by_liking" = some (some (.ref f14)))
    (l14 : K.lookup f14 = some ⟨oc14, od14, .func (PySem.W.fnOf "run_by_liking" "run_by_liking" (defArgs s_run_by_liking) (defBody s_run_by_liking) (defScope s_run_by_liking) .none kV14 dc14 pm14 an14 cd14 ct14), sl14⟩) (c14 : PySem.W.codeIn K cd14 "run_by_liking" = true) (k14 : PySem.W.keepIn K (.ref f14) = true)
    {f15 : Addr} {od15 an15 : Option Addr} {sl15 : Array (Option Value)} {oc15 kV15 dc15 pm15 cd15 ct15 : Value}
    (a15 : PySem.W.nsIn K mainGlobals "small_run" = some (some (.ref f15)))
    (l15 : K.lookup f15 = some ⟨oc15, od15, .func (PySem.W.fnOf "small_run" "small_run" (defArgs s_small_run) (defBody s_small_run) (defScope s_small_run) .none kV15 dc15 pm15 an15 cd15 ct15), sl15⟩) (c15 : PySem.W.codeIn K cd15 "small_run" = true) (k15 : PySem.W.keepIn K (.ref f15) = true)
    {f16 : Addr} {od16 an16 : Option Addr} {sl16 : Array (Option Value)} {oc16 kV16 dc16 pm16 cd16 ct16 : Value}
    (a16 : PySem.W.nsIn K mainGlobals "_first_missing" = some (some (.ref f16)))
    (l16 : K.lookup f16 = some ⟨oc16, od16, .func (PySem.W.fnOf "_first_missing" "_first_missing" (defArgs s__first_missing) (defBody s__first_missing) (defScope s__first_missing) .none kV16 dc16 pm16 an16 cd16 ct16), sl16⟩) (c16 : PySem.W.codeIn K cd16 "_first_missing" = true) (k16 : PySem.W.keepIn K (.ref f16) = true)
    {f17 : Addr} {od17 an17 : Option Addr} {sl17 : Array (Option Value)} {oc17 kV17 dc17 pm17 cd17 ct17 : Value}
    (a17 : PySem.W.nsIn K mainGlobals "most_served" = some (some (.ref f17)))
    (l17 : K.lookup f17 = some ⟨oc17, od17, .func (PySem.W.fnOf "most_served" "most_served" (defArgs s_most_served) (defBody s_most_served) (defScope s_most_served) .none kV17 dc17 pm17 an17 cd17 ct17), sl17⟩) (c17 : PySem.W.codeIn K cd17 "most_served" = true) (k17 : PySem.W.keepIn K (.ref f17) = true)
    {f18 : Addr} {od18 an18 : Option Addr} {sl18 : Array (Option Value)} {oc18 kV18 dc18 pm18 cd18 ct18 : Value}
    (a18 : PySem.W.nsIn K mainGlobals "served_by" = some (some (.ref f18)))
    (l18 : K.lookup f18 = some ⟨oc18, od18, .func (PySem.W.fnOf "served_by" "served_by" (defArgs s_served_by) (defBody s_served_by) (defScope s_served_by) .none kV18 dc18 pm18 an18 cd18 ct18), sl18⟩) (c18 : PySem.W.codeIn K cd18 "served_by" = true) (k18 : PySem.W.keepIn K (.ref f18) = true)
    {f19 : Addr} {od19 an19 : Option Addr} {sl19 : Array (Option Value)} {oc19 kV19 dc19 pm19 cd19 ct19 : Value}
    (a19 : PySem.W.nsIn K mainGlobals "left_by" = some (some (.ref f19)))
    (l19 : K.lookup f19 = some ⟨oc19, od19, .func (PySem.W.fnOf "left_by" "left_by" (defArgs s_left_by) (defBody s_left_by) (defScope s_left_by) .none kV19 dc19 pm19 an19 cd19 ct19), sl19⟩) (c19 : PySem.W.codeIn K cd19 "left_by" = true) (k19 : PySem.W.keepIn K (.ref f19) = true)
    {f20 : Addr} {od20 an20 : Option Addr} {sl20 : Array (Option Value)} {oc20 kV20 dc20 pm20 cd20 ct20 : Value}
    (a20 : PySem.W.nsIn K mainGlobals "_law_order_right" = some (some (.ref f20)))
    (l20 : K.lookup f20 = some ⟨oc20, od20, .func (PySem.W.fnOf "_law_order_right" "_law_order_right" (defArgs s__law_order_right) (defBody s__law_order_right) (defScope s__law_order_right) .none kV20 dc20 pm20 an20 cd20 ct20), sl20⟩) (c20 : PySem.W.codeIn K cd20 "_law_order_right" = true) (k20 : PySem.W.keepIn K (.ref f20) = true)
    {f21 : Addr} {od21 an21 : Option Addr} {sl21 : Array (Option Value)} {oc21 kV21 dc21 pm21 cd21 ct21 : Value}
    (a21 : PySem.W.nsIn K mainGlobals "large_run" = some (some (.ref f21)))
    (l21 : K.lookup f21 = some ⟨oc21, od21, .func (PySem.W.fnOf "large_run" "large_run" (defArgs s_large_run) (defBody s_large_run) (defScope s_large_run) .none kV21 dc21 pm21 an21 cd21 ct21), sl21⟩) (c21 : PySem.W.codeIn K cd21 "large_run" = true) (k21 : PySem.W.keepIn K (.ref f21) = true)
    {f22 : Addr} {od22 an22 : Option Addr} {sl22 : Array (Option Value)} {oc22 kV22 dc22 pm22 cd22 ct22 : Value}
    (a22 : PySem.W.nsIn K mainGlobals "law" = some (some (.ref f22)))
    (l22 : K.lookup f22 = some ⟨oc22, od22, .func (PySem.W.fnOf "law" "law" (defArgs s_law) (defBody s_law) (defScope s_law) .none kV22 dc22 pm22 an22 cd22 ct22), sl22⟩) (c22 : PySem.W.codeIn K cd22 "law" = true) (k22 : PySem.W.keepIn K (.ref f22) = true)
    {f23 : Addr} {od23 an23 : Option Addr} {sl23 : Array (Option Value)} {oc23 kV23 dc23 pm23 cd23 ct23 : Value}
    (a23 : PySem.W.findIn K (.ref C_Shelf) "__init__" = some (some (.ref f23))) (fn23 : PySem.W.isFn K (.ref f23) = true)
    (l23 : K.lookup f23 = some ⟨oc23, od23, .func (PySem.W.fnOf "__init__" "Shelf.__init__" (defArgs s_Shelf___init__) (defBody s_Shelf___init__) (defScope s_Shelf___init__) .none kV23 dc23 pm23 an23 cd23 ct23), sl23⟩) (c23 : PySem.W.codeIn K cd23 "Shelf.__init__" = true) (k23 : PySem.W.keepIn K (.ref f23) = true)
    {f24 : Addr} {od24 an24 : Option Addr} {sl24 : Array (Option Value)} {oc24 kV24 dc24 pm24 cd24 ct24 : Value}
    (a24 : PySem.W.findIn K (.ref C_Porter) "__init__" = some (some (.ref f24))) (fn24 : PySem.W.isFn K (.ref f24) = true)
    (l24 : K.lookup f24 = some ⟨oc24, od24, .func (PySem.W.fnOf "__init__" "Porter.__init__" (defArgs s_Porter___init__) (defBody s_Porter___init__) (defScope s_Porter___init__) .none kV24 dc24 pm24 an24 cd24 ct24), sl24⟩) (c24 : PySem.W.codeIn K cd24 "Porter.__init__" = true) (k24 : PySem.W.keepIn K (.ref f24) = true)
    {f25 : Addr} {od25 an25 : Option Addr} {sl25 : Array (Option Value)} {oc25 kV25 dc25 pm25 cd25 ct25 : Value}
    (a25 : PySem.W.findIn K (.ref C_Shelf) "__sub__" = some (some (.ref f25))) (fn25 : PySem.W.isFn K (.ref f25) = true)
    (l25 : K.lookup f25 = some ⟨oc25, od25, .func (PySem.W.fnOf "__sub__" "Shelf.__sub__" (defArgs s_Shelf___sub__) (defBody s_Shelf___sub__) (defScope s_Shelf___sub__) .none kV25 dc25 pm25 an25 cd25 ct25), sl25⟩) (c25 : PySem.W.codeIn K cd25 "Shelf.__sub__" = true) (k25 : PySem.W.keepIn K (.ref f25) = true)
    {f26 : Addr} {od26 an26 : Option Addr} {sl26 : Array (Option Value)} {oc26 kV26 dc26 pm26 cd26 ct26 : Value}
    (a26 : PySem.W.findIn K (.ref C_Porter) "__call__" = some (some (.ref f26))) (fn26 : PySem.W.isFn K (.ref f26) = true)
    (fx26 : PySem.W.fnIn K f26 = true)
    (l26 : K.lookup f26 = some ⟨oc26, od26, .func (PySem.W.fnOf "__call__" "Porter.__call__" (defArgs s_Porter___call__) (defBody s_Porter___call__) (defScope s_Porter___call__) .none kV26 dc26 pm26 an26 cd26 ct26), sl26⟩) (c26 : PySem.W.codeIn K cd26 "Porter.__call__" = true) (k26 : PySem.W.keepIn K (.ref f26) = true)
    {f27 : Addr} {od27 an27 : Option Addr} {sl27 : Array (Option Value)} {oc27 kV27 dc27 pm27 cd27 ct27 : Value}
    (a27 : PySem.W.findIn K (.ref C_Shelf) "__eq__" = some (some (.ref f27))) (fn27 : PySem.W.isFn K (.ref f27) = true)
    (l27 : K.lookup f27 = some ⟨oc27, od27, .func (PySem.W.fnOf "__eq__" "Shelf.__eq__" (defArgs s_Shelf___eq__) (defBody s_Shelf___eq__) (defScope s_Shelf___eq__) .none kV27 dc27 pm27 an27 cd27 ct27), sl27⟩) (c27 : PySem.W.codeIn K cd27 "Shelf.__eq__" = true) (k27 : PySem.W.keepIn K (.ref f27) = true)
    {f28 : Addr} {od28 an28 : Option Addr} {sl28 : Array (Option Value)} {oc28 kV28 dc28 pm28 cd28 ct28 : Value}
    (a28 : PySem.W.findIn K (.ref C_Shelf) "__contains__" = some (some (.ref f28))) (fn28 : PySem.W.isFn K (.ref f28) = true)
    (l28 : K.lookup f28 = some ⟨oc28, od28, .func (PySem.W.fnOf "__contains__" "Shelf.__contains__" (defArgs s_Shelf___contains__) (defBody s_Shelf___contains__) (defScope s_Shelf___contains__) .none kV28 dc28 pm28 an28 cd28 ct28), sl28⟩) (c28 : PySem.W.codeIn K cd28 "Shelf.__contains__" = true) (k28 : PySem.W.keepIn K (.ref f28) = true)
    {f29 : Addr} {od29 an29 : Option Addr} {sl29 : Array (Option Value)} {oc29 kV29 dc29 pm29 cd29 ct29 : Value}
    (a29 : PySem.W.findIn K (.ref C_Shelf) "__add__" = some (some (.ref f29))) (fn29 : PySem.W.isFn K (.ref f29) = true)
    (l29 : K.lookup f29 = some ⟨oc29, od29, .func (PySem.W.fnOf "__add__" "Shelf.__add__" (defArgs s_Shelf___add__) (defBody s_Shelf___add__) (defScope s_Shelf___add__) .none kV29 dc29 pm29 an29 cd29 ct29), sl29⟩) (c29 : PySem.W.codeIn K cd29 "Shelf.__add__" = true) (k29 : PySem.W.keepIn K (.ref f29) = true)
    {f30 : Addr} {od30 an30 : Option Addr} {sl30 : Array (Option Value)} {oc30 kV30 dc30 pm30 cd30 ct30 : Value}
    (a30 : PySem.W.findIn K (.ref C_BadShelf) "__init__" = some (some (.ref f30))) (tI30 : PySem.W.typeIn K (.ref f30) = some (.type "function"))
    (l30 : K.lookup f30 = some ⟨oc30, od30, .func (PySem.W.fnOf "__init__" "BadShelf.__init__" (defArgs s_BadShelf_init) (defBody s_BadShelf_init) (defScope s_BadShelf_init) .none kV30 dc30 pm30 an30 cd30 ct30), sl30⟩) (c30 : PySem.W.codeIn K cd30 "BadShelf.__init__" = true) (k30 : PySem.W.keepIn K (.ref f30) = true)
    {f31 : Addr} {od31 an31 : Option Addr} {sl31 : Array (Option Value)} {oc31 kV31 dc31 pm31 cd31 ct31 : Value}
    (a31 : PySem.W.findIn K (.ref C_Missing) "__init__" = some (some (.ref f31))) (tI31 : PySem.W.typeIn K (.ref f31) = some (.type "function"))
    (l31 : K.lookup f31 = some ⟨oc31, od31, .func (PySem.W.fnOf "__init__" "Missing.__init__" (defArgs s_Missing_init) (defBody s_Missing_init) (defScope s_Missing_init) .none kV31 dc31 pm31 an31 cd31 ct31), sl31⟩) (c31 : PySem.W.codeIn K cd31 "Missing.__init__" = true) (k31 : PySem.W.keepIn K (.ref f31) = true)
    {f32 : Addr} {od32 an32 : Option Addr} {sl32 : Array (Option Value)} {oc32 kV32 dc32 pm32 cd32 ct32 : Value}
    (a32 : PySem.W.findIn K (.ref C_BadFoot) "__init__" = some (some (.ref f32))) (tI32 : PySem.W.typeIn K (.ref f32) = some (.type "function"))
    (l32 : K.lookup f32 = some ⟨oc32, od32, .func (PySem.W.fnOf "__init__" "BadFoot.__init__" (defArgs s_BadFoot_init) (defBody s_BadFoot_init) (defScope s_BadFoot_init) .none kV32 dc32 pm32 an32 cd32 ct32), sl32⟩) (c32 : PySem.W.codeIn K cd32 "BadFoot.__init__" = true) (k32 : PySem.W.keepIn K (.ref f32) = true)
    (z_LookupError : PySem.W.nsIn K mainGlobals "LookupError" = some none)
    (z_ValueError : PySem.W.nsIn K mainGlobals "ValueError" = some none)
    (z_abs : PySem.W.nsIn K mainGlobals "abs" = some none)
    (z_all : PySem.W.nsIn K mainGlobals "all" = some none)
    (z_bool : PySem.W.nsIn K mainGlobals "bool" = some none)
    (z_enumerate : PySem.W.nsIn K mainGlobals "enumerate" = some none)
    (z_int : PySem.W.nsIn K mainGlobals "int" = some none)
    (z_isinstance : PySem.W.nsIn K mainGlobals "isinstance" = some none)
    (z_len : PySem.W.nsIn K mainGlobals "len" = some none)
    (z_list : PySem.W.nsIn K mainGlobals "list" = some none)
    (z_max : PySem.W.nsIn K mainGlobals "max" = some none)
    (z_min : PySem.W.nsIn K mainGlobals "min" = some none)
    (z_range : PySem.W.nsIn K mainGlobals "range" = some none)
    (z_set : PySem.W.nsIn K mainGlobals "set" = some none)
    (z_sorted : PySem.W.nsIn K mainGlobals "sorted" = some none)
    (z_sum : PySem.W.nsIn K mainGlobals "sum" = some none)
    (z_tuple : PySem.W.nsIn K mainGlobals "tuple" = some none)
    {t_MAX_SIZE : Tok} (y_MAX_SIZE : PySem.W.nsIn K mainGlobals "MAX_SIZE" = some (some (.int (1000000) t_MAX_SIZE)))
    {t_MAX_SHELF : Tok} (y_MAX_SHELF : PySem.W.nsIn K mainGlobals "MAX_SHELF" = some (some (.int (100) t_MAX_SHELF)))
    {t_NO_PAIR : Tok} (y_NO_PAIR : PySem.W.nsIn K mainGlobals "NO_PAIR" = some (some (.int (-1) t_NO_PAIR)))
    (h_cg : PySem.W.specialIn K (.builtin "object.__class__") "__get__" = some (some (.builtin "getset_descriptor.__get__")))
    (h_ct : PySem.W.takesIn K (.builtin "object.__class__") = some true)
    (h_a_PartyError : PySem.W.nsIn K mainGlobals "PartyError" = some (some (.ref C_PartyError)))
    (h_a_BadShelf : PySem.W.nsIn K mainGlobals "BadShelf" = some (some (.ref C_BadShelf)))
    (h_ty_BadShelf : PySem.W.typeIn K (.ref C_BadShelf) = some (.type "type"))
    (h_k_BadShelf : PySem.W.keepIn K (.ref C_BadShelf) = true)
    (h_sa_BadShelf : PySem.W.findIn K (.ref C_BadShelf) "__setattr__" = some (some (.builtin "object.__setattr__")))
    (h_a_TooManyPairs : PySem.W.nsIn K mainGlobals "TooManyPairs" = some (some (.ref C_TooManyPairs)))
    (h_ty_TooManyPairs : PySem.W.typeIn K (.ref C_TooManyPairs) = some (.type "type"))
    (h_k_TooManyPairs : PySem.W.keepIn K (.ref C_TooManyPairs) = true)
    (h_a_Missing : PySem.W.nsIn K mainGlobals "Missing" = some (some (.ref C_Missing)))
    (h_ty_Missing : PySem.W.typeIn K (.ref C_Missing) = some (.type "type"))
    (h_k_Missing : PySem.W.keepIn K (.ref C_Missing) = true)
    (h_sa_Missing : PySem.W.findIn K (.ref C_Missing) "__setattr__" = some (some (.builtin "object.__setattr__")))
    (h_a_BadFoot : PySem.W.nsIn K mainGlobals "BadFoot" = some (some (.ref C_BadFoot)))
    (h_ty_BadFoot : PySem.W.typeIn K (.ref C_BadFoot) = some (.type "type"))
    (h_k_BadFoot : PySem.W.keepIn K (.ref C_BadFoot) = true)
    (h_sa_BadFoot : PySem.W.findIn K (.ref C_BadFoot) "__setattr__" = some (some (.builtin "object.__setattr__")))
    (h_a_NoPlace : PySem.W.nsIn K mainGlobals "NoPlace" = some (some (.ref C_NoPlace)))
    (h_a_Shelf : PySem.W.nsIn K mainGlobals "Shelf" = some (some (.ref C_Shelf)))
    (h_cl_Shelf : PySem.W.isClsIn K C_Shelf = true)
    (h_ty_Shelf : PySem.W.typeIn K (.ref C_Shelf) = some (.type "type"))
    (h_k_Shelf : PySem.W.keepIn K (.ref C_Shelf) = true)
    (h_hd_Shelf : PySem.W.hasDictIn K C_Shelf = true)
    (h_ca_Shelf : PySem.W.findIn K (.ref C_Shelf) "__class__" = some (some (.builtin "object.__class__")))
    (h_mo_Shelf : PySem.W.mroIn K C_Shelf (.type "object") = some true)
    (h_sa_Shelf : PySem.W.findIn K (.ref C_Shelf) "__setattr__" = some (some (.builtin "object.__setattr__")))
    (h_s_Shelf_Shelf : PySem.W.subIn K (.ref C_Shelf) (.ref C_Shelf) = some true)
    (h_a_Porter : PySem.W.nsIn K mainGlobals "Porter" = some (some (.ref C_Porter)))
    (h_k_Porter : PySem.W.keepIn K (.ref C_Porter) = true)
    (h_hd_Porter : PySem.W.hasDictIn K C_Porter = true)
    (h_sa_Porter : PySem.W.findIn K (.ref C_Porter) "__setattr__" = some (some (.builtin "object.__setattr__")))
    (h_sb_BadShelf : PySem.W.subIn K (.ref C_BadShelf) (.type "BaseException") = some true)
    (h_n_BadShelf : PySem.W.findIn K (.ref C_BadShelf) "value" = some none)
    (h_sb_TooManyPairs : PySem.W.subIn K (.ref C_TooManyPairs) (.type "BaseException") = some true)
    (h_sb_Missing : PySem.W.subIn K (.ref C_Missing) (.type "BaseException") = some true)
    (h_n_Missing : PySem.W.findIn K (.ref C_Missing) "size" = some none)
    (h_sb_BadFoot : PySem.W.subIn K (.ref C_BadFoot) (.type "BaseException") = some true)
    (h_n_BadFoot : PySem.W.findIn K (.ref C_BadFoot) "value" = some none)
    (h_pg_Shelf : PySem.W.plainGet K C_Shelf Str.empty = true)
    (h_po_Shelf : PySem.W.plainOver K C_Shelf = true)
    (h_mk_Shelf : PySem.W.makesIn K C_Shelf = true)
    (h_sf_Shelf : PySem.W.selfFirst K C_Shelf = true)
    (h_ne_Shelf : PySem.W.findIn K (.ref C_Shelf) "__ne__" = some (some (.builtin "object.__ne__")))
    (h_f_Shelf_sizes : PySem.W.findIn K (.ref C_Shelf) "sizes" = some none)
    (h_pg_Porter : PySem.W.plainGet K C_Porter Str.empty = true)
    (h_po_Porter : PySem.W.plainOver K C_Porter = true)
    (h_mk_Porter : PySem.W.makesIn K C_Porter = true)
    (h_f_Porter_left : PySem.W.findIn K (.ref C_Porter) "left" = some none)
    (h_f_Porter_served : PySem.W.findIn K (.ref C_Porter) "served" = some none)
    {nm_BadShelf q_BadShelf : Str} {N_BadShelf : Addr} {bs_BadShelf bm_BadShelf : List Value} {sn_BadShelf : List Str} {sub_BadShelf : List Value} {ab_BadShelf : Bool} {col_BadShelf : Option Bool} {dd_BadShelf : Option Addr} {m0_BadShelf m1_BadShelf m2_BadShelf m3_BadShelf m5_BadShelf : Option Value}
    (xL_BadShelf : K.lookup C_BadShelf = some (excClassObj nm_BadShelf q_BadShelf C_BadShelf N_BadShelf bs_BadShelf bm_BadShelf true sn_BadShelf sub_BadShelf ab_BadShelf col_BadShelf dd_BadShelf m0_BadShelf m1_BadShelf m2_BadShelf m3_BadShelf m5_BadShelf "ValueError.__new__")) (xr_BadShelf : PySem.HandSPX.refsVE bm_BadShelf = true)
    {nm_Missing q_Missing : Str} {N_Missing : Addr} {bs_Missing bm_Missing : List Value} {sn_Missing : List Str} {sub_Missing : List Value} {ab_Missing : Bool} {col_Missing : Option Bool} {dd_Missing : Option Addr} {m0_Missing m1_Missing m2_Missing m3_Missing m5_Missing : Option Value}
    (xL_Missing : K.lookup C_Missing = some (excClassObj nm_Missing q_Missing C_Missing N_Missing bs_Missing bm_Missing true sn_Missing sub_Missing ab_Missing col_Missing dd_Missing m0_Missing m1_Missing m2_Missing m3_Missing m5_Missing "ValueError.__new__")) (xr_Missing : PySem.HandSPX.refsVE bm_Missing = true)
    {nm_BadFoot q_BadFoot : Str} {N_BadFoot : Addr} {bs_BadFoot bm_BadFoot : List Value} {sn_BadFoot : List Str} {sub_BadFoot : List Value} {ab_BadFoot : Bool} {col_BadFoot : Option Bool} {dd_BadFoot : Option Addr} {m0_BadFoot m1_BadFoot m2_BadFoot m3_BadFoot m5_BadFoot : Option Value}
    (xL_BadFoot : K.lookup C_BadFoot = some (excClassObj nm_BadFoot q_BadFoot C_BadFoot N_BadFoot bs_BadFoot bm_BadFoot true sn_BadFoot sub_BadFoot ab_BadFoot col_BadFoot dd_BadFoot m0_BadFoot m1_BadFoot m2_BadFoot m3_BadFoot m5_BadFoot "ValueError.__new__")) (xr_BadFoot : PySem.HandSPX.refsVE bm_BadFoot = true)
    (e0_PartyError : PySem.W.excIn K C_PartyError [.type "ValueError", .type "Exception", .type "BaseException", .type "object"] "ValueError.__new__" = true)
    (e0_TooManyPairs : PySem.W.excIn K C_TooManyPairs [.type "ValueError", .type "Exception", .type "BaseException", .type "object"] "ValueError.__new__" = true)
    : ∃ fd : FuncData, (∀ (s : Shared) (v : Value), BindsTo s fd ⟨[v], []⟩ [("script", v)]) ∧ ∀ base : Heap, K.In base → base.Ns mainGlobals mg → FnG l.prog w K mg base 10 fa fd ["script"] (spLaw K) :=
  all_mk (C := ⟨C_PartyError, C_BadShelf, C_TooManyPairs, C_Missing, C_BadFoot, C_NoPlace, C_Shelf, C_Porter⟩) X G hfa a0 l0 c0 k0 a1 l1 c1 k1 a2 l2 c2 k2 a3 l3 c3 k3 a4 l4 c4 k4 a5 l5 c5 k5 a6 l6 c6 k6 a7 l7 c7 k7 a8 l8 c8 k8 a9 l9 c9 k9 a10 l10 c10 k10 a11 l11 c11 k11 a12 l12 c12 k12 a13 l13 c13 k13 a14 l14 c14 k14 a15 l15 c15 k15 a16 l16 c16 k16 a17 l17 c17 k17 a18 l18 c18 k18 a19 l19 c19 k19 a20 l20 c20 k20 a21 l21 c21 k21 a22 l22 c22 k22 a23 fn23 l23 c23 k23 a24 fn24 l24 c24 k24 a25 fn25 l25 c25 k25 a26 fn26 fx26 l26 c26 k26 a27 fn27 l27 c27 k27 a28 fn28 l28 c28 k28 a29 fn29 l29 c29 k29 a30 tI30 l30 c30 k30 a31 tI31 l31 c31 k31 a32 tI32 l32 c32 k32 z_LookupError z_ValueError z_abs z_all z_bool z_enumerate z_int z_isinstance z_len z_list z_max z_min z_range z_set z_sorted z_sum z_tuple y_MAX_SIZE y_MAX_SHELF y_NO_PAIR h_cg h_ct h_a_PartyError h_a_BadShelf h_ty_BadShelf h_k_BadShelf h_sa_BadShelf h_a_TooManyPairs h_ty_TooManyPairs h_k_TooManyPairs h_a_Missing h_ty_Missing h_k_Missing h_sa_Missing h_a_BadFoot h_ty_BadFoot h_k_BadFoot h_sa_BadFoot h_a_NoPlace h_a_Shelf h_cl_Shelf h_ty_Shelf h_k_Shelf h_hd_Shelf h_ca_Shelf h_mo_Shelf h_sa_Shelf h_s_Shelf_Shelf h_a_Porter h_k_Porter h_hd_Porter h_sa_Porter h_sb_BadShelf h_n_BadShelf h_sb_TooManyPairs h_sb_Missing h_n_Missing h_sb_BadFoot h_n_BadFoot h_pg_Shelf h_po_Shelf h_mk_Shelf h_sf_Shelf h_ne_Shelf h_f_Shelf_sizes h_pg_Porter h_po_Porter h_mk_Porter h_f_Porter_left h_f_Porter_served xL_BadShelf xr_BadShelf xL_Missing xr_Missing xL_BadFoot xr_BadFoot e0_PartyError e0_TooManyPairs
end DL
open PySem PySem.W PyProof.Rows in
set_option maxRecDepth 100000 in
set_option maxHeartbeats 0 in
theorem PySem.Challenge.cw_shoeparty_k31_whole_porters_and_the_rule_holds : PySem.Challenge.rw_shoeparty_k31_whole_porters_and_the_rule.Holds := by
  w_on; o_law; k_head; (case hw => w_witness2)
  k_fill
  refine DL.walk_g (l := PySem.Challenge.rw_shoeparty_k31_whole_porters_and_the_rule) (k := 10) (x := "script") rfl rfl ⟨rfl, by decide, by decide⟩ (fun w h Y => PySem.W.kIn_of Y) ?F
  case F =>
    intro w mg fa h KX G hmg
    refine' DL.all_mk2 KX G hmg ?a0 ?l0 ?c0 ?k0 ?a1 ?l1 ?c1 ?k1 ?a2 ?l2 ?c2 ?k2 ?a3 ?l3 ?c3 ?k3 ?a4 ?l4 ?c4 ?k4 ?a5 ?l5 ?c5 ?k5 ?a6 ?l6 ?c6 ?k6 ?a7 ?l7 ?c7 ?k7 ?a8 ?l8 ?c8 ?k8 ?a9 ?l9 ?c9 ?k9 ?a10 ?l10 ?c10 ?k10 ?a11 ?l11 ?c11 ?k11 ?a12 ?l12 ?c12 ?k12 ?a13 ?l13 ?c13 ?k13 ?a14 ?l14 ?c14 ?k14 ?a15 ?l15 ?c15 ?k15 ?a16 ?l16 ?c16 ?k16 ?a17 ?l17 ?c17 ?k17 ?a18 ?l18 ?c18 ?k18 ?a19 ?l19 ?c19 ?k19 ?a20 ?l20 ?c20 ?k20 ?a21 ?l21 ?c21 ?k21 ?a22 ?l22 ?c22 ?k22 ?a23 ?fn23 ?l23 ?c23 ?k23 ?a24 ?fn24 ?l24 ?c24 ?k24 ?a25 ?fn25 ?l25 ?c25 ?k25 ?a26 ?fn26 ?fx26 ?l26 ?c26 ?k26 ?a27 ?fn27 ?l27 ?c27 ?k27 ?a28 ?fn28 ?l28 ?c28 ?k28 ?a29 ?fn29 ?l29 ?c29 ?k29 ?a30 ?tI30 ?l30 ?c30 ?k30 ?a31 ?tI31 ?l31 ?c31 ?k31 ?a32 ?tI32 ?l32 ?c32 ?k32 ?z_LookupError ?z_ValueError ?z_abs ?z_all ?z_bool ?z_enumerate ?z_int ?z_isinstance ?z_len ?z_list ?z_max ?z_min ?z_range ?z_set ?z_sorted ?z_sum ?z_tuple ?y_MAX_SIZE ?y_MAX_SHELF ?y_NO_PAIR ?h_cg ?h_ct ?h_a_PartyError ?h_a_BadShelf ?h_ty_BadShelf ?h_k_BadShelf ?h_sa_BadShelf ?h_a_TooManyPairs ?h_ty_TooManyPairs ?h_k_TooManyPairs ?h_a_Missing ?h_ty_Missing ?h_k_Missing ?h_sa_Missing ?h_a_BadFoot ?h_ty_BadFoot ?h_k_BadFoot ?h_sa_BadFoot ?h_a_NoPlace ?h_a_Shelf ?h_cl_Shelf ?h_ty_Shelf ?h_k_Shelf ?h_hd_Shelf ?h_ca_Shelf ?h_mo_Shelf ?h_sa_Shelf ?h_s_Shelf_Shelf ?h_a_Porter ?h_k_Porter ?h_hd_Porter ?h_sa_Porter ?h_sb_BadShelf ?h_n_BadShelf ?h_sb_TooManyPairs ?h_sb_Missing ?h_n_Missing ?h_sb_BadFoot ?h_n_BadFoot ?h_pg_Shelf ?h_po_Shelf ?h_mk_Shelf ?h_sf_Shelf ?h_ne_Shelf ?h_f_Shelf_sizes ?h_pg_Porter ?h_po_Porter ?h_mk_Porter ?h_f_Porter_left ?h_f_Porter_served ?xL_BadShelf ?xr_BadShelf ?xL_Missing ?xr_Missing ?xL_BadFoot ?xr_BadFoot ?e0_PartyError ?e0_TooManyPairs
    (case h_a_PartyError => k_is)
    (case h_a_BadShelf => k_is)
    (case h_a_TooManyPairs => k_is)
    (case h_a_Missing => k_is)
    (case h_a_BadFoot => k_is)
    (case h_a_NoPlace => k_is)
    (case h_a_Shelf => k_is)
    (case h_a_Porter => k_is)
    (case a0 => k_is)
    (case l0 => k_is)
    (case c0 => k_is)
    (case k0 => k_is)
    (case a1 => k_is)
    (case l1 => k_is)
    (case c1 => k_is)
    (case k1 => k_is)
    (case a2 => k_is)
    (case l2 => k_is)
    (case c2 => k_is)
    (case k2 => k_is)
    (case a3 => k_is)
    (case l3 => k_is)
    (case c3 => k_is)
    (case k3 => k_is)
    (case a4 => k_is)
    (case l4 => k_is)
    (case c4 => k_is)
    (case k4 => k_is)
    (case a5 => k_is)
    (case l5 => k_is)
    (case c5 => k_is)
    (case k5 => k_is)
    (case a6 => k_is)
    (case l6 => k_is)
    (case c6 => k_is)
    (case k6 => k_is)
    (case a7 => k_is)
    (case l7 => k_is)
    (case c7 => k_is)
    (case k7 => k_is)
    (case a8 => k_is)
    (case l8 => k_is)
    (case c8 => k_is)
    (case k8 => k_is)
    (case a9 => k_is)
    (case l9 => k_is)
    (case c9 => k_is)
    (case k9 => k_is)
    (case a10 => k_is)
    (case l10 => k_is)
    (case c10 => k_is)
    (case k10 => k_is)
    (case a11 => k_is)
    (case l11 => k_is)
    (case c11 => k_is)
    (case k11 => k_is)
    (case a12 => k_is)
    (case l12 => k_is)
    (case c12 => k_is)
    (case k12 => k_is)
    (case a13 => k_is)
    (case l13 => k_is)
    (case c13 => k_is)
    (case k13 => k_is)
    (case a14 => k_is)
    (case l14 => k_is)
    (case c14 => k_is)
    (case k14 => k_is)
    (case a15 => k_is)
    (case l15 => k_is)
    (case c15 => k_is)
    (case k15 => k_is)
    (case a16 => k_is)
    (case l16 => k_is)
    (case c16 => k_is)
    (case k16 => k_is)
    (case a17 => k_is)
    (case l17 => k_is)
    (case c17 => k_is)
    (case k17 => k_is)
    (case a18 => k_is)
    (case l18 => k_is)
    (case c18 => k_is)
    (case k18 => k_is)
    (case a19 => k_is)
    (case l19 => k_is)
    (case c19 => k_is)
    (case k19 => k_is)
    (case a20 => k_is)
    (case l20 => k_is)
    (case c20 => k_is)
    (case k20 => k_is)
    (case a21 => k_is)
    (case l21 => k_is)
    (case c21 => k_is)
    (case k21 => k_is)
    (case a22 => k_is)
    (case l22 => k_is)
    (case c22 => k_is)
    (case k22 => k_is)
    (case a23 => k_is)
    (case fn23 => k_is)
    (case l23 => k_is)
    (case c23 => k_is)
    (case k23 => k_is)
    (case a24 => k_is)
    (case fn24 => k_is)
    (case l24 => k_is)
    (case c24 => k_is)
    (case k24 => k_is)
    (case a25 => k_is)
    (case fn25 => k_is)
    (case l25 => k_is)
    (case c25 => k_is)
    (case k25 => k_is)
    (case a26 => k_is)
    (case fn26 => k_is)
    (case fx26 => k_is)
    (case l26 => k_is)
    (case c26 => k_is)
    (case k26 => k_is)
    (case a27 => k_is)
    (case fn27 => k_is)
    (case l27 => k_is)
    (case c27 => k_is)
    (case k27 => k_is)
    (case a28 => k_is)
    (case fn28 => k_is)
    (case l28 => k_is)
    (case c28 => k_is)
    (case k28 => k_is)
    (case a29 => k_is)
    (case fn29 => k_is)
    (case l29 => k_is)
    (case c29 => k_is)
    (case k29 => k_is)
    (case a30 => k_is)
    (case tI30 => k_is)
    (case l30 => k_is)
    (case c30 => k_is)
    (case k30 => k_is)
    (case a31 => k_is)
    (case tI31 => k_is)
    (case l31 => k_is)
    (case c31 => k_is)
    (case k31 => k_is)
    (case a32 => k_is)
    (case tI32 => k_is)
    (case l32 => k_is)
    (case c32 => k_is)
    (case k32 => k_is)
    (case z_LookupError => k_is)
    (case z_ValueError => k_is)
    (case z_abs => k_is)
    (case z_all => k_is)
    (case z_bool => k_is)
    (case z_enumerate => k_is)
    (case z_int => k_is)
    (case z_isinstance => k_is)
    (case z_len => k_is)
    (case z_list => k_is)
    (case z_max => k_is)
    (case z_min => k_is)
    (case z_range => k_is)
    (case z_set => k_is)
    (case z_sorted => k_is)
    (case z_sum => k_is)
    (case z_tuple => k_is)
    (case y_MAX_SIZE => k_is)
    (case y_MAX_SHELF => k_is)
    (case y_NO_PAIR => k_is)
    (case h_cg => k_is)
    (case h_ct => k_is)
    (case h_ty_BadShelf => k_is)
    (case h_k_BadShelf => k_is)
    (case h_sa_BadShelf => k_is)
    (case h_ty_TooManyPairs => k_is)
    (case h_k_TooManyPairs => k_is)
    (case h_ty_Missing => k_is)
    (case h_k_Missing => k_is)
    (case h_sa_Missing => k_is)
    (case h_ty_BadFoot => k_is)
    (case h_k_BadFoot => k_is)
    (case h_sa_BadFoot => k_is)
    (case h_cl_Shelf => k_is)
    (case h_ty_Shelf => k_is)
    (case h_k_Shelf => k_is)
    (case h_hd_Shelf => k_is)
    (case h_ca_Shelf => k_is)
    (case h_mo_Shelf => k_is)
    (case h_sa_Shelf => k_is)
    (case h_s_Shelf_Shelf => k_is)
    (case h_k_Porter => k_is)
    (case h_hd_Porter => k_is)
    (case h_sa_Porter => k_is)
    (case h_sb_BadShelf => k_is)
    (case h_n_BadShelf => k_is)
    (case h_sb_TooManyPairs => k_is)
    (case h_sb_Missing => k_is)
    (case h_n_Missing => k_is)
    (case h_sb_BadFoot => k_is)
    (case h_n_BadFoot => k_is)
    (case h_pg_Shelf => k_is)
    (case h_po_Shelf => k_is)
    (case h_mk_Shelf => k_is)
    (case h_sf_Shelf => k_is)
    (case h_ne_Shelf => k_is)
    (case h_f_Shelf_sizes => k_is)
    (case h_pg_Porter => k_is)
    (case h_po_Porter => k_is)
    (case h_mk_Porter => k_is)
    (case h_f_Porter_left => k_is)
    (case h_f_Porter_served => k_is)
    (case xL_BadShelf => k_is)
    (case xL_Missing => k_is)
    (case xL_BadFoot => k_is)
    (case xr_BadShelf => decide +kernel)
    (case xr_Missing => decide +kernel)
    (case xr_BadFoot => decide +kernel)
    (case e0_PartyError => k_exc)
    (case e0_TooManyPairs => k_exc)
#print axioms PySem.Challenge.cw_shoeparty_k31_whole_porters_and_the_rule_holds
